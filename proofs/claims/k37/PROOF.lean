import PyProof.Rows.All
import Wide.All
import OpenK.AllK
import Wide.FinOn
import Lean
import PyProof.EqAt
import PyProof.EqKinds
import PyProof.TupleCall
import PyProof.PassesOwn
import PyProof.StationsW
import OpenK.KCls
import PyProof.ExcAttrAll.ValueError
import PyProof.ExcClass3
import PyProof.WalksEnum
import PyProof.EnumMake
import PyProof.EnumFor
import PyProof.EnumStmt
import PyProof.MeetsStr
import PyProof.StrLawsTight
import PyProof.NeKinds
import PyProof.Rows.SumAny
import PyProof.SeqI3
import PyProof.ZipIter
import PyProof.WalksMore
import PyProof.ListNew
import KE.KRevIter
import PyProof.AutoSeq1
import PyProof.FactsAll.list
import PyProof.IsRules
import KE.KItemsList
import PyProof.StrBlockL
import PyProof.StrBlockI
import PyProof.StrBlock2
import PyProof.StrLawsIn
import PyProof.StrLawsChain
import PyProof.Rows.StrLast
import PyProof.Rows.StrItems
import KE.IntTextText
import KE.KLam
import KE.KNestM
import PyProof.FactsAll.object_1
import PyProof.CallType
import KE.KIntText
import KE.KDictList
import PyProof.IsiTupleOf
import KE.KDictSum
import PyProof.Rows.SortWalk
import KE.KDictOf
import PyProof.AttrMissHeap
import PyProof.Walks
import PyProof.FString
import PySem.Challenge.RW_reusewise_k37_functions_handed_on
set_option Elab.async false
set_option linter.all false
set_option maxRecDepth 100000
set_option maxHeartbeats 4000000
open PySem.W renaming Frag → ua, findIn → uy, emptyDict → uT, keepIn → uU, nsIn → uY, fnOf → u9, mg_none_of → Ug, kia_one → Up, hasDictIn → Uv, codeIn → UE, instObj → UF, mg_of → UM, takerIn → UY, plainGet → U2, codeHdIn → U4, callWith_K → U9
open List renaming length_map → ub, getElem?_eq_some_iff → ud, length_append → uf, getElem?_eq_getElem → ug, mem_singleton → uh, getElem?_map → uj, mem_cons_self → uo, mem_cons → uq, mem_cons_of_mem → ut, mem_of_getElem? → uu, getElem?_append_left → uv, size_toArray → uz, length_cons → uD, take_of_length_le → uE, map_append → uF, append_assoc → uG, mem_of_find?_eq_some → uH, getElem?_append_right → uL, mem_append_right → uM, mem_append → uN, append_nil → uO, map_cons → uP, length_take → uR, length_reverse → uZ, mem_map → Ua, set → Ub, cons_append → Uc, getElem?_of_mem → Ud, mem_append_left → Uj, find?_cons → Uk, length_pos_iff → Um, flatten_cons → Uo, nodup_cons → Uq, lookup_cons → Ur, replicate → Ut, mem_range → Uu, take_add_one → Ux, length_replicate → Uz, take_append_drop → UA, all_eq_true → UB, not_mem_nil → UC, find?_some → UG, take_succ_cons → UH, lookup → UK, any_cons → UL, find?_eq_none → UN, length_range → UQ, range → UR, length_drop → UT, getElem?_set_self → UW, getElem?_reverse → U0, flatten_nil → U5, drop_eq_getElem_cons → U6, reverse_append → U8
open PySem.Heap renaming get?_push_of_some → uc, lt_size → um, get?_push_size → uw, get?_update_other → uI, get?_update_self → u0, size_push → Ui
open Nat renaming le_refl → ui, lt_of_lt_of_le → ux, ne_of_lt → uQ, le_trans → uX, zero_le → u6, lt_irrefl → Us, ne_of_gt → UI, sub_self → UP, lt_succ_self → US, add_assoc → UZ, le_add_right → U3
open Option renaming map_eq_some_iff → uk, some → Ul, isSome_iff_exists → UD, map_some → UO
open Bool renaming false_ne_true → uB, and_eq_true → UU
open PySem renaming boot_len → uC, mem_of_lookup → Uy
open PyProof.Rows renaming boot_isinstance → uJ, boot_tuple → uW, callWith_type1 → Uh, boot_bool → UJ, boot_list → UX, boot_int → U1
open PySem.Builtin.SmallTypes renaming nextOf → uK, ownedTupleIsFree → uS, ownedTupleHandOut → U7
open PySem.F renaming plainAttrs_list → uV, slot_list_append → Ue, type_list_append → Uf, excBase_ValueError → Uw, slot_zip_getattribute → UV
open Int renaming emod_lt_of_pos → tj
namespace L2
open PySem PySem.Spec PyProof.Rows
abbrev Key:=Sum Int Str
def vg:Key->Value->Bool
 | .inl k,v=>Value.isInt k v
 | .inr x,v=>Value.isStrOf x v
def keyH (w:World):Key->Int
 | .inl k=>hashInt k
 | .inr x=>hashStr w x
theorem z6:∀ {k:Key} {v:Value},vg k v=true->(∃ i t,k=Sum.inl i/\v=Value.int i t)\/(∃ x t,k=Sum.inr x/\v=Value.str x t)
 | .inl i,v,h=>by
  obtain ⟨t,e⟩:=Value.isInt_shape (k:=i) (v:=v) h
  exact .inl ⟨i,t,rfl,e⟩
 | .inr x,v,h=>by
  obtain ⟨t,e⟩:=Value.isStrOf_shape (x:=x) (v:=v) h
  exact .inr ⟨x,t,rfl,e⟩
theorem Xd (i:Int) (t:Tok):vg (.inl i) (.int i t)=true:=by simp [vg,Value.isInt]
theorem Xe (x:Str) (t:Tok):vg (.inr x) (.str x t)=true:=by simp [vg,Value.isStrOf]
theorem Qk (a b:Int):decide ((Sum.inl a:Key)=Sum.inl b)=(a == b):=by
 by_cases e:a=b
 ·subst e; simp
 ·have h:¬ (Sum.inl a:Key)=Sum.inl b:=fun q=>e (Sum.inl.inj q)
  rw [decide_eq_false h]
  exact (beq_eq_false_iff_ne.mpr e).symm
theorem Ql (a b:Str):decide ((Sum.inr a:Key)=Sum.inr b)=decide (a=b):=by
 by_cases e:a=b
 ·subst e; simp
 ·have h:¬ (Sum.inr a:Key)=Sum.inr b:=fun q=>e (Sum.inr.inj q)
  rw [decide_eq_false h,decide_eq_false e]
theorem Qm (a:Int) (b:Str):decide ((Sum.inl a:Key)=Sum.inr b)=false:=decide_eq_false (fun q=>nomatch q)
theorem Qn (a:Str) (b:Int):decide ((Sum.inr a:Key)=Sum.inl b)=false:=decide_eq_false (fun q=>nomatch q)
def yd (prog:Program) (w:World):PySem.KeyKind prog w Key where
 is:=vg
 hash:=keyH w
 inj:=fun v a b ha hb=>by
  rcases z6 ha with ⟨i,t,rfl,rfl⟩ | ⟨x,t,rfl,rfl⟩
  ·rcases z6 hb with ⟨j,u,rfl,e⟩ | ⟨y,u,rfl,e⟩
   ·injection e with e1 _; rw [e1]
   ·exact nomatch e
  ·rcases z6 hb with ⟨j,u,rfl,e⟩ | ⟨y,u,rfl,e⟩
   ·exact nomatch e
   ·injection e with e1 _; rw [e1]
 byValue:=fun k v h=>by
  rcases z6 h with ⟨i,t,rfl,rfl⟩ | ⟨x,t,rfl,rfl⟩ <;> rfl
 pyHash:=fun hv h=>by
  rcases z6 hv with ⟨i,t,rfl,rfl⟩ | ⟨x,t,rfl,rfl⟩
  ·exact wpAny_pyHash_int h
  ·exact wpAny_pyHash_str h
 eqBool:=fun hu hv h=>by
  rcases z6 hu with ⟨i,t,rfl,rfl⟩ | ⟨x,t,rfl,rfl⟩
  ·rcases z6 hv with ⟨j,u,rfl,rfl⟩ | ⟨y,u,rfl,rfl⟩
   ·rw [Qk] at h; exact wpAny_eqBool_int h
   ·rw [Qm] at h; exact SeqAt.EqAt.int_str i t y u _ _ _ _ h
  ·rcases z6 hv with ⟨j,u,rfl,rfl⟩ | ⟨y,u,rfl,rfl⟩
   ·rw [Qn] at h; exact SeqAt.EqAt.str_int x t j u _ _ _ _ h
   ·rw [Ql] at h; exact wpAny_eqBool_str h
 «strs»:=fun k x t v h=>by
  rcases z6 h with ⟨i,u,rfl,e⟩ | ⟨y,u,rfl,e⟩
  ·exact nomatch e
  ·injection e with e1 _
   subst e1
   cases v <;> rfl
theorem jJ (prog:Program) (w:World) (i:Int) (t:Tok):(yd prog w).is (.inl i) (.int i t)=true:=Xd i t
theorem we (prog:Program) (w:World) (x:Str) (t:Tok):(yd prog w).is (.inr x) (.str x t)=true:=Xe x t
end L2
namespace L2
open PySem PySem.Spec PyProof.Rows
inductive V where
 | non | bl (b:Bool) | int (i:Int) | str (x:Str) | byt (b:Array UInt8) | flt (b:UInt64) | ref (a:Addr) | ty (n:String)
 deriving DecidableEq
def RelV:V->Value->Prop
 | .non,u=>u=Value.none
 | .bl b,u=>u=Value.bool b
 | .int i,u=>∃ t,u=Value.int i t
 | .str x,u=>∃ t,u=Value.str x t
 | .byt b,u=>∃ t,u=Value.bytes b t
 | .flt b,u=>∃ t,u=Value.float b t
 | .ref a,u=>u=Value.ref a
 | .ty n,u=>u=Value.type n
abbrev Vals:List V->List Value->Prop:=Paired RelV
theorem Vals.length {xs:List V} {us:List Value} (r:Vals xs us):xs.length=us.length:=Paired.length r
theorem Vals.get:∀ {xs:List V} {us:List Value} {i:Nat} {x:V},Vals xs us->xs[i]?=some x->∃ u,us[i]?=some u/\RelV x u
 | _,_,_,_,.nil,e=>by simp at e
 | _,_,0,_,.cons r _,e=>by simp at e; subst e; exact ⟨_,rfl,r⟩
 | _,_,i + 1,x,.cons _ t,e=>by
  obtain ⟨u,h1,h2⟩:=Vals.get (i:=i) (x:=x) t (by simpa using e)
  exact ⟨u,by simpa using h1,h2⟩
theorem Vals.set {x:V} {u:Value} (r:RelV x u):∀ {xs:List V} {us:List Value} (i:Nat),Vals xs us->Vals (xs.set i x) (us.set i u)
 | _,_,_,.nil=>.nil
 | _,_,0,.cons _ t=>.cons r t
 | _,_,i + 1,.cons q t=>.cons q (Vals.set r i t)
theorem Vals.append:∀ {xs ys:List V} {us ws:List Value},Vals xs us->Vals ys ws->Vals (xs ++ ys) (us ++ ws)
 | _,_,_,_,.nil,s=>s
 | _,_,_,_,.cons r t,s=>.cons r (Vals.append t s)
theorem Vals.take:∀ {xs:List V} {us:List Value} (n:Nat),Vals xs us->Vals (xs.take n) (us.take n)
 | _,_,0,_=>.nil
 | _,_,_ + 1,.nil=>.nil
 | _,_,n + 1,.cons r t=>.cons r (Vals.take n t)
theorem Vals.drop:∀ {xs:List V} {us:List Value} (n:Nat),Vals xs us->Vals (xs.drop n) (us.drop n)
 | _,_,0,r=>r
 | _,_,_ + 1,.nil=>.nil
 | _,_,n + 1,.cons _ t=>Vals.drop n t
def RelO:Option V->Option Value->Prop
 | some v,some u=>RelV v u
 | none,none=>True
 | _,_=>False
def KV {κ:Type}:List (κ × V)->List (κ × Value)->Prop:=Paired fun (p:κ × V) (q:κ × Value)=>p.1=q.1/\RelV p.2 q.2
def kV:Key->V
 | .inl i=>.int i
 | .inr x=>.str x
inductive HO where
 | lst (xs:List V)
 | tup (xs:List V)
 | dK (kvs:List (Key × V)) | dT (kvs:List (List Key × V))
 | set (S:Int->Bool) (n:Nat)
 | ins (C dx:Addr) (fs:List (Str × V))
 | own (x:Addr)
 | xd (fs:List (Str × V))
 | met (f x:Addr)
 | rng (lo hi:Int)
 | frz (o:Obj) (u:HO)
 | tbl (ps:Array Value)
 | ext (φ:Heap->Prop)
abbrev Hp:=Addr->Option HO
def upd (H:Hp) (a:Addr) (o:HO):Hp:=fun b=>if b=a then some o else H b
theorem zf {H:Hp} {a:Addr} {o:HO}:upd H a o a=some o:=by unfold upd; rw [if_pos rfl]
theorem zm {H:Hp} {a b:Addr} {o:HO} (h:b≠a):upd H a o b=H b:=by unfold upd; rw [if_neg h]
theorem z9 {H:Hp} {a b:Addr} {o u:HO} (h:H a=some o) (h':H b=some u) (d:o≠u):a≠b:=by
 intro e; subst e; rw [h] at h'; exact d (Ul.inj h')
theorem zo {H:Hp} {a b:Addr} {o:HO} (h:H a=some o) (h':H b=none):a≠b:=by
 intro e; subst e; rw [h] at h'; cases h'
def IsTupN (h:Heap) (a:Addr) (items:Array Value):Prop:=∃ o,h.get? a=some o/\o.cls=.type "tuple"/\o.dict=none/\∃ n,o.data=.seq items n
theorem IsTupN.is {h:Heap} {a:Addr} {items:Array Value} (x:IsTupN h a items):IsTup h a items:=let ⟨o,a,b,_,c⟩:=x; ⟨o,a,b,c⟩
theorem IsTupN.new (h:Heap) (items:Array Value):IsTupN (h.push { cls:=.type "tuple",data:=.seq items }) h.objs.size items:=⟨_,uw _ rfl,rfl,rfl,_,rfl⟩
section
variable (P:Program) (w:World)
def ObjOk (H:Hp) (h:Heap) (a:Addr):HO->Prop
 | .lst xs=>xs.length<=sizeLine/\∃ (its:List Value) (n:Nat),Vals xs its/\h.get? a=some { cls:=.type "list",data:=.seq its.toArray n }
 | .tup xs=>xs.length<=sizeLine/\∃ its:List Value,Vals xs its/\IsTupN h a its.toArray
 | .dK kvs=>kvs.length<=sizeLine/\(a == sysModules)=false/\∃ vs,KV kvs vs/\h.DictOf (yd P w) a vs
 | .dT kvs=>kvs.length<=sizeLine/\(a == sysModules)=false/\∃ xs:List (List Key × Addr × Value),
   Paired (fun (p:List Key × V) (q:List Key × Addr × Value)=>p.1=q.1/\H q.2.1=some (.tup (p.1.map kV))/\RelV p.2 q.2.2) kvs xs /\
   ∃ o es ep,h.get? a=some o/\o.ExactDict/\o.data=.dict es ep/\es.toList=xs.map (entryOfKey (tupleKind (yd P w)))/\(xs.map (·.1)).Nodup
 | .set S n=>h.SetOf (intKind P w) a S n
 | .ins C dx fs=>H dx=some (.own a)/\fs.length<=1000/\dx≠a/\h.get? a=some (UF C dx) /\
   ∃ mA,h.Ns1 dx mA/\(∀ f,RelO (fs.lookup f) (mA f))/\PySem.Within mA (fs.map (·.1))
 | .own _=>∃ o,h.get? a=some o
 | .xd fs=>∃ mA,h.Ns1 a mA/\∀ f,RelO (fs.lookup f) (mA f)
 | .rng lo hi=>∃ t u v,h.get? a=some { cls:=.type "range",data:=.fields #[.int lo t,.int hi u,.int 1 v] }
 | .frz o u=>h.get? a=some o/\ObjOk H h a u
 | .tbl ps=>h.get? a=some { cls:=.none,data:=.fields ps }
 | .met f x=>h.get? a=some (PySem.W.methodObj (.ref f) (.ref x))
 | .ext φ=>φ h/\(∃ o,h.get? a=some o)/\∀ h1 h2:Heap,φ h1->(∀ o,h1.get? a=some o->h2.get? a=some o)->φ h2
def HOk (H:Hp) (h:Heap):Prop:=∀ a o,H a=some o->ObjOk P w H h a o
end
section
variable {P:Program} {w:World} {H H':Hp} {h h':Heap} {a:Addr} {o:HO}
theorem ObjOk.lt (x:ObjOk P w H h a o):a < h.objs.size:=by
 cases o with
 | lst xs=>obtain ⟨_,_,_,_,e⟩:=x; exact um e
 | tup xs=>obtain ⟨_,_,_,p⟩:=x; exact p.is.lt
 | dK kvs=>obtain ⟨_,_,_,_,o,_,_,e,_⟩:=x; exact um e
 | dT kvs=>obtain ⟨_,_,_,_,o,_,_,e,_⟩:=x; exact um e
 | set S n=>obtain ⟨o,_,_,_,e,_⟩:=x; exact um e
 | ins C dx fs=>obtain ⟨_,_,_,e,_⟩:=x; exact um e
 | own y=>obtain ⟨_,e⟩:=x; exact um e
 | xd fs=>obtain ⟨_,⟨_,_,_,e,_⟩,_⟩:=x; exact um e
 | rng lo hi=>obtain ⟨_,_,_,e⟩:=x; exact um e
 | frz ob u=>obtain ⟨e,_⟩:=x; exact um e
 | tbl ps=>exact um (show h.get? a=some _ from x)
 | met f y=>exact um (show h.get? a=some _ from x)
 | ext φ=>obtain ⟨_,⟨_,e⟩,_⟩:=x; exact um e
theorem Paired.mapP {α β:Type} {F G:α->β->Prop}:∀ {l₁:List α} {l₂:List β},Paired F l₁ l₂->(∀ a b,F a b->G a b)->Paired G l₁ l₂
 | _,_,.nil,_=>.nil
 | _,_,.cons r t,f=>.cons (f _ _ r) (Paired.mapP t f)
theorem ObjOk.stay (x:ObjOk P w H h a o) (k:∀ b u,(b=a\/H b=some (.own a))->h.get? b=some u->h'.get? b=some u)
  (ho:∀ b,H b=some (.own a)->H' b=some (.own a)) (ht:∀ b xs,H b=some (.tup xs)->H' b=some (.tup xs)):ObjOk P w H' h' a o:=by
 induction o with
 | lst xs=>obtain ⟨z,its,n,r,e⟩:=x; exact ⟨z,its,n,r,k _ _ (.inl rfl) e⟩
 | tup xs=>obtain ⟨z,its,r,ob,e,c⟩:=x; exact ⟨z,its,r,ob,k _ _ (.inl rfl) e,c⟩
 | dK kvs=>obtain ⟨z,y,vs,r,ob,es,ep,e,c⟩:=x; exact ⟨z,y,vs,r,ob,es,ep,k _ _ (.inl rfl) e,c⟩
 | dT kvs =>
  obtain ⟨z,y,xs,r,ob,es,ep,e,c⟩:=x
  exact ⟨z,y,xs,Paired.mapP r fun p q z=>⟨z.1,ht _ _ z.2.1,z.2.2⟩,ob,es,ep,k _ _ (.inl rfl) e,c⟩
 | set S n=>obtain ⟨ob,es,ep,t,e,c⟩:=x; exact ⟨ob,es,ep,t,k _ _ (.inl rfl) e,c⟩
 | ins C dx fs =>
  obtain ⟨d,z,ne,e,mA,⟨od,es,ep,e2,c⟩,r⟩:=x
  exact ⟨ho _ d,z,ne,k _ _ (.inl rfl) e,mA,⟨od,es,ep,k _ _ (.inr d) e2,c⟩,r⟩
 | own y=>obtain ⟨ob,e⟩:=x; exact ⟨ob,k _ _ (.inl rfl) e⟩
 | xd fs=>obtain ⟨mA,⟨od,es,ep,e,c⟩,r⟩:=x; exact ⟨mA,⟨od,es,ep,k _ _ (.inl rfl) e,c⟩,r⟩
 | rng lo hi=>obtain ⟨t,u,v,e⟩:=x; exact ⟨t,u,v,k _ _ (.inl rfl) e⟩
 | frz ob u ih=>obtain ⟨e,q⟩:=x; exact ⟨k _ _ (.inl rfl) e,ih q⟩
 | tbl ps =>
  have e:h.get? a=some { cls:=.none,data:=.fields ps }:=x
  show h'.get? a=some { cls:=.none,data:=.fields ps }
  exact k a _ (.inl rfl) e
 | met f y =>
  have e:h.get? a=some (PySem.W.methodObj (.ref f) (.ref y)):=x
  show h'.get? a=some (PySem.W.methodObj (.ref f) (.ref y))
  exact k a _ (.inl rfl) e
 | ext φ=>obtain ⟨p,⟨o,e⟩,st⟩:=x; exact ⟨st _ _ p fun o q=>k _ _ (.inl rfl) q,⟨o,k _ _ (.inl rfl) e⟩,st⟩
theorem HOk.lt (x:HOk P w H h) (e:H a=some o):a < h.objs.size:=(x a o e).lt
theorem HOk.fresh (x:HOk P w H h) (e:h.objs.size<=a):H a=none:=by
 cases q:H a with
 | none=>rfl
 | some u=>exact absurd (ux (x.lt q) e) (Us _)
theorem HOk.kept (x:HOk P w H h) (k:∀ b u,h.get? b=some u->h'.get? b=some u):HOk P w H h':=fun a o e =>
 (x a o e).stay (fun b u _ q=>k b u q) (fun _ q=>q) fun _ _ q=>q
theorem HOk.laid (x:HOk P w H h) (k:∀ b u,h.get? b=some u->h'.get? b=some u) (hp:h.objs.size<=a) (new:ObjOk P w (upd H a o) h' a o):HOk P w (upd H a o) h':=fun b u e=>by
 have hn:=x.fresh hp
 by_cases hb:b=a
 ·subst hb; rw [zf] at e; cases e; exact new
 ·rw [zm hb] at e
  exact (x b u e).stay (fun c v _ q=>k c v q) (fun c q=>by rw [zm (zo q hn)]; exact q) fun c xs q=>by rw [zm (zo q hn)]; exact q
end
def Rd (H:Hp) (a:Addr) (u:HO):Prop:=H a=some u\/∃ o,H a=some (.frz o u)
theorem Rd.ok {P:Program} {w:World} {H:Hp} {h:Heap} {a:Addr} {u:HO} (r:Rd H a u) (x:HOk P w H h):ObjOk P w H h a u:=by
 rcases r with r | ⟨o,r⟩
 ·exact x a u r
 ·obtain ⟨_,q⟩:=x a _ r
  exact q
def Mut:Option HO->Prop
 | some (.lst _)=>True
 | some (.dK _)=>True
 | some (.dT _)=>True
 | some (.set _ _)=>True
 | some (.ins _ _ _)=>True
 | some (.ext _)=>True
 | _=>False
section
variable {P:Program} {w:World} {H:Hp} {h h':Heap} {x e:Addr} {o':HO}
theorem HOk.write (ok:HOk P w H h) (mu:Mut (H x)) (he:e=x\/H e=some (.own x)) (k:∀ b u,b≠e->h.get? b=some u->h'.get? b=some u) (heo:∃ u,h'.get? e=some u)
  (new:ObjOk P w (upd H x o') h' x o'):HOk P w (upd H x o') h':=fun b u q=>by
 have nown:∀ c y,H c=some (.own y)->c≠x:=fun c y r z=>by subst z; rw [r] at mu; exact mu
 have ntup:∀ c xs,H c=some (.tup xs)->c≠x:=fun c xs r z=>by subst z; rw [r] at mu; exact mu
 by_cases hb:b=x
 ·subst hb; rw [zf] at q; cases q; exact new
 ·rw [zm hb] at q
  by_cases hbe:b=e
  ·have q':H b=some (.own x):=by
    rcases he with z | z
    ·exact absurd (hbe.trans z) hb
    ·rw [hbe]; exact z
   rw [q] at q'; cases q'
   obtain ⟨v,hv⟩:=heo
   exact ⟨v,by rw [hbe]; exact hv⟩
  ·refine (ok b u q).stay (fun c v hc r=>k c v ?_ r) (fun c r=>by rw [zm (nown c b r)]; exact r) fun c xs r=>by rw [zm (ntup c xs r)]; exact r
   rcases hc with rfl | hc
   ·exact hbe
   ·rintro rfl
    rcases he with z | z
    ·exact nown c b hc z
    ·rw [hc] at z; cases z; exact hb rfl
end
structure Un (fs ex:List Addr) (H H':Hp) (h h':Heap):Prop where
 keep:∀ b o,h.get? b=some o->H b=none->b ∉ fs->b ∉ ex->h'.get? b=some o
 slot:∀ b o,h.get? b=some o->H b=none->b∈fs->b ∉ ex->∃ sl,h'.get? b=some { o with slots:=sl }
 free:∀ b o,h.get? b=some o->H b=none->b ∉ ex->H' b=none
 there:∀ b o,h.get? b=some o->b ∉ ex->∃ o',h'.get? b=some o'
 tups:∀ b xs,H b=some (.tup xs)->H' b=some (.tup xs)
 frzs:∀ b o u,H b=some (.frz o u)->H' b=some (.frz o u)
 tbls:∀ b ps,H b=some (.tbl ps)->∃ more,H' b=some (.tbl (ps ++ more))
section
variable {fs fs' ex ex':List Addr} {H H1 H2:Hp} {h h1 h2 h':Heap} {a x e:Addr} {o:HO}
theorem Un.any (u:Un fs ex H H1 h h1) {b:Addr} {ob:Obj} (q:h.get? b=some ob) (n:H b=none) (hx:b ∉ ex):∃ sl,h1.get? b=some { ob with slots:=sl }:=by
 by_cases hb:b∈fs
 ·exact u.slot b ob q n hb hx
 ·exact ⟨ob.slots,u.keep b ob q n hb hx⟩
theorem Un.kept (k:∀ b u,h.get? b=some u->h'.get? b=some u):Un fs ex H H h h' :=
 ⟨fun b ob q _ _ _=>k b ob q,fun b ob q _ _ _=>⟨ob.slots,k b ob q⟩,fun _ _ _ n _=>n,fun b ob q _=>⟨ob,k b ob q⟩,fun _ _ q=>q,fun _ _ _ q=>q,fun _ ps q=>⟨#[],by rw [q]; simp⟩⟩
theorem Un.refl:Un fs ex H H h h:=Un.kept fun _ _ q=>q
theorem Un.laid (k:∀ b u,h.get? b=some u->h'.get? b=some u) (hp:h.objs.size<=a) (hn:H a=none):Un fs ex H (upd H a o) h h' where
 keep:=fun b u q _ _ _=>k b u q
 slot:=fun b u q _ _ _=>⟨u.slots,k b u q⟩
 free:=fun b u q n _=>by rw [zm (uQ (ux (um q) hp))]; exact n
 there:=fun b u q _=>⟨u,k b u q⟩
 tups:=fun b xs q=>by rw [zm (zo q hn)]; exact q
 frzs:=fun b u xs q=>by rw [zm (zo q hn)]; exact q
 tbls:=fun b ps q=>⟨#[],by rw [zm (zo q hn),q]; simp⟩
theorem Un.write (mu:Mut (H x)) (he:e=x\/H e=some (.own x)) (k:∀ b u,b≠e->h.get? b=some u->h'.get? b=some u) (heo:∃ u,h'.get? e=some u):Un fs ex H (upd H x o) h h':=by
 have hx:∀ b,H b=none->b≠x:=fun b n z=>by subst z; rw [n] at mu; exact mu
 have hb:∀ b,H b=none->b≠e:=fun b n z=>by
  subst z
  rcases he with r | r
  ·exact hx b n r
  ·rw [n] at r; cases r
 have hm:∀ b u,H b=some u->¬ Mut (some u)->b≠x:=fun b u q nm z=>by subst z; rw [q] at mu; exact nm mu
 refine ⟨fun b u q n _ _=>k b u (hb b n) q,fun b u q n _ _=>⟨u.slots,k b u (hb b n) q⟩,fun b u q n _=>by rw [zm (hx b n)]; exact n,fun b u q _=>?_,
  fun b xs q=>by rw [zm (hm b _ q fun z=>z)]; exact q,fun b u xs q=>by rw [zm (hm b _ q fun z=>z)]; exact q,fun b ps q=>⟨#[],by rw [zm (hm b _ q fun z=>z),q]; simp⟩⟩
 by_cases hbe:b=e
 ·subst hbe; exact heo
 ·exact ⟨u,k b u hbe q⟩
end
def trk (h:Heap) (H:Hp):List Addr:=(UR h.objs.size).filter fun a=>(H a).isSome
def hidT (h:Heap) (H:Hp):Heap:=PySem.W.hideAll h (trk h H)
theorem Xf (h:Heap) (H:Hp):(hidT h H).objs.size=h.objs.size:=PySem.W.hideAll_size _ _
theorem XW {h:Heap} {H:Hp} {b:Addr} {o:Obj} (e:h.get? b=some o) (n:H b=none):(hidT h H).get? b=some o :=
 PySem.W.hideAll_get _ e fun hm=>by
  have q:(H b).isSome=true:=(List.mem_filter.mp hm).2
  rw [n] at q; simp at q
theorem V3 {h:Heap} {H:Hp} {b:Addr} {o:Obj} (e:(hidT h H).get? b=some o):h.get? b=some o/\H b=none:=by
 have e':h.get? b=some o:=PySem.W.of_hideAll (trk h H) e
 refine ⟨e',?_⟩
 cases q:H b with
 | none=>rfl
 | some x =>
  have hm:b∈trk h H:=List.mem_filter.mpr ⟨Uu.mpr (um e'),by simp [q]⟩
  have z:(hidT h H).get? b=none:=PySem.W.hideAll_none (trk h H) hm
  rw [z] at e; cases e
def V4 (g h:Heap) (L:Addr):List (Addr × Obj):=(UR h.objs.size).filterMap fun a=>if a=L\/(g.get? a).isSome=true then none else (h.get? a).map fun o=>(a,o)
def rest (g h:Heap) (L d:Addr):List (Addr × Obj):=(V4 g h L).filter fun p=>decide (p.1≠d)
end L2
namespace L2
open PySem PySem.Spec PyProof.Rows
structure Mod (K:ua) (mg:Str->Option Value) (base:Heap):Prop where
 kin:K.In base
 glob:base.Ns mainGlobals mg
 blt:∃ mb,base.Ns builtinsNs mb/\∀ x:Str,x≠"__name__"->mb x=bootBuiltins x
 nolimit:base.NoLimit
structure Cx where
 prog:Program
 w:World
 K:ua
 mg:Str->Option Value
 base:Heap
 A:Around
 N:List Str
 s₀:Shared
 H₀:Hp
 env:Env
 outer:List Env
 stack:List Env
 ex:List Addr
 fn:Str->Bool
 calm:Bool
 pn:List (Addr × Obj)
 xe:Value->Shared->Prop
def frs (l:List Env):List Addr:=l.filterMap (·.frame)
abbrev Cx.fs (X:Cx):List Addr:=frs X.outer
def Vis (sc:Scope) (x:Str):Prop:=sc.names.lookup x=some .local\/sc.names.lookup x=some .cell\/sc.names.lookup x=some .free
def Loc (sc:Scope) (x:Str):Prop:=sc.names.lookup x=some .local\/sc.names.lookup x=some .cell
def Look (env:Env) (h:Heap) (m:Str->Option Value) (x:Str) (u:Value):Prop :=
 (env.kindOf x=some .local/\m x=some u)\/((env.kindOf x=some .cell\/env.kindOf x=some .free)/\∃ c,env.cells.lookup x=some c/\h.IsCell c (some u))
structure Cx.Ok (X:Cx):Prop where
 mod:Mod X.K X.mg X.base
 kind:X.env.scope.kind=.function
 glob:X.env.globals=mainGlobals
 blt:X.env.builtins=builtinsNs
 above:X.s₀.heap.objs.size<=X.env.locals
 inj:∀ x y c,X.env.cells.lookup x=some c->X.env.cells.lookup y=some c->x=y
 has:∀ x,(X.env.kindOf x=some .cell\/X.env.kindOf x=some .free)->∃ c,X.env.cells.lookup x=some c
 cab:∀ x c,X.fn x=true->X.env.cells.lookup x=some c->X.s₀.heap.objs.size<=c
 hd:X.calm=true->X.A.handled=none
 frames:X.A.frames=some X.stack
 stk:X.stack=X.outer\/(X.stack=X.env :: X.outer/\X.env.frame=some X.env.locals)
 exf:∀ b∈X.ex,b≠X.env.locals/\∀ x c,X.env.cells.lookup x=some c->c≠b
 bs:∀ b o,X.base.get? b=some o->X.s₀.heap.get? b=some o/\X.H₀ b=none
 bsz:X.base.objs.size<=X.s₀.heap.objs.size
 noex:∀ b o,X.base.get? b=some o->b ∉ X.ex
 exfs:∀ b∈X.ex,b ∉ X.fs
 funs:X.s₀.heap.FunFrames X.base X.outer
 frf:∀ b∈X.fs,X.H₀ b=none
structure Inv (X:Cx) (pins:List (Addr × Obj)) (σ:List (Option V)) (H:Hp) (s:Shared):Prop where
 ok:X.Ok
 os:s.os=X.s₀.os
 bare:AllBare s.gens
 base:Un X.fs X.ex X.H₀ H X.s₀.heap s.heap
 loc:∃ m,s.heap.Ns X.env.locals m/\∀ (i:Nat) (x:Str) (v:V),X.N[i]?=some x->σ[i]?=some (some v)->Vis X.env.scope x->∃ u,RelV v u/\Look X.env s.heap m x u
 cell:∀ x c,X.env.cells.lookup x=some c->∃ v,s.heap.IsCell c v
 free:H X.env.locals=none
 freeC:∀ x c,X.env.cells.lookup x=some c->H c=none
 pin:∀ p∈X.pn ++ pins,s.heap.get? p.1=some p.2/\H p.1=none/\p.1≠X.env.locals/\p.1 ∉ X.fs/\∀ v,p.2.data≠.cell v
 hok:HOk X.prog X.w H s.heap
 len:σ.length=X.N.length
section
variable {X:Cx} {pins:List (Addr × Obj)} {σ:List (Option V)} {H H':Hp} {s:Shared} {h':Heap}
theorem Cx.Ok.nofr (ok:X.Ok) {b:Addr} {o:Obj} (e:X.base.get? b=some o):b ∉ X.fs:=fun hb=>by
 have:=(ok.funs.mem hb).1
 rw [e] at this; cases this
theorem Inv.bs (I:Inv X pins σ H s):∀ b o,X.base.get? b=some o->s.heap.get? b=some o/\H b=none:=fun b o e =>
 ⟨I.base.keep b o (I.ok.bs b o e).1 (I.ok.bs b o e).2 (I.ok.nofr e) (I.ok.noex b o e),I.base.free b o (I.ok.bs b o e).1 (I.ok.bs b o e).2 (I.ok.noex b o e)⟩
theorem Inv.bk (I:Inv X pins σ H s):∀ b o,X.base.get? b=some o->s.heap.get? b=some o:=fun b o e=>(I.bs b o e).1
theorem Inv.mod (I:Inv X pins σ H s):Mod X.K X.mg X.base:=I.ok.mod
theorem Inv.kIn (I:Inv X pins σ H s):X.K.In s.heap:=I.ok.mod.kin.keeps I.bk
theorem Inv.lt (I:Inv X pins σ H s):X.env.locals < s.heap.objs.size:=let ⟨_,hn,_⟩:=I.loc; hn.lt
theorem Inv.sz (I:Inv X pins σ H s):X.s₀.heap.objs.size<=s.heap.objs.size:=uX I.ok.above (Nat.le_of_lt I.lt)
theorem Inv.nofs (I:Inv X pins σ H s) {a:Addr} (h:s.heap.objs.size<=a):a ∉ X.fs:=fun hb=>by
 obtain ⟨_,o,ho,_⟩:=I.ok.funs.mem hb
 exact absurd (ux (um ho) (uX I.sz h)) (Us _)
theorem Inv.cne (I:Inv X pins σ H s):∀ x c,X.env.cells.lookup x=some c->c≠X.env.locals:=fun x c e z=>by
 obtain ⟨v,o,ho,hd⟩:=I.cell x c e
 obtain ⟨m,⟨o',es,ep,ho',hd',_⟩,_⟩:=I.loc
 rw [z,ho'] at ho; cases ho; rw [hd'] at hd; cases hd
theorem Inv.funs (I:Inv X pins σ H s):s.heap.FunFrames X.base X.outer:=by
 have all:∀ (l:List Env),(∀ b∈frs l,b∈X.fs)->X.s₀.heap.FunFrames X.base l->s.heap.FunFrames X.base l:=by
  intro l
  induction l with
  | nil=>intro _ _; trivial
  | cons env r ih =>
   intro hs hl
   obtain ⟨hk,⟨L,o,hf,hn,ho,hd⟩,hr⟩:=hl
   have hL:L∈X.fs:=hs L (by unfold frs; rw [List.filterMap_cons,hf]; exact uo)
   obtain ⟨sl,e⟩:=I.base.slot L o ho (I.ok.frf L hL) hL fun z=>I.ok.exfs L z hL
   exact ⟨hk,⟨L,_,hf,hn,e,hd⟩,ih (fun b hb=>hs b (by unfold frs; rw [List.filterMap_cons,hf]; exact ut _ hb)) hr⟩
 exact all X.outer (fun _ hb=>hb) I.ok.funs
theorem Inv.stack (I:Inv X pins σ H s):s.heap.FunFrames X.base X.stack:=by
 rcases I.ok.stk with e | ⟨e,hf⟩
 ·rw [e]; exact I.funs
 ·rw [e]
  obtain ⟨m,hn,_⟩:=I.loc
  refine .cons (by rw [I.ok.kind]; decide) hf hn ?_ I.funs
  exact Heap.get?_none_of_le (uX I.ok.bsz I.ok.above)
theorem Inv.stkSub (I:Inv X pins σ H s):∀ b∈frs X.stack,b∈X.env.locals :: X.fs:=fun b hb=>by
 rcases I.ok.stk with e | ⟨e,hf⟩
 ·rw [e] at hb; exact ut _ hb
 ·rw [e] at hb
  unfold frs at hb
  rw [List.filterMap_cons,hf] at hb
  exact hb
theorem Inv.stkFree (I:Inv X pins σ H s):∀ b∈frs X.stack,H b=none:=fun b hb=>by
 rcases uq.mp (I.stkSub b hb) with e | hb
 ·rw [e]; exact I.free
 ·obtain ⟨_,o,ho,_⟩:=I.ok.funs.mem hb
  exact I.base.free b o ho (I.ok.frf b hb) fun z=>I.ok.exfs b z hb
theorem Inv.step {g':Array GenState} {t':Nat} {d':Drawn} {ch:List Addr} (I:Inv X pins σ H s)
  (hch:∀ b∈ch,(b∈X.ex\/X.s₀.heap.objs.size<=b)/\b≠X.env.locals/\(∀ x c,X.env.cells.lookup x=some c->c≠b)/\∀ p∈X.pn ++ pins,p.1≠b)
  (keep:∀ b o,b≠X.env.locals->b ∉ X.fs->b ∉ ch->s.heap.get? b=some o->H b=none->h'.get? b=some o)
  (slot:∀ b o,b≠X.env.locals->b∈X.fs->b ∉ ch->s.heap.get? b=some o->H b=none->∃ sl,h'.get? b=some { o with slots:=sl }) (free:∀ b o,b ∉ ch->s.heap.get? b=some o->H b=none->H' b=none)
  (there:∀ b o,b ∉ ch->s.heap.get? b=some o->∃ o',h'.get? b=some o')
  (tups:∀ b xs,H b=some (.tup xs)->H' b=some (.tup xs)) (frzs:∀ b o u,H b=some (.frz o u)->H' b=some (.frz o u)) (tbls:∀ b ps,H b=some (.tbl ps)->∃ more,H' b=some (.tbl (ps ++ more)))
  (ns:∀ m,s.heap.Ns X.env.locals m->h'.Ns X.env.locals m) (hok:HOk X.prog X.w H' h') (hg:AllBare g') :
  Inv X pins σ H' { s with heap:=h',gens:=g',drawn:=d',toks:=t' }:=by
 have neL:∀ b o,X.s₀.heap.get? b=some o->b≠X.env.locals:=fun b o e=>uQ (ux (um e) I.ok.above)
 have neC:∀ b o,X.s₀.heap.get? b=some o->b ∉ X.ex->b ∉ ch:=fun b o e hx hb=>by
  rcases (hch b hb).1 with z | z
  ·exact hx z
  ·exact absurd (ux (um e) z) (Us _)
 have cellK:∀ x c,X.env.cells.lookup x=some c->∀ v,s.heap.IsCell c v->h'.IsCell c v:=fun x c e v ⟨o,ho,hd⟩=>by
  have nch:c ∉ ch:=fun z=>(hch c z).2.2.1 x c e rfl
  by_cases hc:c∈X.fs
  ·obtain ⟨sl,q⟩:=slot c o (I.cne x c e) hc nch ho (I.freeC x c e)
   exact ⟨_,q,hd⟩
  ·exact ⟨o,keep c o (I.cne x c e) hc nch ho (I.freeC x c e),hd⟩
 refine ⟨I.ok,I.os,hg,⟨fun b o e n hb hx=>?_,fun b o e n hb hx=>?_,fun b o e n hx=>?_,fun b o e hx=>?_,fun b xs e=>tups b xs (I.base.tups b xs e),fun b o xs e=>frzs b o xs (I.base.frzs b o xs e),fun b ps e=>?_⟩,?_,fun x c e=>?_,?_,fun x c e=>?_,fun p hp=>?_,hok,I.len⟩
 ·exact keep b o (neL b o e) hb (neC b o e hx) (I.base.keep b o e n hb hx) (I.base.free b o e n hx)
 ·obtain ⟨sl,e1⟩:=I.base.slot b o e n hb hx
  obtain ⟨sl',e2⟩:=slot b _ (neL b o e) hb (neC b o e hx) e1 (I.base.free b o e n hx)
  exact ⟨sl',e2⟩
 ·obtain ⟨o',e1⟩:=I.base.there b o e hx
  exact free b o' (neC b o e hx) e1 (I.base.free b o e n hx)
 ·obtain ⟨o',e1⟩:=I.base.there b o e hx
  exact there b o' (neC b o e hx) e1
 ·obtain ⟨m1,e1⟩:=I.base.tbls b ps e
  obtain ⟨m2,e2⟩:=tbls b _ e1
  exact ⟨m1 ++ m2,by rw [e2,Array.append_assoc]⟩
 ·obtain ⟨m,hn,hl⟩:=I.loc
  refine ⟨m,ns m hn,fun i x v e1 e2 e3=>?_⟩
  obtain ⟨u,r,l⟩:=hl i x v e1 e2 e3
  refine ⟨u,r,?_⟩
  rcases l with l | ⟨k,c,e,z⟩
  ·exact .inl l
  ·exact .inr ⟨k,c,e,cellK x c e _ z⟩
 ·obtain ⟨v,z⟩:=I.cell x c e
  exact ⟨v,cellK x c e v z⟩
 ·obtain ⟨m,⟨o,_,_,ho,_⟩,_⟩:=I.loc
  exact free _ o (fun z=>(hch _ z).2.1 rfl) ho I.free
 ·obtain ⟨v,o,ho,hd⟩:=I.cell x c e
  exact free c o (fun z=>(hch c z).2.2.1 x c e rfl) ho (I.freeC x c e)
 ·obtain ⟨e,n,ne,nf,d⟩:=I.pin p hp
  have nch:p.1 ∉ ch:=fun z=>(hch p.1 z).2.2.2 p hp rfl
  exact ⟨keep p.1 p.2 ne nf nch e n,free p.1 p.2 nch e n,ne,nf,d⟩
theorem Inv.un {t':Nat} (I:Inv X pins σ H s) (u:Un X.fs [] H H' s.heap h') (hok:HOk X.prog X.w H' h'):Inv X pins σ H' { s with heap:=h',toks:=t' }:=by
 obtain ⟨m,⟨o,es,ep,ho,r⟩,_⟩:=id I.loc
 obtain ⟨sl,hL⟩:=u.any ho I.free (by simp)
 exact I.step (g':=s.gens) (d':=s.drawn) (ch:=[]) (fun _ z=>nomatch z) (fun b o _ hb _ e n=>u.keep b o e n hb (by simp)) (fun b o _ hb _ e n=>u.slot b o e n hb (by simp)) (fun b o _ e n=>u.free b o e n (by simp)) (fun b o _ e=>u.there b o e (by simp)) u.tups u.frzs u.tbls (fun m' hm=>by
  obtain ⟨o',es',ep',ho',r'⟩:=hm
  rw [ho] at ho'; cases ho'
  exact ⟨_,es',ep',hL,r'⟩) hok I.bare
theorem Inv.call {g':Array GenState} {t':Nat} {d':Drawn} {ch:List Addr} (I:Inv X pins σ H s) (u:Un (frs X.stack) ch H H' s.heap h') (hok:HOk X.prog X.w H' h') (hg:AllBare g')
  (hch:∀ b∈ch,(b∈X.ex\/X.s₀.heap.objs.size<=b)/\b≠X.env.locals/\(∀ x c,X.env.cells.lookup x=some c->c≠b)/\∀ p∈X.pn ++ pins,p.1≠b) :
  Inv X pins σ H' { s with heap:=h',gens:=g',drawn:=d',toks:=t' }:=by
 obtain ⟨m,⟨o,es,ep,ho,r⟩,_⟩:=id I.loc
 obtain ⟨sl,hL⟩:=u.any ho I.free fun z=>(hch _ z).2.1 rfl
 exact I.step (ch:=ch) hch (fun b o hL hb hc e n=>u.keep b o e n (fun z=>(uq.mp (I.stkSub b z)).elim hL hb) hc) (fun b o _ _ hc e n=>u.any e n hc) (fun b o hc e n=>u.free b o e n hc) (fun b o hc e=>u.there b o e hc) u.tups u.frzs u.tbls (fun m' hm=>by
  obtain ⟨o',es',ep',ho',r'⟩:=hm
  rw [ho] at ho'; cases ho'
  exact ⟨_,es',ep',hL,r'⟩) hok hg
theorem Inv.turned {t':Nat} {it:Addr} (I:Inv X pins σ H s) (k:∀ b o,b≠it->s.heap.get? b=some o->h'.get? b=some o) (hn:H it=none) (hL:it≠X.env.locals)
  (h1:it∈X.ex\/X.s₀.heap.objs.size<=it) (h2:∀ x c,X.env.cells.lookup x=some c->c≠it) (h3:∀ p∈X.pn ++ pins,p.1≠it):Inv X pins σ H { s with heap:=h',toks:=t' }:=by
 have nit:∀ b u,H b=some u->b≠it:=fun b u e z=>by rw [z,hn] at e; cases e
 refine I.step (g':=s.gens) (d':=s.drawn) (ch:=[it]) (fun b hb=>?_) (fun b o _ _ hc e _=>k b o (fun z=>hc (by simp [z])) e) (fun b o _ _ hc e _=>⟨o.slots,k b o (fun z=>hc (by simp [z])) e⟩) (fun _ _ _ _ n=>n)
  (fun b o hc e=>⟨o,k b o (fun z=>hc (by simp [z])) e⟩) (fun _ _ e=>e) (fun _ _ _ e=>e) (fun b ps e=>⟨#[],by rw [e]; simp⟩) (fun m hm=>?_) (fun b u e=>?_) I.bare
 ·have e:b=it:=by simpa using hb
  subst e
  exact ⟨h1,hL,h2,h3⟩
 ·obtain ⟨o,es,ep,ho,r⟩:=hm
  exact ⟨o,es,ep,k _ o (Ne.symm hL) ho,r⟩
 ·refine (I.hok b u e).stay (fun c v hc q=>k c v ?_ q) (fun _ q=>q) fun _ _ q=>q
  rcases hc with z | z
  ·rw [z]; exact nit b u e
  ·exact nit c _ z
theorem Inv.tok (I:Inv X pins σ H s) (t:Nat):Inv X pins σ H { s with toks:=t }:=I.un (h':=s.heap) (t':=t) Un.refl I.hok
theorem Inv.kept {t':Nat} (I:Inv X pins σ H s) (k:∀ b u,s.heap.get? b=some u->h'.get? b=some u):Inv X pins σ H { s with heap:=h',toks:=t' }:=I.un (Un.kept k) (I.hok.kept k)
theorem Inv.laid {a:Addr} {o:HO} {t':Nat} (I:Inv X pins σ H s) (k:∀ b u,s.heap.get? b=some u->h'.get? b=some u) (hp:s.heap.objs.size<=a) (new:ObjOk X.prog X.w (upd H a o) h' a o) :
  Inv X pins σ (upd H a o) { s with heap:=h',toks:=t' }:=I.un (Un.laid k hp (I.hok.fresh hp)) (I.hok.laid k hp new)
theorem Inv.write {x e:Addr} {o:HO} {t':Nat} (I:Inv X pins σ H s) (mu:Mut (H x)) (he:e=x\/H e=some (.own x)) (k:∀ b u,b≠e->s.heap.get? b=some u->h'.get? b=some u) (heo:∃ u,h'.get? e=some u)
  (new:ObjOk X.prog X.w (upd H x o) h' x o):Inv X pins σ (upd H x o) { s with heap:=h',toks:=t' }:=I.un (Un.write mu he k heo) (I.hok.write mu he k heo new)
theorem Inv.pins_of {pins':List (Addr × Obj)} (I:Inv X pins σ H s) (h:∀ p∈pins',s.heap.get? p.1=some p.2/\H p.1=none/\p.1≠X.env.locals/\p.1 ∉ X.fs/\∀ v,p.2.data≠.cell v):Inv X pins' σ H s :=
 ⟨I.ok,I.os,I.bare,I.base,I.loc,I.cell,I.free,I.freeC,fun p hp=>(uN.mp hp).elim (fun z=>I.pin p (Uj _ z)) (h p),I.hok,I.len⟩
theorem xg {N:List Str} (hN:N.Nodup) {i j:Nat} {x:Str} (a:N[i]?=some x) (b:N[j]?=some x):i=j:=by
 obtain ⟨h1,e1⟩:=ud.mp a
 obtain ⟨h2,e2⟩:=ud.mp b
 exact (List.getElem_inj hN).mp (e1.trans e2.symm)
theorem vh {M:Model} {A:Around} {E:Value->Shared->Prop} {i:Nat} {x:Str} {v:V} {u:Value} {Q:Unit->Shared->Prop} (I:Inv X pins σ H s) (hN:X.N.Nodup) (hi:X.N[i]?=some x) (hx:Loc X.env.scope x) (r:RelV v u)
  (h:∀ s',Inv X pins (σ.set i (some v)) H s'->(∃ a,Heap.SameBut a s.heap s'.heap/\(a=X.env.locals\/X.env.cells.lookup x=some a))->Q () s') (hf:X.fn x=true\/X.env.scope.names.lookup x=some .local:=by first | exact .inl rfl | exact .inr rfl | assumption):wpAny M A (storeName X.env x u) Q E s:=by
 obtain ⟨m,hn,hl⟩:=id I.loc
 have hcls:(X.env.scope.kind == .class || (X.env.scope.kind == .module && X.env.locals != X.env.globals))=false:=by rw [I.ok.kind]; rfl
 have hiσ:i < σ.length:=by rw [I.len]; exact (ud.mp hi).1
 have cne:=I.cne
 have tracked:∀ {a:Addr} {h':Heap},(∃ o,s.heap.get? a=some o/\H a=none)->Heap.SameBut a s.heap h'->HOk X.prog X.w H h':=fun {a h'} ha hs b ob e=>by
  obtain ⟨_,_,hfree⟩:=ha
  refine (I.hok b ob e).stay (fun c w' hc q=>(hs.2 c ?_).trans q) (fun _ q=>q) fun _ _ q=>q
  rintro rfl
  rcases hc with rfl | hc
  ·rw [hfree] at e; cases e
  ·rw [hfree] at hc; cases hc
 rcases hx with hk | hk
 ·refine wpAny_storeName_local hk hn (fun h' hn' hs=>?_) hcls
  obtain ⟨oL,_,_,hoL,_⟩:=id hn
  refine h _ ⟨I.ok,I.os,I.bare,⟨fun b o e n hb hx=>?_,fun b o e n hb hx=>?_,I.base.free,fun b o e hx=>?_,I.base.tups,I.base.frzs,I.base.tbls⟩,⟨_,hn',fun j y v' e1 e2 e3=>?_⟩,fun y c e=>?_,I.free,I.freeC,fun p hp=>?_,tracked ⟨oL,hoL,I.free⟩ hs,by simpa using I.len⟩ ⟨_,hs,.inl rfl⟩
  ·exact (hs.2 b (uQ (ux (um e) I.ok.above))).trans (I.base.keep b o e n hb hx)
  ·obtain ⟨sl,e1⟩:=I.base.slot b o e n hb hx
   exact ⟨sl,(hs.2 b (uQ (ux (um e) I.ok.above))).trans e1⟩
  ·obtain ⟨o',e1⟩:=I.base.there b o e hx
   exact ⟨o',(hs.2 b (uQ (ux (um e) I.ok.above))).trans e1⟩
  ·by_cases hj:j=i
   ·subst hj
    rw [hi] at e1; cases e1
    rw [UW hiσ] at e2
    cases e2
    exact ⟨u,r,.inl ⟨hk,by simp⟩⟩
   ·rw [List.getElem?_set_ne (Ne.symm hj)] at e2
    obtain ⟨u',r',q⟩:=hl j y v' e1 e2 e3
    refine ⟨u',r',?_⟩
    rcases q with ⟨k,e⟩ | ⟨k,c,e,z⟩
    ·refine .inl ⟨k,?_⟩
     have:y≠x:=fun e=>hj (xg hN e1 (e ▸ hi))
     simp [this,e]
    ·exact .inr ⟨k,c,e,z.sameBut hs (cne y c e)⟩
  ·obtain ⟨w',z⟩:=I.cell y c e
   exact ⟨w',z.sameBut hs (cne y c e)⟩
  ·obtain ⟨e,n,ne,nf,d⟩:=I.pin p hp
   exact ⟨(hs.2 p.1 ne).trans e,n,ne,nf,d⟩
 ·have hfn:X.fn x=true:=by
   rcases hf with z | z
   ·exact z
   ·rw [z] at hk; cases hk
  obtain ⟨c,hc⟩:=I.ok.has x (.inl hk)
  obtain ⟨w',z⟩:=I.cell x c hc
  refine wpAny_storeName_cell I.ok.kind hk hc z (fun h' hc' hs=>?_)
  obtain ⟨oc,hoc,hocd⟩:=id z
  refine h { s with heap:=h' } ⟨I.ok,I.os,I.bare,⟨fun b o e n hb hx=>?_,fun b o e n hb hx=>?_,I.base.free,fun b o e hx=>?_,I.base.tups,I.base.frzs,I.base.tbls⟩,⟨m,hn.sameBut hs (Ne.symm (cne x c hc)),fun j y v' e1 e2 e3=>?_⟩,fun y c' e=>?_,I.free,I.freeC,fun p hp=>?_,tracked ⟨oc,hoc,I.freeC x c hc⟩ hs,by simpa using I.len⟩ ⟨c,hs,.inr hc⟩
  ·exact (hs.2 b (uQ (ux (um e) (I.ok.cab x c hfn hc)))).trans (I.base.keep b o e n hb hx)
  ·obtain ⟨sl,e1⟩:=I.base.slot b o e n hb hx
   exact ⟨sl,(hs.2 b (uQ (ux (um e) (I.ok.cab x c hfn hc)))).trans e1⟩
  ·obtain ⟨o',e1⟩:=I.base.there b o e hx
   exact ⟨o',(hs.2 b (uQ (ux (um e) (I.ok.cab x c hfn hc)))).trans e1⟩
  ·by_cases hj:j=i
   ·subst hj
    rw [hi] at e1; cases e1
    rw [UW hiσ] at e2
    cases e2
    exact ⟨u,r,.inr ⟨.inl hk,c,hc,hc'⟩⟩
   ·rw [List.getElem?_set_ne (Ne.symm hj)] at e2
    obtain ⟨u',r',q⟩:=hl j y v' e1 e2 e3
    refine ⟨u',r',?_⟩
    rcases q with q | ⟨k,c',e,z'⟩
    ·exact .inl q
    ·refine .inr ⟨k,c',e,z'.sameBut hs ?_⟩
     rintro rfl
     exact hj (xg hN e1 (I.ok.inj _ _ _ e hc ▸ hi))
  ·by_cases hcc:c'=c
   ·subst hcc; exact ⟨_,hc'⟩
   ·obtain ⟨w2,z2⟩:=I.cell y c' e
    exact ⟨w2,z2.sameBut hs hcc⟩
  ·obtain ⟨e,n,ne,nf,d⟩:=I.pin p hp
   refine ⟨(hs.2 p.1 ?_).trans e,n,ne,nf,d⟩
   intro q
   rw [q,hoc] at e
   have q':oc=p.2:=Ul.inj e
   exact d w' (by rw [<- q']; exact hocd)
theorem wC {M:Model} {A:Around} {E:Value->Shared->Prop} {i:Nat} {x:Str} {v:V} {u:Value} {Q:Unit->Shared->Prop} (I:Inv X pins σ H s) (hN:X.N.Nodup) (hi:X.N[i]?=some x) (hx:Loc X.env.scope x) (r:RelV v u)
  (h:∀ s',Inv X pins (σ.set i (some v)) H s'->Q () s') (hf:X.fn x=true\/X.env.scope.names.lookup x=some .local:=by first | exact .inl rfl | exact .inr rfl | assumption):wpAny M A (storeName X.env x u) Q E s :=
 vh I hN hi hx r (fun s' I' _=>h s' I') hf
theorem Inv.call' {s':Shared} {ch:List Addr} (I:Inv X pins σ H s) (ho:s'.os=s.os) (u:Un (frs X.stack) ch H H' s.heap s'.heap) (hok:HOk X.prog X.w H' s'.heap) (hg:AllBare s'.gens)
  (hch:∀ b∈ch,(b∈X.ex\/X.s₀.heap.objs.size<=b)/\b≠X.env.locals/\(∀ x c,X.env.cells.lookup x=some c->c≠b)/\∀ p∈X.pn ++ pins,p.1≠b):Inv X pins σ H' s':=by
 obtain ⟨h',g',d',t',o'⟩:=s'
 have e:o'=s.os:=ho
 subst e
 exact I.call (g':=g') (t':=t') (d':=d') u hok hg hch
end
abbrev XK:=Value->Option Addr->Hp->Prop
abbrev St:=List (Option V)
abbrev VK:=V->Hp->Prop
abbrev TE:=St->Hp->VK->Prop
abbrev TT:=St->Hp->(Bool->Hp->Prop)->Prop
abbrev TA:=St->Hp->(List V->Hp->Prop)->Prop
structure Ends where
 nx:St->Hp->Prop
 rt:VK
 bk:St->Hp->Prop:=fun _ _=>False
 ct:St->Hp->Prop:=fun _ _=>False
abbrev TS:=Ends->St->Hp->Prop
def EP (X:Cx) (pins:List (Addr × Obj)) (σ:St) (Q:VK) (u:Value) (s':Shared):Prop:=∃ v H',Inv X pins σ H' s'/\RelV v u/\Q v H'
def TP (X:Cx) (pins:List (Addr × Obj)) (σ:St) (Q:Bool->Hp->Prop) (b:Bool) (s':Shared):Prop:=∃ H',Inv X pins σ H' s'/\Q b H'
def AP (X:Cx) (pins:List (Addr × Obj)) (σ:St) (Q:List V->Hp->Prop) (us:List Value) (s':Shared):Prop:=∃ vs H',Inv X pins σ H' s'/\Vals vs us/\Q vs H'
def SP (X:Cx) (pins:List (Addr × Obj)) (D:Ends) (f:Flow) (s':Shared):Prop :=
 match f with
 | .next=>∃ σ' H',Inv X pins σ' H' s'/\D.nx σ' H'
 | .brk=>∃ σ' H',Inv X pins σ' H' s'/\D.bk σ' H'
 | .cont=>∃ σ' H',Inv X pins σ' H' s'/\D.ct σ' H'
 | .ret u=>∃ v σ' H',Inv X pins σ' H' s'/\RelV v u/\D.rt v H'
def PE (X:Cx) (e:Expr) (t:TE):Prop :=
 ∀ (pins:List (Addr × Obj)) (s:Shared) (σ:St) (H:Hp) (Q:VK),Inv X pins σ H s->t σ H Q->wpAny (model X.prog X.w) X.A (eval e X.env) (EP X pins σ Q) X.xe s
def PT (X:Cx) (e:Expr) (t:TT):Prop :=
 ∀ (pins:List (Addr × Obj)) (s:Shared) (σ:St) (H:Hp) (Q:Bool->Hp->Prop),Inv X pins σ H s->t σ H Q->wpAny (model X.prog X.w) X.A (isTrue e X.env (eval e X.env)) (TP X pins σ Q) X.xe s
def PW (X:Cx) (e:Expr) (t:TT):Prop :=
 ∀ (whole:Sem Value) (pins:List (Addr × Obj)) (s:Shared) (σ:St) (H:Hp) (Q:Bool->Hp->Prop),Inv X pins σ H s->t σ H Q->wpAny (model X.prog X.w) X.A (isTrue e X.env whole) (TP X pins σ Q) X.xe s
theorem PW.pt {X:Cx} {e:Expr} {t:TT} (h:PW X e t):PT X e t:=h _
def PA (X:Cx) (es:List Expr) (t:TA):Prop :=
 ∀ (pos:Pos) (pins:List (Addr × Obj)) (s:Shared) (σ:St) (H:Hp) (Q:List V->Hp->Prop),Inv X pins σ H s->t σ H Q->wpAny (model X.prog X.w) X.A (spliced (backTo pos (starEach es X.env))) (AP X pins σ Q) X.xe s
def PS (X:Cx) (st:Stmt) (t:TS):Prop :=
 ∀ (pins:List (Addr × Obj)) (s:Shared) (σ:St) (H:Hp) (D:Ends),Inv X pins σ H s->t D σ H->wpAny (model X.prog X.w) X.A (exec st X.env) (SP X pins D) X.xe s
def PSs (X:Cx) (st:List Stmt) (t:TS):Prop :=
 ∀ (pins:List (Addr × Obj)) (s:Shared) (σ:St) (H:Hp) (D:Ends),Inv X pins σ H s->t D σ H->wpAny (model X.prog X.w) X.A (execs st X.env) (SP X pins D) X.xe s
theorem thn {α:Type} {t:Sem α} {Q Q':α->Shared->Prop} {M:Model} {A:Around} {E:Value->Shared->Prop} {s:Shared} (h:wpAny M A t Q E s) (hQ:∀ a s,Q a s->Q' a s):wpAny M A t Q' E s:=wpAny_mono h hQ fun _ _ x=>x
end L2
namespace L2
open PySem PySem.Spec PyProof.Rows
section
variable {X:Cx}
def tVar (i:Nat):TE:=fun σ H Q=>∃ v,σ[i]?=some (some v)/\Q v H
def tC (v:V):TE:=fun _ H Q=>Q v H
theorem Qo {i:Nat} {x:Str} {pos:Pos} (hN:X.N[i]?=some x) (hv:Vis X.env.scope x) (hd:(x == ("__debug__":Str))=false:=by decide) (hcd:(x == ("__classdict__":Str))=false:=by decide):PE X (.Name x pos) (tVar i):=by
 intro pins s σ H Q I h
 obtain ⟨v,e,h⟩:=h
 obtain ⟨m,hn,hl⟩:=I.loc
 obtain ⟨u,r,l⟩:=hl i x v hN e hv
 have fin:EP X pins σ Q u s:=⟨v,H,I,r,h⟩
 rcases l with ⟨hk,hm⟩ | ⟨hk,c,hc,hcell⟩
 ·exact wpAny_Name (wpAny_loadName_local I.ok.kind hk hn hm fin) hd
 ·rcases hk with hk | hk
  ·exact wpAny_Name (wpAny_loadName_cell I.ok.kind hk hc hcell fin) hd
  ·exact wpAny_Name (wpAny_loadName_free I.ok.kind hk hc hcell fin hcd) hd
theorem Qp {i j pos}:PE X (.Constant (.int i) j pos) (tC (.int i)):=fun _ _ _ H _ I h=>wpAny_Constant_int ⟨.int i,H,I.tok _,⟨_,rfl⟩,h⟩
theorem zaL {b j pos}:PE X (.Constant (.bool b) j pos) (tC (.bl b)):=fun _ _ _ H _ I h=>Constant_bool ⟨.bl b,H,I,rfl,h⟩
theorem Qq {j pos}:PE X (.Constant .none j pos) (tC .non):=fun _ _ _ H _ I h=>Constant_none ⟨.non,H,I,rfl,h⟩
theorem Qr {x j pos}:PE X (.Constant (.str x) j pos) (tC (.str x)):=fun _ _ _ H _ I h=>Calls.Constant_str ⟨.str x,H,I.tok _,⟨_,rfl⟩,h⟩
def Gl (X:Cx) (x:Str):Prop:=X.env.kindOf x=some .globalImplicit
theorem xt {E:Value->Shared->Prop} {pins:List (Addr × Obj)} {s:Shared} {σ:St} {H:Hp} {x:Str} {u:Value} {pos:Pos} {Q:Value->Shared->Prop} (I:Inv X pins σ H s) (hg:Gl X x) (hm:X.mg x=some u) (h:Q u s)
  (hd:(x == ("__debug__":Str))=false:=by decide):wpAny (model X.prog X.w) X.A (eval (.Name x pos) X.env) Q E s :=
 Calls.Name_function_global I.ok.kind hg (Calls.loadGlobal_global (by rw [I.ok.glob]; exact I.mod.glob.keeps I.bk) hm h) hd
theorem yZ {E:Value->Shared->Prop} {pins:List (Addr × Obj)} {s:Shared} {σ:St} {H:Hp} {x:Str} {u:Value} {pos:Pos} {Q:Value->Shared->Prop} (I:Inv X pins σ H s) (hg:Gl X x) (hm:X.mg x=none) (hv:bootBuiltins x=some u) (h:Q u s)
  (hn:x≠"__name__":=by decide) (hd:(x == ("__debug__":Str))=false:=by decide):wpAny (model X.prog X.w) X.A (eval (.Name x pos) X.env) Q E s:=by
 obtain ⟨mb,h1,h2⟩:=I.mod.blt
 exact Calls.Name_function_global I.ok.kind hg (Calls.loadGlobal_builtin (by rw [I.ok.glob]; exact I.mod.glob.keeps I.bk) hm (by rw [I.ok.blt]; exact h1.keeps I.bk) ((h2 x hn).trans hv) h) hd
theorem V5 {x:Str} {v:V} {u:Value} {pos:Pos} (hg:Gl X x) (hm:X.mg x=none) (hv:bootBuiltins x=some u) (r:RelV v u) (hn:x≠"__name__":=by decide) (hd:(x == ("__debug__":Str))=false:=by decide):PE X (.Name x pos) (tC v) :=
 fun _ _ _ H _ I h=>yZ I hg hm hv ⟨v,H,I,r,h⟩ hn hd
variable {a b:Expr} {ta tb:TE} {pos:Pos}
def PC (X:Cx) (op:CmpOp) (a b:Expr) (t:TE):Prop :=
 ∀ (pins:List (Addr × Obj)) (s:Shared) (σ:St) (H:Hp) (Q:VK),Inv X pins σ H s->t σ H Q ->
  wpAny (model X.prog X.w) X.A (eval a X.env) (fun v s₁=>wpAny (model X.prog X.w) X.A (eval b X.env) (fun u s₂=>wpAny (model X.prog X.w) X.A (compareOp op v u) (EP X pins σ Q) X.xe s₂) X.xe s₁) X.xe s
theorem XX (b:Expr) {op:CmpOp} (h:op≠.In) (h2:op≠.NotIn):behindInMarks op b=false:=by
 have e1:(op == CmpOp.In)=false:=by cases op <;> first | rfl | exact absurd rfl h
 have e2:(op == CmpOp.NotIn)=false:=by cases op <;> first | rfl | exact absurd rfl h2
 cases b <;> simp [behindInMarks,e1,e2]
def tIsN (ta:TE):TE:=fun σ H Q=>ta σ H fun x H1=>Q (.bl (decide (x=.non))) H1
theorem RelV.none_iff {x:V} {v:Value} (r:RelV x v):(v == Value.none)=decide (x=.non):=by
 cases x with
 | non=>cases r; rfl
 | bl _=>cases r; rfl
 | int _=>obtain ⟨t,rfl⟩:=r; rfl
 | str _=>obtain ⟨t,rfl⟩:=r; rfl
 | byt _=>obtain ⟨t,rfl⟩:=r; rfl
 | flt _=>obtain ⟨t,rfl⟩:=r; rfl
 | ref _=>cases r; rfl
 | ty _=>cases r; rfl
theorem Qs {j pos'} (ha:PE X a ta):PC X .Is a (.Constant .none j pos') (tIsN ta):=by
 intro pins s σ H Q I h
 refine thn (ha pins s σ H _ I h) fun v s1 ⟨x,H1,I1,r1,q1⟩=>?_
 exact Constant_none (is_none_gen ⟨.bl _,H1,I1,by rw [r1.none_iff]; rfl,q1⟩)
def tB (t:TE):TT:=fun σ H Q=>t σ H fun x H1=>∃ c,x=.bl c/\Q c H1
theorem XY {op:CmpOp} {t:TE} (h:PC X op a b t) (h1:behindInMarks op b=false:=by first | exact XX _ (by decide) (by decide) | rfl):PT X (.Compare a [op] [b] pos) (tB t):=by
 intro pins s σ H Q I hw
 refine wpAny_isTrue_Compare1 (thn (h pins s σ H _ I hw) fun v s1 h1=>thn h1 fun u s2 h2=>thn h2 fun c s3 ⟨x,H1,I1,r1,q1⟩=>?_) h1
 obtain ⟨d,rfl,q⟩:=q1
 cases r1
 exact wpAny_truthy_bool ⟨H1,I1,q⟩
theorem Qt {e:Expr} {t:TE} (h:PE X e t) (he:∀ whole,isTrue e X.env whole=(do let v <- whole; standAt e.pos; holding [v] (truthy v)):=by intro _; rfl):PT X e (tB t):=by
 intro pins s σ H Q I hw
 refine isTrue_plain (thn (h pins s σ H _ I hw) fun v s1 ⟨x,H1,I1,r1,q1⟩=>?_) (he _)
 obtain ⟨d,rfl,q⟩:=q1
 cases r1
 exact wpAny_truthy_bool ⟨H1,I1,q⟩
variable {tA tB':TT} {rest:List Expr}
def tAnd (t u:TT):TT:=fun σ H Q=>t σ H fun c H1=>if c=true then u σ H1 Q else Q false H1
def tOr (t u:TT):TT:=fun σ H Q=>t σ H fun c H1=>if c=true then Q true H1 else u σ H1 Q
def tNot (t:TT):TT:=fun σ H Q=>t σ H fun c H1=>Q (!c) H1
theorem pw_and1 (ha:PT X a tA):PW X (.BoolOp .And [a] pos) tA:=by
 intro wh pins s σ H Q I h
 refine isTrue_and (thn (ha pins s σ H Q I h) fun c s1 e=>?_)
 cases c with
 | true=>exact isTrue_and_nil e
 | false=>exact e
theorem pw_or1 (ha:PT X a tA):PW X (.BoolOp .Or [a] pos) tA:=by
 intro wh pins s σ H Q I h
 refine isTrue_or (thn (ha pins s σ H Q I h) fun c s1 e=>?_)
 cases c with
 | false=>exact isTrue_or_nil e
 | true=>exact e
theorem pw_and (ha:PT X a tA) (hb:PW X (.BoolOp .And (b :: rest) pos) tB'):PW X (.BoolOp .And (a :: b :: rest) pos) (tAnd tA tB'):=by
 intro wh pins s σ H Q I h
 refine isTrue_and (thn (ha pins s σ H _ I h) fun c s1 ⟨H1,I1,q1⟩=>?_)
 cases c with
 | true=>exact hb wh pins s1 σ H1 Q I1 q1
 | false=>exact ⟨H1,I1,q1⟩
theorem pw_or (ha:PT X a tA) (hb:PW X (.BoolOp .Or (b :: rest) pos) tB'):PW X (.BoolOp .Or (a :: b :: rest) pos) (tOr tA tB'):=by
 intro wh pins s σ H Q I h
 refine isTrue_or (thn (ha pins s σ H _ I h) fun c s1 ⟨H1,I1,q1⟩=>?_)
 cases c with
 | true=>exact ⟨H1,I1,q1⟩
 | false=>exact hb wh pins s1 σ H1 Q I1 q1
theorem Qu (ha:PT X a tA):PT X (.UnaryOp .Not a pos) (tNot tA):=by
 intro pins s σ H Q I h
 exact isTrue_not (ha pins s σ H (fun c H1=>Q (!c) H1) I h)
def qH (ta tb:TE):TE:=fun σ H Q=>ta σ H fun x H1=>∃ c,x=.bl c/\if c=true then tb σ H1 Q else Q (.bl false) H1
def qI (ta:TE):TE:=fun σ H Q=>ta σ H fun x H1=>∃ c,x=.bl c/\Q (.bl (!c)) H1
theorem Qv {op} {t:TE} (h:PE X a t):PE X (.BoolOp op [a] pos) t:=fun pins s σ H Q I hw=>BoolOp_one (h pins s σ H Q I hw)
theorem Qw (ha:PE X a ta) (hb:PE X (.BoolOp .And (b :: rest) pos) tb):PE X (.BoolOp .And (a :: b :: rest) pos) (qH ta tb):=by
 intro pins s σ H Q I h
 refine BoolOp_and (thn (ha pins s σ H _ I h) fun v s1 ⟨x,H1,I1,r1,q1⟩=>?_)
 obtain ⟨c,rfl,q1⟩:=q1
 cases r1
 refine wpAny_truthy_bool ?_
 cases c with
 | true=>exact hb pins s1 σ H1 Q I1 q1
 | false=>exact ⟨.bl false,H1,I1,rfl,q1⟩
theorem Qx (ha:PE X a ta):PE X (.UnaryOp .Not a pos) (qI ta):=by
 intro pins s σ H Q I h
 refine UnaryOp_ (thn (ha pins s σ H _ I h) fun v s1 ⟨x,H1,I1,r1,q1⟩=>?_)
 obtain ⟨c,rfl,q1⟩:=q1
 cases r1
 exact not_of (wpAny_truthy_bool ⟨.bl (!c),H1,I1,rfl,q1⟩)
def tIf (t:TT) (ta tb:TE):TE:=fun σ H Q=>t σ H fun c H1=>if c=true then ta σ H1 Q else tb σ H1 Q
theorem XZ {c:Expr} (hc:PT X c tA) (ha:PE X a ta) (hb:PE X b tb):PE X (.IfExp c a b pos) (tIf tA ta tb):=by
 intro pins s σ H Q I h
 refine wpAny_IfExp (thn (hc pins s σ H _ I h) fun d s1 ⟨H1,I1,q1⟩=>?_)
 cases d with
 | true=>exact ha pins s1 σ H1 Q I1 q1
 | false=>exact hb pins s1 σ H1 Q I1 q1
end
end L2
namespace L2
open PySem PySem.Spec PyProof.Rows
def SqL (K:ua) (H:Hp) (a:Addr) (xs:List V):Prop :=
 Rd H a (.lst xs) \/
  ∃ (o:Obj) (its:Array Value) (n:Nat),K.lookup a=some o/\o.cls=.type "list"/\o.dict=none/\o.data=.seq its n/\its.size<=sizeLine/\Vals xs its.toList
def SqT (K:ua) (H:Hp) (a:Addr) (xs:List V):Prop :=
 Rd H a (.tup xs) \/
  ∃ (o:Obj) (its:Array Value) (n:Nat),K.lookup a=some o/\o.cls=.type "tuple"/\o.data=.seq its n/\its.size<=sizeLine/\Vals xs its.toList
def absV:Value->Option V
 | .none=>some .non
 | .bool b=>some (.bl b)
 | .int i _=>some (.int i)
 | .str x _=>some (.str x)
 | .bytes b _=>some (.byt b)
 | .float b _=>some (.flt b)
 | .ref a=>some (.ref a)
 | .type n=>some (.ty n)
 | _=>none
theorem RelV.abs {x:V} {u:Value} (r:RelV x u):absV u=some x:=by
 cases x with
 | non=>cases r; rfl
 | bl _=>cases r; rfl
 | int _=>obtain ⟨t,rfl⟩:=r; rfl
 | str _=>obtain ⟨t,rfl⟩:=r; rfl
 | byt _=>obtain ⟨t,rfl⟩:=r; rfl
 | flt _=>obtain ⟨t,rfl⟩:=r; rfl
 | ref _=>cases r; rfl
 | ty _=>cases r; rfl
theorem RelV.inj {x y:V} {u:Value} (r:RelV x u) (q:RelV y u):x=y:=Ul.inj (r.abs.symm.trans q.abs)
theorem Vals.inj:∀ {xs ys:List V} {us:List Value},Vals xs us->Vals ys us->xs=ys
 | _,_,_,.nil,.nil=>rfl
 | _,_,_,.cons r t,.cons r' t'=>by rw [r.inj r',Vals.inj t t']
section
variable {X:Cx} {pins:List (Addr × Obj)} {σ:St} {H:Hp} {s:Shared} {a:Addr} {xs ys:List V}
theorem SqL.of {K:ua} (h:H a=some (.lst xs)):SqL K H a xs:=.inl (.inl h)
theorem SqT.of {K:ua} (h:H a=some (.tup xs)):SqT K H a xs:=.inl (.inl h)
theorem Inv.list (I:Inv X pins σ H s) (h:SqL X.K H a xs):∃ its:List Value,Vals xs its/\PlainL s.heap a its.toArray/\xs.length<=sizeLine:=by
 rcases h with h | ⟨o,its,n,hk,hc,hd,hs,hz,r⟩
 ·obtain ⟨z,its,n,r,e⟩:=h.ok I.hok
  exact ⟨its,r,⟨_,n,e,rfl,rfl,rfl⟩,z⟩
 ·refine ⟨its.toList,r,⟨o,n,I.kIn a o hk,hc,hd,by simpa using hs⟩,?_⟩
  have e:=r.length
  simp only [Array.length_toList] at e
  lia
theorem Inv.tuple (I:Inv X pins σ H s) (h:SqT X.K H a xs):∃ its:List Value,Vals xs its/\IsTup s.heap a its.toArray/\xs.length<=sizeLine:=by
 rcases h with h | ⟨o,its,n,hk,hc,hs,hz,r⟩
 ·obtain ⟨z,its,r,p⟩:=h.ok I.hok
  exact ⟨its,r,p.is,z⟩
 ·refine ⟨its.toList,r,⟨o,I.kIn a o hk,hc,n,by simpa using hs⟩,?_⟩
  have e:=r.length
  simp only [Array.length_toList] at e
  lia
theorem Inv.list_inj (I:Inv X pins σ H s) (h:SqL X.K H a xs) (h':SqL X.K H a ys):xs=ys:=by
 obtain ⟨its,r,⟨o,n,e,_,_,d⟩,_⟩:=I.list h
 obtain ⟨its',r',⟨o',n',e',_,_,d'⟩,_⟩:=I.list h'
 rw [e] at e'; cases e'
 rw [d] at d'
 injection d' with d1 _
 have:its=its':=by simpa using congrArg Array.toList d1
 subst this
 exact r.inj r'
theorem Inv.tuple_inj (I:Inv X pins σ H s) (h:SqT X.K H a xs) (h':SqT X.K H a ys):xs=ys:=by
 obtain ⟨its,r,⟨o,e,_,n,d⟩,_⟩:=I.tuple h
 obtain ⟨its',r',⟨o',e',_,n',d'⟩,_⟩:=I.tuple h'
 rw [e] at e'; cases e'
 rw [d] at d'
 injection d' with d1 _
 have:its=its':=by simpa using congrArg Array.toList d1
 subst this
 exact r.inj r'
end
abbrev Cx.wish (X:Cx) (E:Value->Shared->Prop):Cx:={ X with xe:=E }
abbrev Cx.nox (X:Cx):Cx:=X.wish fun _ _=>False
theorem Cx.Ok.wish {X:Cx} (ok:X.Ok) (E:Value->Shared->Prop):(X.wish E).Ok :=
 ⟨ok.mod,ok.kind,ok.glob,ok.blt,ok.above,ok.inj,ok.has,ok.cab,ok.hd,ok.frames,ok.stk,ok.exf,ok.bs,ok.bsz,ok.noex,ok.exfs,ok.funs,ok.frf⟩
theorem Cx.Ok.unwish {X:Cx} {E:Value->Shared->Prop} (ok:(X.wish E).Ok):X.Ok :=
 ⟨ok.mod,ok.kind,ok.glob,ok.blt,ok.above,ok.inj,ok.has,ok.cab,ok.hd,ok.frames,ok.stk,ok.exf,ok.bs,ok.bsz,ok.noex,ok.exfs,ok.funs,ok.frf⟩
section
variable {X:Cx} {pins:List (Addr × Obj)} {σ:St} {H:Hp} {s:Shared} {E:Value->Shared->Prop}
theorem Inv.wish (I:Inv X pins σ H s) (E:Value->Shared->Prop):Inv (X.wish E) pins σ H s:=⟨I.ok.wish E,I.os,I.bare,I.base,I.loc,I.cell,I.free,I.freeC,I.pin,I.hok,I.len⟩
theorem Inv.unwish (I:Inv (X.wish E) pins σ H s):Inv X pins σ H s:=⟨I.ok.unwish,I.os,I.bare,I.base,I.loc,I.cell,I.free,I.freeC,I.pin,I.hok,I.len⟩
theorem SP.unwish {D:Ends} {f:Flow} {s':Shared} (h:SP (X.wish E) pins D f s'):SP X pins D f s':=by
 cases f with
 | next=>obtain ⟨σ',H',I,q⟩:=h; exact ⟨σ',H',I.unwish,q⟩
 | brk=>obtain ⟨σ',H',I,q⟩:=h; exact ⟨σ',H',I.unwish,q⟩
 | cont=>obtain ⟨σ',H',I,q⟩:=h; exact ⟨σ',H',I.unwish,q⟩
 | ret u=>obtain ⟨v,σ',H',I,r,q⟩:=h; exact ⟨v,σ',H',I.unwish,r,q⟩
theorem PSs.nox {st:List Stmt} {t:TS} (h:PSs X.nox st t):PSs X st t:=fun pins s σ H D I hw =>
 wpAny_mono (h pins s σ H D (I.wish _) hw) (fun _ _ q=>q.unwish) fun _ _ z=>False.elim z
end
section
variable {X:Cx} {st:Stmt} {rest:List Stmt} {t u:TS} {e:Expr} {te:TE} {pos:Pos}
def Yc:TS:=fun D σ H=>D.nx σ H
def tSeq (t u:TS):TS:=fun D σ H=>t { D with nx:=u D } σ H
theorem V6:PSs X [] Yc:=fun _ _ σ H _ I h=>wpAny_execs_nil ⟨σ,H,I,h⟩
theorem X0 (h1:PS X st t) (h2:PSs X rest u):PSs X (st :: rest) (tSeq t u):=by
 intro pins s σ H D I h
 refine wpAny_execs_cons (thn (h1 pins s σ H { D with nx:=u D } I h) fun f s1 q=>?_)
 cases f with
 | next =>
  obtain ⟨σ',H',I',q⟩:=q
  exact h2 pins s1 σ' H' D I' q
 | ret v=>exact q
 | brk=>exact q
 | cont=>exact q
theorem V7 (h1:PS X st t):PSs X [st] t:=by
 intro pins s σ H D I h
 refine wpAny_execs_cons (thn (h1 pins s σ H D I h) fun f s1 q=>?_)
 cases f with
 | next=>exact wpAny_execs_nil q
 | ret v=>exact q
 | brk=>exact q
 | cont=>exact q
theorem Inv.quiet {pins:List (Addr × Obj)} {σ:St} {H:Hp} {s:Shared} (I:Inv X pins σ H s):interactive X.env=false:=by simp [interactive,I.ok.kind]
def qJ (te:TE):TS:=fun D σ H=>te σ H fun _ H1=>D.nx σ H1
theorem V8 (he:PE X e te) (hs:swapsWith e none pos.line X.env=pure false:=by rfl):PS X (.Expr e pos) (qJ te):=by
 intro pins s σ H D I h
 exact wpAny_Expr_any (thn (he pins s σ H _ I h) fun v s1 ⟨x,H1,I1,r1,q1⟩=>⟨σ,H1,I1,q1⟩) I.quiet hs
def tRet (te:TE):TS:=fun D σ H=>te σ H D.rt
theorem Qy (he:PE X e te):PS X (.Return (some e) pos) (tRet te):=by
 intro pins s σ H D I h
 exact wpAny_Return_some (thn (he pins s σ H _ I h) fun v s1 ⟨x,H1,I1,r1,q1⟩=>⟨x,σ,H1,I1,r1,q1⟩)
def qK:TS:=fun D _ H=>D.rt .non H
theorem V9:PS X (.Return none pos) qK:=fun _ _ σ H _ I h=>wpAny_Return_none ⟨.non,σ,H,I,rfl,h⟩
def tIfS (c:TT) (t u:TS):TS:=fun D σ H=>c σ H fun b H1=>if b=true then t D σ H1 else u D σ H1
theorem zaM {c:Expr} {a b:List Stmt} {tc:TT} (hc:PT X c tc) (ha:PSs X a t) (hb:PSs X b u):PS X (.If c a b pos) (tIfS tc t u):=by
 intro pins s σ H D I h
 refine wpAny_If (thn (hc pins s σ H _ I h) fun d s1 ⟨H1,I1,q1⟩=>?_)
 cases d with
 | true=>exact ha pins s1 σ H1 D I1 q1
 | false=>exact hb pins s1 σ H1 D I1 q1
end
abbrev TG:=V->St->Hp->(St->Hp->Prop)->Prop
abbrev TGs:=List V->St->Hp->(St->Hp->Prop)->Prop
def PG (X:Cx) (target:Expr) (t:TG):Prop :=
 ∀ (pins:List (Addr × Obj)) (s:Shared) (σ:St) (H:Hp) (v:V) (u:Value) (Q:St->Hp->Prop),Inv X pins σ H s->RelV v u->t v σ H Q ->
  wpAny (model X.prog X.w) X.A (assign target X.env u) (fun _ s'=>∃ σ' H',Inv X pins σ' H' s'/\Q σ' H') X.xe s
def PGs (X:Cx) (ts:List Expr) (t:TGs):Prop :=
 ∀ (pins:List (Addr × Obj)) (s:Shared) (σ:St) (H:Hp) (vs:List V) (us:List Value) (Q:St->Hp->Prop),Inv X pins σ H s->Vals vs us->t vs σ H Q ->
  wpAny (model X.prog X.w) X.A (assignInOrder ((assignEach ts X.env).map (·.2)) us) (fun _ s'=>∃ σ' H',Inv X pins σ' H' s'/\Q σ' H') X.xe s
abbrev TSet:=V->V->V->Hp->(Hp->Prop)->Prop
def PSet (X:Cx) (t:TSet):Prop :=
 ∀ (pins:List (Addr × Obj)) (s:Shared) (σ:St) (H:Hp) (o i v:V) (ov iv u:Value) (Q:Hp->Prop),Inv X pins σ H s->RelV o ov->RelV i iv->RelV v u->t o i v H Q ->
  wpAny (model X.prog X.w) X.A (setItem ov iv u) (fun _ s'=>∃ H',Inv X pins σ H' s'/\Q H') X.xe s
section
variable {X:Cx} {pos:Pos}
def Yd (i:Nat):TG:=fun v σ H Q=>Q (σ.set i (some v)) H
theorem Ja {i:Nat} {x:Str} (hN:X.N.Nodup) (hi:X.N[i]?=some x) (hx:Loc X.env.scope x) (hf:X.fn x=true\/X.env.scope.names.lookup x=some .local:=by first | exact .inl rfl | exact .inr rfl | assumption):PG X (.Name x pos) (Yd i):=by
 intro pins s σ H v u Q I r h
 exact wpAny_assign_Name (wC I hN hi hx r (fun s' I'=>⟨_,H,I',h⟩) hf)
def gNil:TGs:=fun vs σ H Q=>vs=[]/\Q σ H
def qL (t:TG) (u:TGs):TGs:=fun vs σ H Q=>∃ v r,vs=v :: r/\t v σ H fun σ' H'=>u r σ' H' Q
theorem Jb:PGs X [] gNil:=by
 intro pins s σ H vs us Q I r h
 obtain ⟨e,h⟩:=h
 subst e
 cases r
 exact assignInOrder_nil ⟨σ,H,I,h⟩
theorem X1 {e:Expr} {es:List Expr} {t:TG} {u:TGs} (h1:PG X e t) (h2:PGs X es u)
  (hs:(assignEach (e :: es) X.env).map (·.2)=assign e X.env :: (assignEach es X.env).map (·.2):=by rfl):PGs X (e :: es) (qL t u):=by
 intro pins s σ H vs us Q I r h
 obtain ⟨v,vr,e1,h⟩:=h
 subst e1
 cases r with
 | cons r rr =>
  rw [hs]
  refine assignInOrder_cons (thn (h1 pins s σ H _ _ _ I r h) fun _ s1 ⟨σ1,H1,I1,q1⟩=>?_)
  exact h2 pins s1 σ1 H1 _ _ Q I1 rr q1
def gTup (K:ua) (n:Nat) (t:TGs):TG:=fun v σ H Q=>∃ a xs,v=.ref a/\SqT K H a xs/\xs.length=n/\t xs σ H Q
theorem Qz {es:List Expr} {k:Nat} {t:TGs} {n:Nat} (hc:X.calm=true) (h:PGs X es t)
  (hn:(assignEach es X.env).length=n:=by rfl) (hst:(assignEach es X.env).findIdx? (·.1)=none:=by rfl):PG X (.Tuple es k pos) (gTup X.K n t):=by
 intro pins s σ H v u Q I r hw
 obtain ⟨a,xs,e1,hq,hl,hw⟩:=hw
 subst e1
 cases r
 obtain ⟨its,rv,ht,hz⟩:=I.tuple hq
 refine assign_Tuple_tuple (I.ok.hd hc) ht (by simp [hn,<- hl,rv.length]) hst fun h' hx=>?_
 have I1:Inv X pins σ H { s with heap:=h' }:=I.kept (t':=s.toks) fun b o e=>hx b o (uQ (um e)) e
 exact h pins _ σ H xs _ Q I1 (by simpa using rv) hw
def gSub (to ti:TE) (t:TSet):TG:=fun v σ H Q=>to σ H fun o H1=>ti σ H1 fun i H2=>t o i v H2 fun H3=>Q σ H3
theorem QA {o i:Expr} {to ti:TE} {t:TSet} (ho:PE X o to) (hi:PE X i ti) (hs:PSet X t)
  (ha:∀ v,assign (.Subscript o i pos) X.env v=(do
   let ov <- holding [v] (eval o X.env)
   let iv <- holding [v,ov] (eval i X.env)
   standAt pos
   holding [v,ov,iv] (setItem ov iv v)
   release [v,ov,iv] []):=by intro _; rfl):PG X (.Subscript o i pos) (gSub to ti t):=by
 intro pins s σ H v u Q I r h
 rw [ha]
 refine wpAny_bind (wpAny_holding (thn (ho pins s σ H _ I h) fun ov s1 ⟨x,H1,I1,r1,q1⟩=>?_))
 refine wpAny_bind (wpAny_holding (thn (hi pins s1 σ H1 _ I1 q1) fun iv s2 ⟨y,H2,I2,r2,q2⟩=>?_))
 refine wpAny_bind (wpAny_standAt (wpAny_bind (wpAny_holding (thn (hs pins s2 σ H2 x y v ov iv u _ I2 r1 r2 r q2) fun _ s3 ⟨H3,I3,q3⟩=>?_))))
 exact wpAny_release ⟨σ,H3,I3,q3⟩
def tAsg (te:TE) (g:TG):TS:=fun D σ H=>te σ H fun x H1=>g x σ H1 D.nx
theorem QB {tg e:Expr} {te:TE} {g:TG} (he:PE X e te) (hg:PG X tg g) (hs:swapsWithSole [tg] e pos.line X.env=pure false:=by rfl) (hw:swappedStores [tg] e X.env=pure none:=by rfl)
  (h1:(assignEach [tg] X.env).map (·.2)=[assign tg X.env]:=by rfl):PS X (.Assign [tg] e pos) (tAsg te g):=by
 intro pins s σ H D I h
 refine wpAny_Assign_stores (thn (he pins s σ H _ I h) fun v s1 ⟨x,H1,I1,r1,q1⟩=>?_) hs hw
 rw [h1]
 exact thn (hg pins s1 σ H1 x v _ I1 r1 q1) fun _ s2 q=>q
theorem QC {i:Nat} {x:Str} {e:Expr} {te:TE} {pos':Pos} (hN:X.N.Nodup) (hi:X.N[i]?=some x) (hx:Loc X.env.scope x) (he:PE X e te) (hs:swapsWith e (some (.Name x pos')) pos.line X.env=pure false:=by rfl) (hf:X.fn x=true\/X.env.scope.names.lookup x=some .local:=by first | exact .inl rfl | exact .inr rfl | assumption) :
  PS X (.Assign [.Name x pos'] e pos) (tAsg te (Yd i)):=by
 intro pins s σ H D I h
 refine wpAny_Assign_Name (thn (he pins s σ H _ I h) fun v s1 ⟨y,H1,I1,r1,q1⟩=>?_) hs
 exact wC I1 hN hi hx r1 (fun s2 I2=>⟨_,H1,I2,q1⟩) hf
end
section
variable {X:Cx} {pos:Pos}
def vN (c:TT) (tb:TS):TS:=fun D σ H=>∃ W:Nat->St->Hp->Prop,(∃ m,W m σ H)/\∀ m σ H,W m σ H ->
 c σ H fun b H1=>if b=true then ∃ N:St->Hp->Prop,(∀ σ' H',N σ' H'->∃ m',m' < m/\W m' σ' H')/\tb { D with nx:=N,ct:=N,bk:=D.nx } σ H1 else D.nx σ H1
theorem X2 {c:Expr} {body:List Stmt} {tc:TT} {tb:TS} (hp:PassesOwn (model X.prog X.w) X.A X.env X.xe) (hc:PT X c tc) (hb:PSs X body tb):PS X (.While c body [] pos) (vN tc tb):=by
 intro pins s σ H D I h
 obtain ⟨W,⟨m0,w0⟩,turn⟩:=h
 refine wpAny_While (codeAny_whileLoop (fun n s'=>∃ σ' H',Inv X pins σ' H' s'/\W n σ' H') ?_ m0 ⟨σ,H,I,w0⟩)
 rintro n s1 ⟨σ1,H1,I1,w1⟩
 refine wpAny_passesOwn hp (thn (hc pins s1 σ1 H1 _ I1 (turn n σ1 H1 w1)) fun b s2 ⟨H2,I2,q2⟩=>?_)
 cases b with
 | true =>
  obtain ⟨N,hN,q2⟩:=q2
  rw [if_pos rfl]
  refine wpAny_passesOwn hp (thn (hb pins s2 σ1 H2 _ I2 q2) fun f s3 q3=>?_)
  cases f with
  | next =>
   obtain ⟨σ3,H3,I3,n3⟩:=q3
   obtain ⟨m',hm,w3⟩:=hN σ3 H3 n3
   exact ⟨m',hm,σ3,H3,I3,w3⟩
  | cont =>
   obtain ⟨σ3,H3,I3,n3⟩:=q3
   obtain ⟨m',hm,w3⟩:=hN σ3 H3 n3
   exact ⟨m',hm,σ3,H3,I3,w3⟩
  | brk=>exact q3
  | ret v=>exact q3
 | false =>
  rw [if_neg uB]
  exact wpAny_execs_nil ⟨σ1,H2,I2,q2⟩
end
structure It where
 go:Nat->Hp->Prop
 yld:Nat->Hp->V->Hp->Prop
 stop:Nat->Hp->Prop
def FpOk (X:Cx) (pins:List (Addr × Obj)) (H:Hp) (b:Addr):Prop :=
 H b=none/\b≠X.env.locals/\b ∉ X.fs/\(b∈X.ex\/X.s₀.heap.objs.size<=b)/\(∀ x c,X.env.cells.lookup x=some c->c≠b)/\∀ p∈X.pn ++ pins,p.1≠b
theorem Inv.fpOk {X:Cx} {pins:List (Addr × Obj)} {σ:St} {H H':Hp} {s:Shared} {b:Addr} (I:Inv X pins σ H s) (hb:s.heap.objs.size<=b) (hn:H' b=none):FpOk X pins H' b:=by
 refine ⟨hn,UI (ux I.lt hb),I.nofs hb,.inr (uX I.sz hb),fun x c e z=>?_,fun p hp z=>?_⟩
 ·obtain ⟨v,q⟩:=I.cell x c e
  exact absurd (ux q.lt (by rw [z]; exact hb)) (Us _)
 ·exact absurd (ux (um (I.pin p hp).1) (by rw [z]; exact hb)) (Us _)
structure Turn (P:Program) (w:World) (K:ua) (tg:Expr) (J:It) (fp:List Addr) (it:Addr) (tn:Nat->Heap->Prop):Prop where
 mem:it∈fp
 obj:∀ i h,tn i h->∀ b∈fp,∃ o,h.get? b=some o/\∀ v,o.data≠.cell v
 keep:∀ i h h',tn i h->(∀ b∈fp,∀ o,h.get? b=some o->h'.get? b=some o)->tn i h'
 item:∀ (X:Cx),X.prog=P->X.w=w->X.K=K->X.calm=true->∀ (i:Nat) (pins:List (Addr × Obj)) (s:Shared) (σ:St) (H:Hp) (E:Value->Shared->Prop),Inv X pins σ H s->(∀ b∈fp,FpOk X pins H b)->tn i s.heap->J.go i H ->
  wpAny (model P w) X.A (pyNext (.ref it)) (fun r s1=>∃ u,r=some u /\
   wpAny (model P w) X.A (letOwnedTupleGo tg (.ref it) u) (fun _ s2=>∃ x H',Inv X pins σ H' s2/\RelV x u/\J.yld i H x H'/\tn (i + 1) s2.heap/\∀ b∈fp,H' b=none) E s1) E s
 done:∀ (X:Cx),X.prog=P->X.w=w->X.K=K->X.calm=true->∀ (i:Nat) (pins:List (Addr × Obj)) (s:Shared) (σ:St) (H:Hp) (E:Value->Shared->Prop),Inv X pins σ H s->(∀ b∈fp,FpOk X pins H b)->tn i s.heap->J.stop i H ->
  wpAny (model P w) X.A (pyNext (.ref it)) (fun r s1=>r=none/\Inv X pins σ H s1) E s
 self:∀ (A:Around) (i:Nat) (s:Shared) (Q:Value->Shared->Prop) (E:Value->Shared->Prop),tn i s.heap->Q (.ref it) s->wpAny (model P w) A (pyIter (.ref it)) Q E s
abbrev TI:=St->Hp->(It->Hp->Prop)->Prop
def PIE (X:Cx) (pins:List (Addr × Obj)) (σ:St) (tg:Expr) (R:It->Hp->Prop) (itv:Value) (s2:Shared):Prop :=
 ∃ (it:Addr) (fp:List Addr) (tn:Nat->Heap->Prop) (J:It) (H':Hp),itv=.ref it/\Inv X pins σ H' s2/\Turn X.prog X.w X.K tg J fp it tn/\tn 0 s2.heap/\(∀ b∈fp,FpOk X pins H' b)/\R J H'
def PI (X:Cx) (tg iter:Expr) (wi:TI):Prop :=
 ∀ (pins:List (Addr × Obj)) (s:Shared) (σ:St) (H:Hp) (R:It->Hp->Prop),Inv X pins σ H s->wi σ H R ->
  wpAny (model X.prog X.w) X.A (eval iter X.env) (fun v s1=>wpAny (model X.prog X.w) X.A (pyIter v) (PIE X pins σ tg R) X.xe s1) X.xe s
theorem jK {M:Model} {A:Around} {E:Value->Shared->Prop} {s:Shared} {tg:Expr} {it:Addr} {u:Value} {o:Obj} {n:String} {vs:Array Value} {Q:Unit->Shared->Prop} (ho:s.heap.get? it=some o) (hc:o.cls=.type n) (hd:o.data=.fields vs)
  (hn:["enumerate","zip","dict_itemiterator","dict_reverseitemiterator","odict_iterator","itertools.zip_longest","itertools.pairwise"].contains n=false) (hQ:Q () s):wpAny M A (letOwnedTupleGo tg (.ref it) u) Q E s:=by
 unfold letOwnedTupleGo
 cases tg <;> first
  | exact wpAny_pure hQ
  | (cases u <;> first
    | exact wpAny_pure hQ
    | (refine wpAny_bind (wpAny_load ho ?_)
       rw [hc,hd]
       show wpAny M A (if (["enumerate","zip","dict_itemiterator","dict_reverseitemiterator","odict_iterator","itertools.zip_longest","itertools.pairwise"].contains n && vs[0]? == some (rawInt _))=true then _ else _) Q E s
       rw [if_neg (by intro h; rw [hn,Bool.false_and] at h; cases h)]
       exact wpAny_pure hQ))
def Itl (K:ua) (a:Addr):It :=
 ⟨fun i H=>∃ xs x,SqL K H a xs/\xs[i]?=some x,fun i H x H'=>H'=H/\∀ xs,SqL K H a xs->xs[i]?=some x,fun i H=>∃ xs,SqL K H a xs/\xs.length<=i⟩
def Itt (K:ua) (a:Addr):It :=
 ⟨fun i H=>∃ xs x,SqT K H a xs/\xs[i]?=some x,fun i H x H'=>H'=H/\∀ xs,SqT K H a xs->xs[i]?=some x,fun i H=>∃ xs,SqT K H a xs/\xs.length<=i⟩
def Itr (lo:Int) (n:Nat):It:=⟨fun i _=>i < n,fun i H x H'=>H'=H/\x=.int (lo + i),fun i _=>n<=i⟩
theorem Xg {P:Program} {w:World} {K:ua} {tg:Expr} (a it:Addr):Turn P w K tg (Itl K a) [it] it (fun i h=>h.IsListIter it a i) where
 mem:=by simp
 obj:=fun i h st b hb=>by
  have e:b=it:=by simpa using hb
  subst e
  obtain ⟨o,e,c,d⟩:=st
  exact ⟨o,e,fun v z=>by rw [d] at z; cases z⟩
 keep:=fun i h h' st k=>st.at fun o e=>k it (by simp) o e
 item:=by
  intro X hP hw hK hc i pins s σ H E I hf st hg
  subst hP hw hK
  obtain ⟨xs,x,hq,hx⟩:=hg
  obtain ⟨its,rv,p,hz⟩:=I.list hq
  obtain ⟨u,hu,ru⟩:=rv.get hx
  obtain ⟨f0,f1,f2,f3,f4,f5⟩:=hf it (by simp)
  refine wpAny_pyNext_list_item st p.isList (x:=u) (by simpa using hu) fun h' st' sb=>?_
  have I1:Inv X pins σ H { s with heap:=h' }:=I.turned (t':=s.toks) (fun b o hb e=>(sb.2 b hb).trans e) f0 f1 f3 f4 f5
  obtain ⟨o,e,c,d⟩:=id st'
  exact ⟨u,rfl,jK (s:={ s with heap:=h' }) e c d (by decide) ⟨x,H,I1,ru,⟨rfl,fun ys hy=>by rw [I.list_inj hy hq]; exact hx⟩,st',fun b hb=>(hf b hb).1⟩⟩
 done:=by
  intro X hP hw hK hc i pins s σ H E I hf st hg
  subst hP hw hK
  obtain ⟨xs,hq,hx⟩:=hg
  obtain ⟨its,rv,p,hz⟩:=I.list hq
  obtain ⟨f0,f1,f2,f3,f4,f5⟩:=hf it (by simp)
  have hl:=rv.length
  exact wpAny_pyNext_list_end (I.ok.hd hc) st p.isList (by simp; lia) fun h' eb=>⟨rfl,I.turned (t':=s.toks) (fun b o hb e=>eb b o hb e) f0 f1 f3 f4 f5⟩
 self:=fun _ _ _ _ _ st h=>wpAny_pyIter_listiter st h
theorem Zw {P:Program} {w:World} {K:ua} {tg:Expr} (a it:Addr):Turn P w K tg (Itt K a) [it] it (fun i h=>h.IsTupleIter it a i) where
 mem:=by simp
 obj:=fun i h st b hb=>by
  have e:b=it:=by simpa using hb
  subst e
  obtain ⟨o,e,c,d⟩:=st
  exact ⟨o,e,fun v z=>by rw [d] at z; cases z⟩
 keep:=fun i h h' st k=>st.at fun o e=>k it (by simp) o e
 item:=by
  intro X hP hw hK hc i pins s σ H E I hf st hg
  subst hP hw hK
  obtain ⟨xs,x,hq,hx⟩:=hg
  obtain ⟨its,rv,p,hz⟩:=I.tuple hq
  obtain ⟨u,hu,ru⟩:=rv.get hx
  obtain ⟨f0,f1,f2,f3,f4,f5⟩:=hf it (by simp)
  refine wpAny_pyNext_tuple_item st (show s.heap.IsTuple a its.toArray from p) (x:=u) (by simpa using hu) fun h' st' sb=>?_
  have I1:Inv X pins σ H { s with heap:=h' }:=I.turned (t':=s.toks) (fun b o hb e=>(sb.2 b hb).trans e) f0 f1 f3 f4 f5
  obtain ⟨o,e,c,d⟩:=id st'
  exact ⟨u,rfl,jK (s:={ s with heap:=h' }) e c d (by decide) ⟨x,H,I1,ru,⟨rfl,fun ys hy=>by rw [I.tuple_inj hy hq]; exact hx⟩,st',fun b hb=>(hf b hb).1⟩⟩
 done:=by
  intro X hP hw hK hc i pins s σ H E I hf st hg
  subst hP hw hK
  obtain ⟨xs,hq,hx⟩:=hg
  obtain ⟨its,rv,p,hz⟩:=I.tuple hq
  obtain ⟨f0,f1,f2,f3,f4,f5⟩:=hf it (by simp)
  have hl:=rv.length
  exact wpAny_pyNext_tuple_end (I.ok.hd hc) st (show s.heap.IsTuple a its.toArray from p) (by simp; lia) fun h' eb=>⟨rfl,I.turned (t':=s.toks) (fun b o hb e=>eb b o hb e) f0 f1 f3 f4 f5⟩
 self:=fun _ _ _ _ _ st h=>wpAny_pyIter_tupleiter st h
theorem Zx {P:Program} {w:World} {K:ua} {tg:Expr} (it:Addr) (lo:Int) (n:Nat):Turn P w K tg (Itr lo n) [it] it (fun i h=>IsRangeIter h it (lo + (i:Nat) * 1) ((n:Int) - (i:Nat)) 1) where
 mem:=by simp
 obj:=fun i h st b hb=>by
  have e:b=it:=by simpa using hb
  subst e
  exact ⟨_,st,fun v z=>by
   have z':Data.fields _=Data.cell v:=z
   cases z'⟩
 keep:=fun i h h' st k=>k it (by simp) _ st
 item:=by
  intro X hP hw hK hc i pins s σ H E I hf st hg
  subst hP hw hK
  obtain ⟨f0,f1,f2,f3,f4,f5⟩:=hf it (by simp)
  have W:=Walks.range (prog:=X.prog) (w:=X.w) (I.ok.hd hc) it lo 1 n
  refine W.item i s _ _ hg st fun v h' tk hv st' kk=>?_
  obtain ⟨t,rfl⟩:=hv
  have I1:Inv X pins σ H { s with heap:=h',toks:=tk }:=I.turned (fun b o hb e=>kk b o (by simpa using hb) e) f0 f1 f3 f4 f5
  refine ⟨_,rfl,jK (s:={ s with heap:=h',toks:=tk }) (n:="range_iterator") st' rfl rfl (by decide) ⟨.int (lo + i),H,I1,⟨t,?_⟩,⟨rfl,rfl⟩,st',fun b hb=>(hf b hb).1⟩⟩
  rw [Int.mul_one]
 done:=by
  intro X hP hw hK hc i pins s σ H E I hf st hg
  subst hP hw hK
  obtain ⟨f0,f1,f2,f3,f4,f5⟩:=hf it (by simp)
  exact wpAny_pyNext_range_end (I.ok.hd hc) st (by have:n<=i:=hg; lia) fun h' eb=>⟨rfl,I.turned (t':=s.toks) (fun b o hb e=>eb b o hb e) f0 f1 f3 f4 f5⟩
 self:=fun _ _ _ _ _ st h=>wpAny_pyIter_rangeiter st h
end L2
namespace L2
open PySem PySem.Spec PyProof.Rows
section
variable {X:Cx} {tg:Expr}
def qM (K:ua) (tl:TE):TI:=fun σ H R=>tl σ H fun x H1=>∃ a,x=.ref a/\(∃ xs,SqL K H1 a xs)/\R (Itl K a) H1
def iTup (K:ua) (tl:TE):TI:=fun σ H R=>tl σ H fun x H1=>∃ a,x=.ref a/\(∃ xs,SqT K H1 a xs)/\R (Itt K a) H1
theorem Jc {l:Expr} {tl:TE} (hl:PE X l tl):PI X tg l (qM X.K tl):=by
 intro pins s σ H R I h
 refine thn (hl pins s σ H _ I h) fun v s1 ⟨x,H1,I1,r1,q1⟩=>?_
 obtain ⟨a,e,⟨xs,hq⟩,q⟩:=q1
 subst e
 cases r1
 obtain ⟨its,rv,p,hz⟩:=I1.list hq
 refine wpAny_pyIter_list p.isList ?_
 refine ⟨s1.heap.objs.size,[s1.heap.objs.size],_,_,H1,rfl,I1.kept (t':=s1.toks) fun b o e=>uc _ e,Xg a _,⟨_,uw _ rfl,rfl,rfl⟩,fun b hb=>?_,q⟩
 have e:b=s1.heap.objs.size:=by simpa using hb
 subst e
 exact I1.fpOk (ui _) (I1.hok.fresh (ui _))
theorem QD {l:Expr} {tl:TE} (hl:PE X l tl):PI X tg l (iTup X.K tl):=by
 intro pins s σ H R I h
 refine thn (hl pins s σ H _ I h) fun v s1 ⟨x,H1,I1,r1,q1⟩=>?_
 obtain ⟨a,e,⟨xs,hq⟩,q⟩:=q1
 subst e
 cases r1
 obtain ⟨its,rv,p,hz⟩:=I1.tuple hq
 refine wpAny_pyIter_tuple (show s1.heap.IsTuple a its.toArray from p) ?_
 refine ⟨s1.heap.objs.size,[s1.heap.objs.size],_,_,H1,rfl,I1.kept (t':=s1.toks) fun b o e=>uc _ e,Zw a _,⟨_,uw _ rfl,rfl,rfl⟩,fun b hb=>?_,q⟩
 have e:b=s1.heap.objs.size:=by simpa using hb
 subst e
 exact I1.fpOk (ui _) (I1.hok.fresh (ui _))
theorem X3 {pins:List (Addr × Obj)} {σ:St} {H:Hp} {s:Shared} {R:It->Hp->Prop} {E:Value->Shared->Prop} {lo hi:Int} {t u v:Tok} {tk:Nat} (I:Inv X pins σ H s) (h1:-(2 ^ 62)<=lo) (h2:lo < 2 ^ 62) (h3:-(2 ^ 62)<=hi) (h4:hi < 2 ^ 62)
  (q:R (Itr lo (hi - lo).toNat) H):wpAny (model X.prog X.w) X.A (pyIter (.ref s.heap.objs.size)) (PIE X pins σ tg R) E { s with heap:=s.heap.push { cls:=.type "range",data:=.fields #[.int lo t,.int hi u,.int 1 v] },toks:=tk }:=by
 refine wpAny_pyIter_range (IsRange.new ..) (small_one h1 h2 h3 h4) ?_
 have I1:Inv X pins σ H { s with heap:=s.heap.push { cls:=.type "range",data:=.fields #[.int lo t,.int hi u,.int 1 v] },toks:=tk }:=I.kept fun b o e=>uc _ e
 refine ⟨(s.heap.push { cls:=.type "range",data:=.fields #[.int lo t,.int hi u,.int 1 v] }).objs.size,[(s.heap.push { cls:=.type "range",data:=.fields #[.int lo t,.int hi u,.int 1 v] }).objs.size],_,_,H,rfl,
  I1.kept (t':=tk) fun b o e=>uc _ e,Zx _ lo (hi - lo).toNat,?_,fun b hb=>?_,q⟩
 ·have e1:lo + ((0:Nat):Int) * 1=lo:=by simp
  have e2:(((hi - lo).toNat:Nat):Int) - ((0:Nat):Int)=Builtin.Range.rangeSize lo hi 1:=by rw [rangeSize_one]; split <;> lia
  show IsRangeIter _ _ (lo + ((0:Nat):Int) * 1) ((((hi - lo).toNat:Nat):Int) - ((0:Nat):Int)) 1
  rw [e1,e2]
  exact uw _ rfl
 ·have e:b=(s.heap.push { cls:=.type "range",data:=.fields #[.int lo t,.int hi u,.int 1 v] }).objs.size:=by simpa using hb
  subst e
  exact I1.fpOk (ui _) (I1.hok.fresh (ui _))
def qN (ta:TA):TI:=fun σ H R=>ta σ H fun vs H1=>∃ j:Int,vs=[.int j]/\-(2 ^ 62)<=j/\j < 2 ^ 62/\R (Itr 0 j.toNat) H1
theorem Xh {a:Expr} {ta:TA} {p pos:Pos} (hg:Gl X "range") (hm:X.mg "range"=none) (ha:PA X [a] ta) (hs:starEach [a] X.env=[(false,eval a X.env)]:=by rfl):PI X tg (.Call (.Name "range" p) [a] [] pos) (qN ta):=by
 intro pins s σ H R I h
 refine Call_ (yZ I hg hm boot_range (Uh (thn (ha pos pins s σ H _ I h) fun us s1 ⟨vs,H1,I1,r1,q1⟩=>?_) hs rfl))
 obtain ⟨j,e,q1,q2,q⟩:=q1
 subst e
 cases r1 with
 | cons r rr =>
  cases rr
  obtain ⟨t,rfl⟩:=r
  exact call_range_1 (X3 I1 (by lia) (by lia) q1 q2 (by simpa using q))
def tFor (wi:TI) (g:TG) (tb:TS):TS:=fun D σ H=>wi σ H fun J H1=>∃ W:Nat->Nat->St->Hp->Prop,(∃ m,W 0 m σ H1)/\∀ i m σ H,W i m σ H ->
 (J.stop i H/\D.nx σ H)\/(J.go i H/\∃ N:St->Hp->Prop,(∀ σ' H',N σ' H'->∃ m',m' < m/\W (i + 1) m' σ' H')/\∀ x H',J.yld i H x H'->g x σ H' fun σ2 H2=>tb { D with nx:=N,ct:=N,bk:=D.nx } σ2 H2)
def wD (fp:List Addr) (h:Heap):List (Addr × Obj):=fp.filterMap fun b=>(h.get? b).map fun o=>(b,o)
theorem xF {fp:List Addr} {h:Heap} {b:Addr} {o:Obj} (hb:b∈fp) (e:h.get? b=some o):(b,o)∈wD fp h:=List.mem_filterMap.mpr ⟨b,hb,by rw [e]; rfl⟩
theorem Xi {fp:List Addr} {h:Heap} {p:Addr × Obj} (hp:p∈wD fp h):p.1∈fp/\h.get? p.1=some p.2:=by
 obtain ⟨b,hb,e⟩:=List.mem_filterMap.mp hp
 cases q:h.get? b with
 | none=>rw [q] at e; cases e
 | some o =>
  rw [q] at e
  have e':(b,o)=p:=Ul.inj e
  subst e'
  exact ⟨hb,q⟩
theorem Inv.pinned {pins:List (Addr × Obj)} {σ:St} {H:Hp} {s:Shared} {fp:List Addr} (I:Inv X pins σ H s) (hf:∀ b∈fp,FpOk X pins H b) (ho:∀ b∈fp,∃ o,s.heap.get? b=some o/\∀ v,o.data≠.cell v):Inv X (pins ++ wD fp s.heap) σ H s :=
 I.pins_of fun p hp=>(uN.mp hp).elim (fun z=>I.pin p (uM _ z)) fun z=>by
  obtain ⟨hb,e⟩:=Xi z
  obtain ⟨f0,f1,f2,_⟩:=hf p.1 hb
  obtain ⟨o,e',d⟩:=ho p.1 hb
  rw [e] at e'; cases e'
  exact ⟨e,f0,f1,f2,d⟩
theorem Inv.unpinned {pins pl:List (Addr × Obj)} {σ:St} {H:Hp} {s:Shared} (I:Inv X (pins ++ pl) σ H s):Inv X pins σ H s:=I.pins_of fun p hp=>I.pin p (uM _ (Uj _ hp))
theorem QE {iter:Expr} {body:List Stmt} {wi:TI} {g:TG} {tb:TS} {pos:Pos} (hp:PassesOwn (model X.prog X.w) X.A X.env X.xe) (hc:X.calm=true) (hi:PI X tg iter wi) (hg:PG X tg g) (hb:PSs X body tb)
  (hs:∀ x,foldedSetIterable iter X.env x=pure x:=by intro _; rfl):PS X (.For tg iter body [] pos) (tFor wi g tb):=by
 intro pins s σ H D I h
 refine wpAny_For (thn (hi pins s σ H _ I h) fun v s1 h1=>thn h1 fun itv s2 h2=>?_) hs
 obtain ⟨it,fp,tn,J,H2,e,I2,T,st2,f2,W,⟨m0,w0⟩,turn⟩:=h2
 subst e
 have stat:∀ {H':Hp},(∀ b∈fp,H' b=none)->∀ b∈fp,FpOk X pins H' b:=fun hn b hb=>⟨hn b hb,(f2 b hb).2⟩
 refine codeAny_forLoop_any (fun n s'=>∃ i σ' H',Inv X pins σ' H' s'/\tn i s'.heap/\(∀ b∈fp,H' b=none)/\W i n σ' H') ?_ m0 ⟨0,σ,H2,I2,st2,fun b hb=>(f2 b hb).1,w0⟩
 rintro n s3 ⟨i,σ3,H3,I3,st3,fr3,w3⟩
 rcases turn i n σ3 H3 w3 with ⟨stop,qn⟩ | ⟨go,N,hN,step⟩
 ·refine wpAny_passesOwn hp (thn (T.done X rfl rfl rfl hc i pins s3 σ3 H3 X.xe I3 (stat fr3) st3 stop) fun r s4 ⟨hr,I4⟩=>?_)
  subst hr
  exact wpAny_execs_nil ⟨σ3,H3,I4,qn⟩
 ·refine wpAny_passesOwn hp (thn (T.item X rfl rfl rfl hc i pins s3 σ3 H3 X.xe I3 (stat fr3) st3 go) fun r s4 ⟨u,hr,h4⟩=>?_)
  subst hr
  refine wpAny_passesOwn hp (thn h4 fun _ s5 ⟨x,H5,I5,r5,y5,st5,fr5⟩=>?_)
  have I5':=I5.pinned (stat fr5) (T.obj _ _ st5)
  refine wpAny_passesOwn hp (thn (hg _ s5 σ3 H5 x u _ I5' r5 (step x H5 y5)) fun _ s6 ⟨σ6,H6,I6,q6⟩=>?_)
  refine wpAny_passesOwn hp (thn (hb _ s6 σ6 H6 _ I6 q6) fun f s7 q7=>?_)
  have again:∀ {σ7:St} {H7:Hp},Inv X (pins ++ wD fp s5.heap) σ7 H7 s7->N σ7 H7->∃ m,m < n/\∃ i σ' H',Inv X pins σ' H' s7/\tn i s7.heap/\(∀ b∈fp,H' b=none)/\W i m σ' H':=fun {σ7 H7} I7 n7=>by
   obtain ⟨m',hm,w7⟩:=hN σ7 H7 n7
   refine ⟨m',hm,i + 1,σ7,H7,I7.unpinned,T.keep _ _ _ st5 fun b hb o e=>(I7.pin (b,o) (uM _ (uM _ (xF hb e)))).1,fun b hb=>?_,w7⟩
   obtain ⟨o,e,d⟩:=T.obj _ _ st5 b hb
   exact (I7.pin (b,o) (uM _ (uM _ (xF hb e)))).2.1
  cases f with
  | next=>obtain ⟨σ7,H7,I7,n7⟩:=q7; exact again I7 n7
  | cont=>obtain ⟨σ7,H7,I7,n7⟩:=q7; exact again I7 n7
  | brk=>obtain ⟨σ7,H7,I7,q7⟩:=q7; exact ⟨σ7,H7,I7.unpinned,q7⟩
  | ret v=>obtain ⟨x7,σ7,H7,I7,r7,q7⟩:=q7; exact ⟨x7,σ7,H7,I7.unpinned,r7,q7⟩
end
theorem wE {K:ua} {a:Addr} {xs:List V} {g:TG} {tb:TS} {D:Ends} {σ:St} {H:Hp} (Pv:Nat->St->Hp->Prop) (h0:Pv 0 σ H) (hl:∀ i σ H,i<=xs.length->Pv i σ H->SqL K H a xs)
  (hs:∀ i x σ H,xs[i]?=some x->Pv i σ H->g x σ H fun σ2 H2=>tb { D with nx:=Pv (i + 1),ct:=Pv (i + 1),bk:=D.nx } σ2 H2) (hd:∀ σ H,Pv xs.length σ H->D.nx σ H) :
  ∃ W:Nat->Nat->St->Hp->Prop,(∃ m,W 0 m σ H)/\∀ i m σ H,W i m σ H ->
   ((Itl K a).stop i H/\D.nx σ H)\/((Itl K a).go i H/\∃ N:St->Hp->Prop,(∀ σ' H',N σ' H'->∃ m',m' < m/\W (i + 1) m' σ' H')/\∀ x H',(Itl K a).yld i H x H'->g x σ H' fun σ2 H2=>tb { D with nx:=N,ct:=N,bk:=D.nx } σ2 H2):=by
 refine ⟨fun i m σ H=>m=xs.length - i/\i<=xs.length/\Pv i σ H,⟨xs.length,by simp,u6 _,h0⟩,?_⟩
 rintro i m σ H ⟨rfl,hi,p⟩
 have q:=hl i σ H hi p
 by_cases hlt:i < xs.length
 ·refine .inr ⟨⟨xs,xs[i],q,by simp [hlt]⟩,Pv (i + 1),fun σ' H' p'=>⟨xs.length - (i + 1),by lia,rfl,hlt,p'⟩,fun x H' y=>?_⟩
  obtain ⟨e,y⟩:=y
  subst e
  exact hs i x σ _ (y xs q) p
 ·have e:i=xs.length:=by lia
  subst e
  exact .inl ⟨⟨xs,q,ui _⟩,hd σ H p⟩
theorem wu {K:ua} {a:Addr} {xs:List V} {g:TG} {tb:TS} {D:Ends} {σ:St} {H:Hp} (Pv:Nat->St->Hp->Prop) (h0:Pv 0 σ H) (hl:∀ i σ H,i<=xs.length->Pv i σ H->SqT K H a xs)
  (hs:∀ i x σ H,xs[i]?=some x->Pv i σ H->g x σ H fun σ2 H2=>tb { D with nx:=Pv (i + 1),ct:=Pv (i + 1),bk:=D.nx } σ2 H2) (hd:∀ σ H,Pv xs.length σ H->D.nx σ H) :
  ∃ W:Nat->Nat->St->Hp->Prop,(∃ m,W 0 m σ H)/\∀ i m σ H,W i m σ H ->
   ((Itt K a).stop i H/\D.nx σ H)\/((Itt K a).go i H/\∃ N:St->Hp->Prop,(∀ σ' H',N σ' H'->∃ m',m' < m/\W (i + 1) m' σ' H')/\∀ x H',(Itt K a).yld i H x H'->g x σ H' fun σ2 H2=>tb { D with nx:=N,ct:=N,bk:=D.nx } σ2 H2):=by
 refine ⟨fun i m σ H=>m=xs.length - i/\i<=xs.length/\Pv i σ H,⟨xs.length,by simp,u6 _,h0⟩,?_⟩
 rintro i m σ H ⟨rfl,hi,p⟩
 have q:=hl i σ H hi p
 by_cases hlt:i < xs.length
 ·refine .inr ⟨⟨xs,xs[i],q,by simp [hlt]⟩,Pv (i + 1),fun σ' H' p'=>⟨xs.length - (i + 1),by lia,rfl,hlt,p'⟩,fun x H' y=>?_⟩
  obtain ⟨e,y⟩:=y
  subst e
  exact hs i x σ _ (y xs q) p
 ·have e:i=xs.length:=by lia
  subst e
  exact .inl ⟨⟨xs,q,ui _⟩,hd σ H p⟩
theorem Xj {lo:Int} {n:Nat} {g:TG} {tb:TS} {D:Ends} {σ:St} {H:Hp} (Pv:Nat->St->Hp->Prop) (h0:Pv 0 σ H)
  (hs:∀ i σ H,i < n->Pv i σ H->g (.int (lo + i)) σ H fun σ2 H2=>tb { D with nx:=Pv (i + 1),ct:=Pv (i + 1),bk:=D.nx } σ2 H2) (hd:∀ σ H,Pv n σ H->D.nx σ H) :
  ∃ W:Nat->Nat->St->Hp->Prop,(∃ m,W 0 m σ H)/\∀ i m σ H,W i m σ H ->
   ((Itr lo n).stop i H/\D.nx σ H)\/((Itr lo n).go i H/\∃ N:St->Hp->Prop,(∀ σ' H',N σ' H'->∃ m',m' < m/\W (i + 1) m' σ' H')/\∀ x H',(Itr lo n).yld i H x H'->g x σ H' fun σ2 H2=>tb { D with nx:=N,ct:=N,bk:=D.nx } σ2 H2):=by
 refine ⟨fun i m σ H=>m=n - i/\i<=n/\Pv i σ H,⟨n,by simp,u6 _,h0⟩,?_⟩
 rintro i m σ H ⟨rfl,hi,p⟩
 by_cases hlt:i < n
 ·refine .inr ⟨hlt,Pv (i + 1),fun σ' H' p'=>⟨n - (i + 1),by lia,rfl,hlt,p'⟩,fun x H' y=>?_⟩
  obtain ⟨e,y⟩:=y
  subst e y
  exact hs i σ _ hlt p
 ·have e:i=n:=by lia
  subst e
  exact .inl ⟨ui _,hd σ H p⟩
end L2
namespace L2
open PySem PySem.Spec PyProof.Rows
abbrev R2:=V->V->Hp->VK->Prop
def OpR (X:Cx) (f:Value->Value->Sem Value) (r:R2):Prop :=
 ∀ (pins:List (Addr × Obj)) (s:Shared) (σ:St) (H:Hp) (x y:V) (v u:Value) (Q:VK),Inv X pins σ H s->RelV x v->RelV y u->r x y H Q ->
  wpAny (model X.prog X.w) X.A (f v u) (EP X pins σ Q) X.xe s
def UnR (X:Cx) (f:Value->Sem Value) (r:V->Hp->VK->Prop):Prop :=
 ∀ (pins:List (Addr × Obj)) (s:Shared) (σ:St) (H:Hp) (x:V) (v:Value) (Q:VK),Inv X pins σ H s->RelV x v->r x H Q ->
  wpAny (model X.prog X.w) X.A (f v) (EP X pins σ Q) X.xe s
def xh (X:Cx) (f:Value) (r:List V->Hp->VK->Prop):Prop :=
 ∀ (pins:List (Addr × Obj)) (s:Shared) (σ:St) (H:Hp) (xs:List V) (us:List Value) (Q:VK),Inv X pins σ H s->Vals xs us->r xs H Q ->
  wpAny (model X.prog X.w) X.A (call f us) (EP X pins σ Q) X.xe s
def tOp (r:R2) (ta tb:TE):TE:=fun σ H Q=>ta σ H fun x H1=>tb σ H1 fun y H2=>r x y H2 Q
def tUn (r:V->Hp->VK->Prop) (ta:TE):TE:=fun σ H Q=>ta σ H fun x H1=>r x H1 Q
def rI (C:Int->Int->Prop) (g:Int->Int->V):R2:=fun x y H Q=>∃ i j,x=.int i/\y=.int j/\C i j/\Q (g i j) H
def rI0 (g:Int->Int->V):R2:=fun x y H Q=>∃ i j,x=.int i/\y=.int j/\Q (g i j) H
def rU (g:Int->V):V->Hp->VK->Prop:=fun x H Q=>∃ i,x=.int i/\Q (g i) H
section
variable {X:Cx} {a b c:Expr} {ta tb tc:TE} {pos:Pos}
theorem binT (ha:PE X a ta) (hb:PE X b tb) {pins:List (Addr × Obj)} {s:Shared} {σ:St} {H:Hp} {R:V->V->Hp->Prop} (I:Inv X pins σ H s)
  (h:ta σ H fun x H1=>tb σ H1 fun y H2=>R x y H2) {Q:Value->Shared->Prop} {f:Value->Value->Sem Value}
  (hf:∀ v u s2 x y H2,Inv X pins σ H2 s2->RelV x v->RelV y u->R x y H2->wpAny (model X.prog X.w) X.A (f v u) Q X.xe s2) :
  wpAny (model X.prog X.w) X.A (eval a X.env) (fun v s₁=>wpAny (model X.prog X.w) X.A (eval b X.env) (fun u s₂=>wpAny (model X.prog X.w) X.A (f v u) Q X.xe s₂) X.xe s₁) X.xe s:=by
 refine thn (ha pins s σ H _ I h) fun v s1 ⟨x,H1,I1,r1,q1⟩=>?_
 refine thn (hb pins s1 σ H1 _ I1 q1) fun u s2 ⟨y,H2,I2,r2,q2⟩=>?_
 exact hf v u s2 x y H2 I2 r1 r2 q2
theorem zaN {op:Operator} {r:R2} (ho:OpR X (binaryOp op) r) (ha:PE X a ta) (hb:PE X b tb):PE X (.BinOp a op b pos) (tOp r ta tb):=by
 intro pins s σ H Q I h
 exact wpAny_BinOp (binT ha hb I h fun v u s2 x y H2 I2 rx ry q=>ho pins s2 σ H2 x y v u Q I2 rx ry q)
theorem zaO {op:UnaryOp} {r:V->Hp->VK->Prop} (ho:UnR X (unaryOp op) r) (ha:PE X a ta):PE X (.UnaryOp op a pos) (tUn r ta):=by
 intro pins s σ H Q I h
 exact UnaryOp_ (thn (ha pins s σ H _ I h) fun v s1 ⟨x,H1,I1,r1,q1⟩=>ho pins s1 σ H1 x v Q I1 r1 q1)
theorem opI {f:Value->Value->Sem Value} {C:Int->Int->Prop} {g:Int->Int->Int}
  (rule:∀ (i j:Int) (t u:Tok) (s:Shared) (Q:Value->Shared->Prop) (E:Value->Shared->Prop),C i j->Q (.int (g i j) s.toks) { s with toks:=s.toks + 1 }->wpAny (model X.prog X.w) X.A (f (.int i t) (.int j u)) Q E s) :
  OpR X f (rI C fun i j=>.int (g i j)):=by
 intro pins s σ H x y v u Q I rx ry h
 obtain ⟨i,j,rfl,rfl,hc,q⟩:=h
 obtain ⟨t,rfl⟩:=rx
 obtain ⟨t',rfl⟩:=ry
 exact rule i j t t' s _ _ hc ⟨.int (g i j),H,I.tok _,⟨_,rfl⟩,q⟩
theorem opI0 {f:Value->Value->Sem Value} {g:Int->Int->Int}
  (rule:∀ (i j:Int) (t u:Tok) (s:Shared) (Q:Value->Shared->Prop) (E:Value->Shared->Prop),Q (.int (g i j) s.toks) { s with toks:=s.toks + 1 }->wpAny (model X.prog X.w) X.A (f (.int i t) (.int j u)) Q E s) :
  OpR X f (rI0 fun i j=>.int (g i j)):=by
 intro pins s σ H x y v u Q I rx ry h
 obtain ⟨i,j,rfl,rfl,q⟩:=h
 obtain ⟨t,rfl⟩:=rx
 obtain ⟨t',rfl⟩:=ry
 exact rule i j t t' s _ _ ⟨.int (g i j),H,I.tok _,⟨_,rfl⟩,q⟩
theorem opB0 {f:Value->Value->Sem Value} {g:Int->Int->Bool}
  (rule:∀ (i j:Int) (t u:Tok) (s:Shared) (Q:Value->Shared->Prop) (E:Value->Shared->Prop),Q (.bool (g i j)) s->wpAny (model X.prog X.w) X.A (f (.int i t) (.int j u)) Q E s) :
  OpR X f (rI0 fun i j=>.bl (g i j)):=by
 intro pins s σ H x y v u Q I rx ry h
 obtain ⟨i,j,rfl,rfl,q⟩:=h
 obtain ⟨t,rfl⟩:=rx
 obtain ⟨t',rfl⟩:=ry
 exact rule i j t t' s _ _ ⟨.bl (g i j),H,I,rfl,q⟩
def CDiv (i j:Int):Prop:=0 < j/\j < 1073741824
def CPow (i j:Int):Prop:=0<=j/\j<=1000000/\i.natAbs < 2 ^ 64
def CMul (i j:Int):Prop:=(-(2 ^ 64) < i/\i < 2 ^ 64)\/(-(2 ^ 64) < j/\j < 2 ^ 64)
theorem CMul.ok {i j:Int} (h:CMul i j):IntMulOk i j:=by
 rcases h with ⟨h1,h2⟩ | ⟨h1,h2⟩
 ·exact .of_left (intBits_le_64 h1 h2)
 ·exact .of_right (intBits_le_64 h1 h2)
theorem QF:OpR X (binaryOp .Add) (rI0 fun i j=>.int (i + j)):=opI0 fun _ _ _ _ _ _ _ q=>add_int q
theorem QG:OpR X (binaryOp .Sub) (rI0 fun i j=>.int (i - j)):=opI0 fun _ _ _ _ _ _ _ q=>sub_int q
theorem QH:OpR X (binaryOp .Mult) (rI CMul fun i j=>.int (i * j)):=opI fun _ _ _ _ _ _ _ hc q=>mul_int q hc.ok
theorem Jd:OpR X (binaryOp .FloorDiv) (rI CDiv fun i j=>.int (i / j)):=opI fun i j _ _ _ _ _ hc q=>by
 have h1:(0:Int) < j:=hc.1
 have h2:j < 1073741824:=hc.2
 exact floordiv_int (by lia) (by rw [Int.fdiv_eq_ediv_of_nonneg i (by lia)]; exact q) (.inl (PyProof.noPylong_small (by lia)))
theorem QI:OpR X (binaryOp .Mod) (rI (fun _ j=>0 < j) fun i j=>.int (i % j)):=opI fun i j _ _ _ _ _ hc q=>by
 have h1:(0:Int) < j:=hc
 exact mod_int' (by lia) (by rw [Int.fmod_eq_emod_of_nonneg i (by lia)]; exact q)
theorem Je:OpR X (binaryOp .Mod) (rI (fun _ j=>j≠0) fun i j=>.int (i.fmod j)):=opI fun _ _ _ _ _ _ _ hc q=>mod_int' hc q
theorem QJ:OpR X (binaryOp .Pow) (rI CPow fun i j=>.int (i ^ j.toNat)):=opI fun _ _ _ _ _ _ _ hc q=>pow_int_small hc.1 hc.2.1 hc.2.2 q
theorem unI {f:Value->Sem Value} {g:Int->Int}
  (rule:∀ (i:Int) (t:Tok) (s:Shared) (Q:Value->Shared->Prop) (E:Value->Shared->Prop),Q (.int (g i) s.toks) { s with toks:=s.toks + 1 }->wpAny (model X.prog X.w) X.A (f (.int i t)) Q E s) :
  UnR X f (rU fun i=>.int (g i)):=by
 intro pins s σ H x v Q I rx h
 obtain ⟨i,rfl,q⟩:=h
 obtain ⟨t,rfl⟩:=rx
 exact rule i t s _ _ ⟨.int (g i),H,I.tok _,⟨_,rfl⟩,q⟩
theorem QK:UnR X (unaryOp .USub) (rU fun i=>.int (-i)):=unI fun _ _ _ _ _ q=>neg_int q
end
def scal:V->V->Bool
 | .non,.non=>true | .non,.int _=>true | .int _,.non=>true | .non,.bl _=>true | .bl _,.non=>true | .non,.str _=>true | .str _,.non=>true
 | .int _,.int _=>true | .bl _,.bl _=>true | .str _,.str _=>true | .byt _,.byt _=>true
 | .int _,.str _=>true | .str _,.int _=>true | .bl _,.str _=>true | .str _,.bl _=>true
 | _,_=>false
def rEq:R2:=fun x y H Q=>scal x y=true/\Q (.bl (decide (x=y))) H
def rNe:R2:=fun x y H Q=>scal x y=true/\Q (.bl (!decide (x=y))) H
theorem Ye {i j:Int}:decide (V.int i=V.int j)=(i == j):=by
 rw [Bool.eq_iff_iff]
 simp
theorem X4 {i j:Bool}:decide (V.bl i=V.bl j)=(i == j):=by
 rw [Bool.eq_iff_iff]
 simp
theorem Yf {i j:Str}:decide (V.str i=V.str j)=(i == j):=by
 rw [Bool.eq_iff_iff]
 simp
theorem Yg {i j:Array UInt8}:decide (V.byt i=V.byt j)=(i.toList == j.toList):=by
 rw [Bool.eq_iff_iff]
 cases i
 cases j
 simp
section
variable {X:Cx} {a b c:Expr} {ta tb tc:TE} {pos:Pos}
theorem zM {pins:List (Addr × Obj)} {σ:St} {H:Hp} {s:Shared} {Q:VK} {k k':Bool} (I:Inv X pins σ H s) (q:Q (.bl k) H) (e:k=k'):EP X pins σ Q (.bool k') s:=by
 subst e
 exact ⟨.bl k,H,I,rfl,q⟩
theorem zaP:OpR X (compareOp .Eq) rEq:=by
 intro pins s σ H x y v u Q I rx ry h
 obtain ⟨hs,q⟩:=h
 cases x with
 | non =>
  cases rx
  cases y with
  | non=>cases ry; exact PySem.EqNone.eq_none_none (zM I q (by simp))
  | bl j=>cases ry; exact PySem.EqNone.eq_none_bool (zM I q (by simp))
  | int j=>obtain ⟨t',rfl⟩:=ry; exact PySem.EqNone.eq_none_int (zM I q (by simp))
  | str j=>obtain ⟨t',rfl⟩:=ry; exact PySem.EqNone.eq_none_str (zM I q (by simp))
  | _=>exact absurd (show false=true from hs) uB
 | bl i =>
  cases rx
  cases y with
  | non=>cases ry; exact PySem.EqNone.eq_bool_none (zM I q (by simp))
  | bl j=>cases ry; exact eq_bool (zM I q X4)
  | str j=>obtain ⟨t',rfl⟩:=ry; exact PySem.EqMixed.eq_bool_str (zM I q (by simp))
  | _=>exact absurd (show false=true from hs) uB
 | int i =>
  obtain ⟨t,rfl⟩:=rx
  cases y with
  | non=>cases ry; exact PySem.EqNone.eq_int_none (zM I q (by simp))
  | int j=>obtain ⟨t',rfl⟩:=ry; exact eq_int (zM I q Ye)
  | str j=>obtain ⟨t',rfl⟩:=ry; exact PySem.EqMixed.eq_int_str (zM I q (by simp))
  | _=>exact absurd (show false=true from hs) uB
 | str i =>
  obtain ⟨t,rfl⟩:=rx
  cases y with
  | non=>cases ry; exact PySem.EqNone.eq_str_none (zM I q (by simp))
  | bl j=>cases ry; exact PySem.EqMixed.eq_str_bool (zM I q (by simp))
  | int j=>obtain ⟨t',rfl⟩:=ry; exact PySem.EqMixed.eq_str_int (zM I q (by simp))
  | str j=>obtain ⟨t',rfl⟩:=ry; exact eq_str (zM I q Yf)
  | _=>exact absurd (show false=true from hs) uB
 | byt i =>
  obtain ⟨t,rfl⟩:=rx
  cases y with
  | byt j=>obtain ⟨t',rfl⟩:=ry; exact PySem.W.eq_bytes (zM I q Yg)
  | _=>exact absurd (show false=true from hs) uB
 | _=>cases y <;> exact absurd (show false=true from hs) uB
theorem zaQ:OpR X (compareOp .NotEq) rNe:=by
 intro pins s σ H x y v u Q I rx ry h
 obtain ⟨hs,q⟩:=h
 cases x with
 | non =>
  cases rx
  cases y with
  | non=>cases ry; exact PySem.EqNone.ne_none_none (zM I q (by simp))
  | bl j=>cases ry; exact PySem.EqNone.ne_none_bool (zM I q (by simp))
  | int j=>obtain ⟨t',rfl⟩:=ry; exact PySem.EqNone.ne_none_int (zM I q (by simp))
  | str j=>obtain ⟨t',rfl⟩:=ry; exact PySem.EqNone.ne_none_str (zM I q (by simp))
  | _=>exact absurd (show false=true from hs) uB
 | bl i =>
  cases rx
  cases y with
  | non=>cases ry; exact PySem.EqNone.ne_bool_none (zM I q (by simp))
  | bl j=>cases ry; exact ne_bool (zM I q (congrArg not X4))
  | str j=>obtain ⟨t',rfl⟩:=ry; exact PySem.EqMixed.ne_bool_str (zM I q (by simp))
  | _=>exact absurd (show false=true from hs) uB
 | int i =>
  obtain ⟨t,rfl⟩:=rx
  cases y with
  | non=>cases ry; exact PySem.EqNone.ne_int_none (zM I q (by simp))
  | int j=>obtain ⟨t',rfl⟩:=ry; exact ne_int (zM I q (congrArg not Ye))
  | str j=>obtain ⟨t',rfl⟩:=ry; exact PySem.EqMixed.ne_int_str (zM I q (by simp))
  | _=>exact absurd (show false=true from hs) uB
 | str i =>
  obtain ⟨t,rfl⟩:=rx
  cases y with
  | non=>cases ry; exact PySem.EqNone.ne_str_none (zM I q (by simp))
  | bl j=>cases ry; exact PySem.EqMixed.ne_str_bool (zM I q (by simp))
  | int j=>obtain ⟨t',rfl⟩:=ry; exact PySem.EqMixed.ne_str_int (zM I q (by simp))
  | str j=>obtain ⟨t',rfl⟩:=ry; exact ne_str (zM I q (congrArg not Yf))
  | _=>exact absurd (show false=true from hs) uB
 | byt i =>
  obtain ⟨t,rfl⟩:=rx
  cases y with
  | byt j=>obtain ⟨t',rfl⟩:=ry; exact PySem.W.ne_bytes (zM I q (congrArg not Yg))
  | _=>exact absurd (show false=true from hs) uB
 | _=>cases y <;> exact absurd (show false=true from hs) uB
theorem zaR:OpR X (compareOp .Lt) (rI0 fun i j=>.bl (decide (i < j))):=opB0 fun _ _ _ _ _ _ _ q=>lt_int q
theorem zaS:OpR X (compareOp .Gt) (rI0 fun i j=>.bl (decide (j < i))):=opB0 fun _ _ _ _ _ _ _ q=>gt_int q
theorem zaT:OpR X (compareOp .GtE) (rI0 fun i j=>.bl (decide (j<=i))):=opB0 fun _ _ _ _ _ _ _ q=>ge_int q
theorem zw (b:Expr) {op:CmpOp} (h:op≠.In:=by decide) (h2:op≠.NotIn:=by decide):behindInMarks op b=false:=by
 have e1:(op == CmpOp.In)=false:=by cases op <;> first | rfl | exact absurd rfl h
 have e2:(op == CmpOp.NotIn)=false:=by cases op <;> first | rfl | exact absurd rfl h2
 cases b <;> simp [behindInMarks,e1,e2]
theorem Jf {op:CmpOp} {r:R2} (ho:OpR X (compareOp op) r) (ha:PE X a ta) (hb:PE X b tb) (hm:behindInMarks op b=false):PE X (.Compare a [op] [b] pos) (tOp r ta tb):=by
 intro pins s σ H Q I h
 exact wpAny_Compare1 (binT ha hb I h fun v u s2 x y H2 I2 rx ry q=>ho pins s2 σ H2 x y v u Q I2 rx ry q) hm
def qO (t:TE):TT:=fun σ H Q=>t σ H fun x H'=>∃ k,x=.bl k/\Q k H'
theorem Jg {op:CmpOp} {r:R2} (ho:OpR X (compareOp op) r) (ha:PE X a ta) (hb:PE X b tb) (hm:behindInMarks op b=false):PT X (.Compare a [op] [b] pos) (qO (tOp r ta tb)):=by
 intro pins s σ H Q I h
 refine wpAny_isTrue_Compare1 (thn (ha pins s σ H _ I h) fun v s1 ⟨x,H1,I1,r1,q1⟩=>thn (hb pins s1 σ H1 _ I1 q1) fun u s2 ⟨y,H2,I2,r2,q2⟩ =>
  thn (ho pins s2 σ H2 x y v u _ I2 r1 r2 q2) fun c s3 ⟨z,H3,I3,r3,k,e,q3⟩=>?_) hm
 subst e
 cases r3
 exact wpAny_truthy_bool ⟨H3,I3,q3⟩
def X5 (r r':R2) (ta tb tc:TE):TE:=fun σ H Q=>ta σ H fun x H1=>tb σ H1 fun y H2=>r x y H2 fun z H3=>∃ k,z=.bl k /\
 (if k=true then tc σ H3 fun w' H4=>r' y w' H4 Q else Q (.bl false) H3)
theorem X6 {op op':CmpOp} {r r':R2} (ho:OpR X (compareOp op) r) (ho':OpR X (compareOp op') r') (ha:PE X a ta) (hb:PE X b tb) (hc:PE X c tc)
  (hm:lastMarks [op,op'] [b,c]=false:=by with_unfolding_all rfl):PE X (.Compare a [op,op'] [b,c] pos) (X5 r r' ta tb tc):=by
 intro pins s σ H Q I h
 refine Compare_chain (thn (ha pins s σ H _ I h) fun v s1 ⟨x,H1,I1,r1,q1⟩=>chain_link (thn (hb pins s1 σ H1 _ I1 q1) fun u s2 ⟨y,H2,I2,r2,q2⟩ =>
  thn (ho pins s2 σ H2 x y v u _ I2 r1 r2 q2) fun d s3 ⟨z,H3,I3,r3,k,e,q3⟩=>?_)) hm
 subst e
 cases r3
 refine wpAny_truthy_bool ?_
 cases k with
 | false=>exact ite_ff ⟨.bl false,H3,I3,rfl,q3⟩
 | true=>exact ite_tt (chain_last (thn (hc pins s3 σ H3 _ I3 q3) fun w' s4 ⟨z',H4,I4,r4,q4⟩=>ho' pins s4 σ H4 y z' u w' Q I4 r2 r4 q4))
theorem xG:(sizeLine:Nat) < 2 ^ 63:=by rw [sizeLine_eq]; decide
theorem Zy:OpR X (binaryOp .Add) (fun x y H Q=>∃ i j,x=.str i/\y=.str j/\i.length + j.length<=sizeLine/\Q (.str (i ++ j)) H):=by
 intro pins s σ H x y v u Q I rx ry h
 obtain ⟨i,j,rfl,rfl,hz,q⟩:=h
 obtain ⟨t,rfl⟩:=rx
 obtain ⟨t',rfl⟩:=ry
 exact add_str (fun t' tk=>⟨.str (i ++ j),H,I.tok _,⟨_,rfl⟩,q⟩) hz
theorem wf {x:V} {us:List Value} (r:Vals [x] us):∃ u,us=[u]/\RelV x u:=by
 cases r with
 | cons r1 r2=>cases r2; exact ⟨_,rfl,r1⟩
theorem X7 {x y:V} {us:List Value} (r:Vals [x,y] us):∃ u w',us=[u,w']/\RelV x u/\RelV y w':=by
 cases r with
 | cons r1 r2 =>
  cases r2 with
  | cons r3 r4=>cases r4; exact ⟨_,_,rfl,r1,r3⟩
theorem Xk:xh X (.type "int") (fun xs H Q=>(∃ i,xs=[.int i]/\Q (.int i) H)\/∃ k,xs=[.bl k]/\Q (.int (if k then 1 else 0)) H):=by
 intro pins s σ H xs us Q I r h
 rcases h with ⟨i,rfl,q⟩ | ⟨k,rfl,q⟩
 ·obtain ⟨u,rfl,t,rfl⟩:=wf r
  exact call_int_int ⟨.int i,H,I,⟨_,rfl⟩,q⟩
 ·obtain ⟨u,rfl,r1⟩:=wf r
  cases r1
  exact call_int_bool ⟨.int (if k then 1 else 0),H,I.tok _,⟨_,rfl⟩,q⟩
theorem vO:xh X (.type "str") (fun xs H Q=>∃ i,xs=[.int i]/\i.natAbs.log2 < 1920/\Q (.str (toString i)) H):=by
 intro pins s σ H xs us Q I r h
 obtain ⟨i,rfl,hz,q⟩:=h
 obtain ⟨u,rfl,t,rfl⟩:=wf r
 exact PySem.P.str_of_int hz ⟨.str _,H,I.tok _,⟨_,rfl⟩,q⟩
end
end L2
namespace L2
open PySem PySem.Spec PyProof.Rows
structure ObjM (h:Heap) (x dx C:Addr) (mA:Str->Option Value):Prop where
 obj:h.get? x=some (UF C dx)
 ns:h.Ns1 dx mA
 ne:dx≠x
theorem vi {h:Heap} {dx:Addr} {mA:Str->Option Value} (n:h.Ns1 dx mA):∃ od,h.get? dx=some od/\∀ name,PySem.W.lookIn name od=some (mA name):=by
 obtain ⟨o,es,ep,ho,hd,hk,_,hm⟩:=n
 refine ⟨o,ho,fun name=>?_⟩
 have e:=hm name
 unfold nsFind findBy at e
 rw [<- Array.find?_toList] at e
 unfold PySem.W.lookIn
 rw [hd]
 dsimp only
 split
 ·rename_i y q
  rw [q] at e
  exact congrArg some e
 ·rename_i q
  rw [q] at e
  have a:es.toList.any (·.refKey)=false:=by
   rw [List.any_eq_false]
   intro y hy
   obtain ⟨z,t,hkey⟩:=hk y (Array.mem_toList_iff.mp hy)
   simp [DictEntry.refKey,hkey]
  have a':¬ es.toList.any (·.refKey)=true:=by rw [a]; exact uB
  rw [if_neg a']
  exact congrArg some e
theorem ObjM.look {h:Heap} {x dx C:Addr} {mA:Str->Option Value} (I:ObjM h x dx C mA):∃ od,PySem.W.InstAt h x (UF C dx) C (some od)/\∀ name,PySem.W.lookIn name od=some (mA name) :=
 let ⟨od,ho,hl⟩:=vi I.ns
 ⟨od,⟨I.obj,rfl,rfl,ho⟩,hl⟩
section
variable {prog:Program} {w:World} {A:Around} {E:Value->Shared->Prop} {s:Shared} {K:ua} {x dx C f:Addr} {mA:Str->Option Value} {name:Str} {v:Value}
theorem Jh {expr:Bool} {Q:Value->Shared->Prop} (X:K.In s.heap) (I:ObjM s.heap x dx C mA) (hg:U2 K C name=true) (hh:Uv K C=true)
  (ha:uy K (.ref C) name=some none) (hv:mA name=some v) (hv':PySem.W.handedIn v=true) (h:Q v { s with toks:=s.toks + 1 }) :
  wpAny (model prog w) A (getAttr (.ref x) name expr) Q E s:=by
 obtain ⟨od,J,hl⟩:=I.look
 exact PySem.W.get_value X J (PySem.W.plainGet_of hg).1 (PySem.W.findObj_own hh ha rfl (by rw [hl,hv])) hv' h
theorem X8 {pl:Sem Bool} {Q:Value × List Value->Shared->Prop} (X:K.In s.heap) (I:ObjM s.heap x dx C mA) (hg:U2 K C name=true)
  (hf:uy K (.ref C) name=some (some (.ref f))) (ht:PySem.W.isFn K (.ref f)=true) (hv:mA name=none) (h:Q (.ref f,[.ref x]) s) :
  wpAny (model prog w) A (getMethod (.ref x) name pl) Q E s:=by
 obtain ⟨od,J,hl⟩:=I.look
 exact PySem.W.method_fn X J (PySem.W.plainGet_of hg).1 (PySem.W.plainGet_of hg).2 hf (beq_iff_eq.mp ht) (by show (PySem.W.lookIn name od).map (·.isSome)=some false; rw [hl,hv]; rfl) h
theorem Ji {ns:List Str} {Q:Unit->Shared->Prop} (X:K.In s.heap) (I:ObjM s.heap x dx C mA)
  (hs:uy K (.ref C) "__setattr__"=some (some (.builtin "object.__setattr__"))) (hp:PySem.W.plainOver K C=true) (ht:UY K C name=some none) (hh:Uv K C=true)
  (hw:PySem.Within mA ns) (hsz:ns.length<=sizeLine)
  (h:∀ h',ObjM h' x dx C (fun y=>if y=name then some v else mA y)->Heap.SameBut dx s.heap h'->Q () { s with heap:=h',toks:=s.toks + 2 }) :
  wpAny (model prog w) A (setAttr (.ref x) name v) Q E s:=by
 obtain ⟨od,J,hl⟩:=I.look
 refine PySem.W.set_plain X J hs (PySem.W.osa_open (s:={ s with toks:=s.toks + 1 }) (r:=none) X J hp ht fun b=>?_)
 obtain ⟨cd,hc,hd'⟩:=PySem.W.any_some hh
 have hx:s.heap.get? x=some ⟨.ref C,some dx,.plain,#[]⟩:=I.obj
 refine wpAny_bind (wpAny_pure (wpAny_bind (wpAny_bind (wpAny_loadPart hx (wpAny_bind (PySem.W.Looks.here (s:={ s with toks:=s.toks + 1 }) (PySem.W.looks_clsIn X hc) ?_))))))
 rw [hd']
 refine wpAny_pure (a:=some dx) (wpAny_bind (wpAny_pure (wpAny_bind ?_)))
 refine wpAny_nsSet1 (s:={ s with toks:=s.toks + 1 }) I.ns fun h' hn2 hs2=>?_
 obtain ⟨oD,esD,epD,hoD,hdD,hcD⟩:=hn2.count (PySem.Within.cons name v hw)
 refine wpAny_bind (wpAny_lookBehind hoD (by rw [hdD]; exact pastItsLine_dict (uX hcD (by rw [uD]; lia))) ?_)
 exact wpAny_pure (h _ ⟨(hs2.2 _ (Ne.symm I.ne)).trans I.obj,hn2,I.ne⟩ hs2)
theorem X9 {R:Result->Shared->Prop} {vs:List Value} {kw:List (Str × Value)} (X:K.In s.heap) (hm:PySem.W.makesIn K C=true)
  (hi:uy K (.ref C) "__init__"=some (some (.ref f))) (hf:PySem.W.typeIn K (.ref f)=some (.type "function"))
  (h:codeAny (model prog w) (A.under (.builtin "type.__call__" ⟨.ref C :: vs,kw⟩)) (.call (.ref f) ⟨.ref (s.heap.objs.size + 1) :: vs,kw⟩) (PySem.W.InitBack (s.heap.objs.size + 1) R)
   { s with heap:=(s.heap.push uT).push (UF C s.heap.objs.size) }) :
  codeAny (model prog w) A (.call (.ref C) ⟨vs,kw⟩) R s:=by
 obtain ⟨hh,g,d,t,os⟩:=s
 exact PySem.W.make_core (PySem.W.makes_of X hm) (PySem.W.looks_findIn X hi) (fun self=>PySem.W.bind_fn X self hf) (.inl rfl) h
end
def putF (f:Str) (v:V):List (Str × V)->List (Str × V)
 | []=>[(f,v)]
 | (g,x) :: r=>if g=f then (g,v) :: r else (g,x) :: putF f v r
theorem wg (f g:Str) (v:V):∀ fs:List (Str × V),(putF f v fs).lookup g=if g=f then some v else fs.lookup g
 | []=>by
  show UK g [(f,v)]=_
  by_cases h:g=f
  ·have hb:(g == f)=true:=beq_iff_eq.mpr h
   simp only [UK,hb,if_pos h]
  ·have hb:(g == f)=false:=beq_eq_false_iff_ne.mpr h
   simp only [UK,hb,if_neg h]
 | (k,x) :: r=>by
  have ih:=wg f g v r
  rw [show putF f v ((k,x) :: r)=(if k=f then (k,v) :: r else (k,x) :: putF f v r) from rfl]
  by_cases hk:k=f
  ·rw [if_pos hk]
   by_cases h:g=k
   ·have hb:(g == k)=true:=beq_iff_eq.mpr h
    simp only [UK,hb,if_pos (h.trans hk)]
   ·have hb:(g == k)=false:=beq_eq_false_iff_ne.mpr h
    simp only [UK,hb,if_neg (fun e:g=f=>h (e.trans hk.symm))]
  ·rw [if_neg hk]
   by_cases h:g=k
   ·have hb:(g == k)=true:=beq_iff_eq.mpr h
    simp only [UK,hb,if_neg (fun e:g=f=>hk (h.symm.trans e))]
   ·have hb:(g == k)=false:=beq_eq_false_iff_ne.mpr h
    simp only [UK,hb]
    exact ih
theorem x5 (f:Str) (v:V):∀ fs:List (Str × V),f∈(putF f v fs).map (·.1)/\∀ g,g∈fs.map (·.1)->g∈(putF f v fs).map (·.1)
 | []=>⟨by simp [putF],fun g h=>by simp at h⟩
 | (k,x) :: r=>by
  obtain ⟨i1,i2⟩:=x5 f v r
  rw [show putF f v ((k,x) :: r)=(if k=f then (k,v) :: r else (k,x) :: putF f v r) from rfl]
  by_cases hk:k=f
  ·rw [if_pos hk]
   subst hk
   exact ⟨by simp,fun g h=>by simpa using h⟩
  ·rw [if_neg hk]
   refine ⟨?_,fun g h=>?_⟩
   ·rw [uP]
    exact ut _ i1
   ·rw [uP] at h ⊢
    rcases uq.mp h with e | e
    ·exact uq.mpr (.inl e)
    ·exact ut _ (i2 g e)
theorem wj (f:Str) (v:V):∀ fs:List (Str × V),(putF f v fs).length<=fs.length + 1
 | []=>by simp [putF]
 | (k,x) :: r=>by
  have ih:=wj f v r
  rw [show putF f v ((k,x) :: r)=(if k=f then (k,v) :: r else (k,x) :: putF f v r) from rfl]
  by_cases hk:k=f
  ·rw [if_pos hk,uD,uD]; lia
  ·rw [if_neg hk,uD,uD]; lia
theorem RelO.some_of {v:V} {o:Option Value} (r:RelO (some v) o):∃ u,o=some u/\RelV v u:=by
 cases o with
 | none=>exact (show False from r).elim
 | some u=>exact ⟨u,rfl,r⟩
theorem RelO.none_of {o:Option Value} (r:RelO none o):o=none:=by
 cases o with
 | none=>rfl
 | some u=>exact (show False from r).elim
theorem vj {v:V} {u:Value} (r:RelV v u):PySem.W.handedIn u=true:=by
 cases v with
 | non=>cases (show u=Value.none from r); rfl
 | bl b=>cases (show u=Value.bool b from r); rfl
 | int i=>obtain ⟨t,e⟩:=(show ∃ t,u=Value.int i t from r); cases e; rfl
 | str x=>obtain ⟨t,e⟩:=(show ∃ t,u=Value.str x t from r); cases e; rfl
 | byt b=>obtain ⟨t,e⟩:=(show ∃ t,u=Value.bytes b t from r); cases e; rfl
 | flt b=>obtain ⟨t,e⟩:=(show ∃ t,u=Value.float b t from r); cases e; rfl
 | ref a=>cases (show u=Value.ref a from r); rfl
 | ty n=>cases (show u=Value.type n from r); rfl
section
variable {P:Program} {w:World} {H H':Hp} {h h':Heap} {a C dx:Addr} {fs fs':List (Str × V)}
theorem wv (hok:HOk P w H h) (e:H a=some (.ins C dx fs)):∃ mA,ObjM h a dx C mA/\(∀ f,RelO (fs.lookup f) (mA f))/\PySem.Within mA (fs.map (·.1))/\fs.length<=1000/\H dx=some (.own a):=by
 obtain ⟨d,z,ne,ob,mA,n,r,q⟩:=(show ObjOk P w H h a (.ins C dx fs) from hok a _ e)
 exact ⟨mA,⟨ob,n,ne⟩,r,q,z,d⟩
end
structure Cls (K:ua) (C:Addr):Prop where
 pg:U2 K C Str.empty=true
 hd:Uv K C=true
 po:PySem.W.plainOver K C=true
 sa:uy K (.ref C) "__setattr__"=some (some (.builtin "object.__setattr__"))
theorem Cls.get {K:ua} {C:Addr} (c:Cls K C) (f:Str):U2 K C f=true:=c.pg
def NoAttr (K:ua) (C:Addr) (f:Str):Prop:=uy K (.ref C) f=some none
theorem NoAttr.taker {K:ua} {C:Addr} {f:Str} (n:NoAttr K C f):UY K C f=some none:=by
 unfold UY
 rw [show uy K (.ref C) f=some none from n]
 rfl
structure Meth (K:ua) (C:Addr) (m:Str) (f:Addr):Prop where
 at_:uy K (.ref C) m=some (some (.ref f))
 fn:PySem.W.isFn K (.ref f)=true
 kp:uU K (.ref f)=true
section
variable {X:Cx} {pins:List (Addr × Obj)} {σ:St} {H:Hp} {s:Shared} {a C dx:Addr} {fs:List (Str × V)} {f:Str} {v:V} {A:Around} {E:Value->Shared->Prop}
theorem Zz {b:Bool} {Q:Value->Shared->Prop} (I:Inv X pins σ H s) (e:H a=some (.ins C dx fs)) (c:Cls X.K C) (n:NoAttr X.K C f) (l:fs.lookup f=some v)
  (h:∀ u s',Inv X pins σ H s'->RelV v u->Q u s'):wpAny (model X.prog X.w) A (getAttr (.ref a) f b) Q E s:=by
 obtain ⟨mA,O,r,_,_,_⟩:=wv I.hok e
 obtain ⟨u,hu,ru⟩:=RelO.some_of (v:=v) (o:=mA f) (by rw [<- l]; exact r f)
 exact Jh I.kIn O (c.get f) c.hd n hu (vj ru) (h u _ (I.tok _) ru)
theorem wF {m:Str} {g:Addr} {pl:Sem Bool} {Q:Value × List Value->Shared->Prop} (I:Inv X pins σ H s) (e:H a=some (.ins C dx fs)) (c:Cls X.K C) (k:Meth X.K C m g) (l:fs.lookup m=none)
  (h:Q (.ref g,[.ref a]) s):wpAny (model X.prog X.w) A (getMethod (.ref a) m pl) Q E s:=by
 obtain ⟨mA,O,r,_,_,_⟩:=wv I.hok e
 have hn:mA m=none:=RelO.none_of (by rw [<- l]; exact r m)
 exact X8 I.kIn O (c.get m) k.at_ k.fn hn h
theorem ZA {y:V} {u:Value} {Q:Unit->Shared->Prop} (I:Inv X pins σ H s) (e:H a=some (.ins C dx fs)) (c:Cls X.K C) (n:NoAttr X.K C f) (hl:fs.length < 1000) (ry:RelV y u)
  (h:∀ s',Inv X pins σ (upd H a (.ins C dx (putF f y fs))) s'->Q () s'):wpAny (model X.prog X.w) A (setAttr (.ref a) f u) Q E s:=by
 obtain ⟨mA,O,r,wi,_,ho⟩:=wv I.hok e
 have hz:(fs.map (·.1)).length<=sizeLine:=by rw [ub,sizeLine_eq]; lia
 refine Ji I.kIn O c.sa c.po n.taker c.hd wi hz fun h' O' sb=>h _ ?_
 have hd:∃ o,h'.get? dx=some o:=let ⟨o,_,_,e',_⟩:=O'.ns; ⟨o,e'⟩
 refine I.write (x:=a) (e:=dx) (by rw [e]; exact True.intro) (.inr ho) (fun b q hb z=>(sb.2 b hb).trans z) hd ?_
 refine ⟨by rw [zm O.ne]; exact ho,?_,O.ne,O'.obj,_,O'.ns,fun g=>?_,fun g hg=>?_⟩
 ·have:=wj f y fs; lia
 ·show RelO ((putF f y fs).lookup g) (if g=f then some u else mA g)
  rw [wg]
  by_cases q:g=f
  ·rw [if_pos q,if_pos q]; exact ry
  ·rw [if_neg q,if_neg q]; exact r g
 ·by_cases q:g=f
  ·rw [q]; exact (x5 f y fs).1
  ·refine (x5 f y fs).2 g (wi g fun z=>hg ?_)
   show (if g=f then some u else mA g)=none
   rw [if_neg q]; exact z
theorem Inv.made (I:Inv X pins σ H s):Inv X pins σ (upd (upd H s.heap.objs.size (.own (s.heap.objs.size + 1))) (s.heap.objs.size + 1) (.ins C s.heap.objs.size []))
  { s with heap:=(s.heap.push uT).push (UF C s.heap.objs.size) }:=by
 have e1:(s.heap.push uT).get? s.heap.objs.size=some uT:=uw s.heap rfl
 have e2:((s.heap.push uT).push (UF C s.heap.objs.size)).get? (s.heap.objs.size + 1)=some (UF C s.heap.objs.size):=by
  have:=uw (s.heap.push uT) (o:=UF C s.heap.objs.size) rfl
  rwa [Ui] at this
 have e3:(s.heap.push uT).Ns s.heap.objs.size (fun _=>none):=⟨uT,#[],_,e1,rfl,(fun e he=>absurd he (by simp)),fun _=>rfl⟩
 have I1:=I.laid (a:=s.heap.objs.size) (o:=.own (s.heap.objs.size + 1)) (h':=s.heap.push uT) (t':=s.toks) (fun b u q=>uc _ q) (ui _) ⟨_,e1⟩
 refine I1.laid (a:=s.heap.objs.size + 1) (o:=.ins C s.heap.objs.size []) (t':=s.toks) (fun b u q=>uc _ q) (Nat.le_of_eq (Ui _ _)) ?_
 have ne:s.heap.objs.size≠s.heap.objs.size + 1:=uQ (US _)
 refine ⟨by rw [zm ne,zf],u6 _,ne,e2,fun _=>none,(Heap.Ns1.of_empty e3).at fun o q=>uc _ q,fun _=>True.intro,fun y hy=>absurd rfl hy⟩
theorem Yh {prog:Program} {w:World} {env:Env} {e:Expr} {f:Str} {pos:Pos} {s:Shared} {Q:Value->Shared->Prop} (hb:attributeBase e f env (eval e env)=eval e env)
  (h:wpAny (model prog w) A (eval e env) (fun o s₁=>wpAny (model prog w) A (getAttr o f true) Q E s₁) E s):wpAny (model prog w) A (eval (.Attribute e f pos) env) Q E s :=
 Attribute_any_ h (by rw [arm_eval_Attribute,hb])
end
def tFld (K:ua) (ta:TE) (f:Str):TE:=fun σ H Q=>ta σ H fun x H1=>∃ a C dx fs v,x=.ref a/\H1 a=some (.ins C dx fs)/\Cls K C/\NoAttr K C f/\fs.lookup f=some v/\Q v H1
def sFld (K:ua) (ta tv:TE) (f:Str):TS:=fun D σ H=>tv σ H fun y H1=>ta σ H1 fun x H2=>∃ a C dx fs,x=.ref a/\H2 a=some (.ins C dx fs)/\Cls K C/\NoAttr K C f/\fs.length < 1000 /\
 D.nx σ (upd H2 a (.ins C dx (putF f y fs)))
section
variable {X:Cx} {o e value:Expr} {f:Str} {pos pos' tpos:Pos} {ta tv:TE}
theorem QL (he:PE X e ta) (hb:attributeBase e f X.env (eval e X.env)=eval e X.env):PE X (.Attribute e f pos) (tFld X.K ta f):=by
 intro pins s σ H Q I h
 refine Yh hb (thn (he pins s σ H _ I h) fun u s1 ⟨x,H1,I1,rx,a,C,dx,fs,v,ex,ea,c,n,l,q⟩=>?_)
 subst ex
 obtain rfl:u=Value.ref a:=rx
 exact Zz I1 ea c n l fun u' s2 I2 ru=>⟨v,H1,I2,ru,q⟩
theorem QM (ha:PE X o ta) (hv:PE X value tv) (hs:swapsWith value (some (.Attribute o f pos')) pos.line X.env=pure false):PS X (.Assign [.Attribute o f pos'] value pos) (sFld X.K ta tv f):=by
 intro pins s σ H D I h
 refine plainObj_wpAny_Assign_Attribute (thn (hv pins s σ H _ I h) fun u s1 ⟨y,H1,I1,ry,q⟩=>thn (ha pins s1 σ H1 _ I1 q) fun ov s2 ⟨x,H2,I2,rx,a,C,dx,fs,ex,ea,c,n,l,q2⟩=>?_) hs
 subst ex
 obtain rfl:ov=Value.ref a:=rx
 exact ZA I2 ea c n l ry fun s3 I3=>⟨σ,_,I3,q2⟩
end
section
variable {X:Cx} {pins:List (Addr × Obj)} {σ:St} {H:Hp} {s:Shared} {A:Around} {E:Value->Shared->Prop} {Q:Value->Shared->Prop} {c:Value} {b:Bool}
inductive TyOf (K:ua) (H:Hp):V->Value->Prop where
 | non:TyOf K H .non (.type "NoneType")
 | bl (x:Bool):TyOf K H (.bl x) (.type "bool")
 | int (i:Int):TyOf K H (.int i) (.type "int")
 | str (x:Str):TyOf K H (.str x) (.type "str")
 | flt (x:UInt64):TyOf K H (.flt x) (.type "float")
 | lst {a:Addr} {xs:List V} (e:H a=some (.lst xs)):TyOf K H (.ref a) (.type "list")
 | frz {a:Addr} {o:Obj} {xs:List V} (e:H a=some (.frz o (.lst xs))):TyOf K H (.ref a) (.type "list")
 | tup {a:Addr} {xs:List V} (e:H a=some (.tup xs)):TyOf K H (.ref a) (.type "tuple")
 | dK {a:Addr} {kvs:List (Key × V)} (e:H a=some (.dK kvs)):TyOf K H (.ref a) (.type "dict")
 | dT {a:Addr} {kvs:List (List Key × V)} (e:H a=some (.dT kvs)):TyOf K H (.ref a) (.type "dict")
 | ins {a C dx:Addr} {fs:List (Str × V)} (e:H a=some (.ins C dx fs)) (cl:Cls K C) (ha:uy K (.ref C) "__class__"=some (some (.builtin "object.__class__")))
   (hn:PySem.W.specialIn K (.builtin "object.__class__") "__get__"=some (some (.builtin "getset_descriptor.__get__"))) (htk:PySem.W.takesIn K (.builtin "object.__class__")=some true)
   (hm:PySem.W.mroIn K C (.type "object")=some true):TyOf K H (.ref a) (.ref C)
theorem Xl {x:V} {u t:Value} (I:Inv X pins σ H s) (rx:RelV x u) (ty:TyOf X.K H x t) (e:PySem.W.kitOne X.K t c=some b) (h:∀ tk,Q (.bool b) { s with toks:=tk }) :
  wpAny (model X.prog X.w) A (call (.builtin "isinstance") [u,c]) Q E s:=by
 cases ty with
 | non=>cases (show u=Value.none from rx); exact Up PySem.W.kitx_none I.kIn True.intro e (fun z=>nomatch z) h
 | bl y=>cases (show u=Value.bool y from rx); exact Up PySem.W.kitx_bool I.kIn True.intro e (fun z=>nomatch z) h
 | int i=>obtain ⟨t,q⟩:=(show ∃ t,u=Value.int i t from rx); cases q; exact Up PySem.W.kitx_int I.kIn True.intro e (fun z=>nomatch z) h
 | str y=>obtain ⟨t,q⟩:=(show ∃ t,u=Value.str y t from rx); cases q; exact Up PySem.W.kitx_str I.kIn True.intro e (fun z=>nomatch z) h
 | flt y=>obtain ⟨t,q⟩:=(show ∃ t,u=Value.float y t from rx); cases q; exact Up PySem.W.kitx_float I.kIn True.intro e (fun z=>nomatch z) h
 | @lst a xs ea =>
  cases (show u=Value.ref a from rx)
  obtain ⟨_,_,n,_,h1⟩:=(show ObjOk X.prog X.w H s.heap a (.lst xs) from I.hok a _ ea)
  exact Up PySem.W.kitx_list I.kIn ⟨_,h1,rfl⟩ e (fun z=>nomatch z) h
 | @frz a ob xs ea =>
  cases (show u=Value.ref a from rx)
  obtain ⟨_,_,_,n,_,h1⟩:=(show ObjOk X.prog X.w H s.heap a (.frz ob (.lst xs)) from I.hok a _ ea)
  exact Up PySem.W.kitx_list I.kIn ⟨_,h1,rfl⟩ e (fun z=>nomatch z) h
 | @tup a xs ea =>
  cases (show u=Value.ref a from rx)
  obtain ⟨_,_,_,p⟩:=(show ObjOk X.prog X.w H s.heap a (.tup xs) from I.hok a _ ea)
  obtain ⟨o,h1,h2,_⟩:=p
  exact Up PySem.W.kitx_tuple I.kIn ⟨o,h1,h2⟩ e (fun z=>nomatch z) h
 | @dK a kvs ea =>
  cases (show u=Value.ref a from rx)
  obtain ⟨_,_,vs,_,p⟩:=(show ObjOk X.prog X.w H s.heap a (.dK kvs) from I.hok a _ ea)
  obtain ⟨o,es,ep,h1,h2,_⟩:=p
  exact Up PySem.W.kitx_dict I.kIn ⟨o,h1,h2.1⟩ e (fun z=>nomatch z) h
 | @dT a kvs ea =>
  cases (show u=Value.ref a from rx)
  obtain ⟨_,_,xs,_,o,es,ep,h1,h2,_⟩:=(show ObjOk X.prog X.w H s.heap a (.dT kvs) from I.hok a _ ea)
  exact Up PySem.W.kitx_dict I.kIn ⟨o,h1,h2.1⟩ e (fun z=>nomatch z) h
 | @ins a C dx fs ea cl ha hn htk hm =>
  cases (show u=Value.ref a from rx)
  obtain ⟨mA,O,_⟩:=wv I.hok ea
  obtain ⟨od,J,_⟩:=O.look
  exact Up (PySem.W.kitx_own (cl.get _) cl.hd ha hn htk hm) I.kIn J e (fun z=>nomatch z) h
end
end L2
namespace L2
open PySem PySem.Spec PyProof.Rows
structure Room (k:Nat) (A:Around):Prop where
 hd:A.handled=none
 dp:A.depth + 3 * k + 5 < recursionLimit
 un:A.units + 16 * k + 200 < cLine
theorem Room.mono {j k:Nat} {A:Around} (r:Room k A) (h:j<=k):Room j A:=⟨r.hd,by have:=r.dp; lia,by have:=r.un; lia⟩
theorem Room.deeper {k:Nat} {A:Around} (r:Room (k + 1) A) (env:Env):Room k (A.deeper env) :=
 ⟨r.hd,by have:=r.dp; show A.depth + 1 + 3 * k + 5 < _; lia,by have:=r.un; show A.units + 3 + 16 * k + 200 < _; lia⟩
theorem ZB {A:Around} {C:Addr} {us:List Value} {kw:List (Str × Value)}:(A.under (.builtin "type.__call__" ⟨.ref C :: us,kw⟩)).depth=A.depth + 1:=by
 first | rfl | simp [Around.under,Code.weight,Code.isCreation,Code.isGuard,Code.isCaller,Code.frames,Code.isFrame,guardIds]
theorem ZC {A:Around} {C:Addr} {us:List Value} {kw:List (Str × Value)}:(A.under (.builtin "type.__call__" ⟨.ref C :: us,kw⟩)).units=A.units + 1:=by
 first | rfl | simp [Around.under,Code.cUnits,Code.frames,Code.isFrame]
theorem Room.make {k:Nat} {A:Around} (r:Room (k + 1) A) (C:Addr) (us:List Value) (kw:List (Str × Value)):Room k (A.under (.builtin "type.__call__" ⟨.ref C :: us,kw⟩)) :=
 ⟨r.hd,by have:=r.dp; rw [ZB]; lia,by have:=r.un; rw [ZC]; lia⟩
theorem Room.depth {k:Nat} {A:Around} (r:Room k A):A.depth < recursionLimit:=by have:=r.dp; lia
theorem Room.units {k:Nat} {A:Around} (r:Room k A):A.units + 64 < cLine:=by have:=r.un; lia
theorem Room.units0 {k:Nat} {A:Around} (r:Room k A):A.units < cLine:=by have:=r.un; lia
def tNil:TA:=fun _ H Q=>Q [] H
def Yi (ta:TE) (tr:TA):TA:=fun σ H Q=>ta σ H fun x H1=>tr σ H1 fun xs H2=>Q (x :: xs) H2
section
variable {X:Cx} {e:Expr} {es:List Expr} {te:TE} {t:TA} {pos:Pos}
theorem QN:PA X [] tNil:=fun _ _ _ _ H Q I h=>Calls.spliced_nil ⟨[],H,I,.nil,h⟩
theorem Jj (ha:PE X e te) (hr:PA X es t) (hs:starEach (e :: es) X.env=(false,eval e X.env) :: starEach es X.env:=by rfl):PA X (e :: es) (Yi te t):=by
 intro pos pins s σ H Q I h
 rw [hs]
 show wpAny _ _ (spliced ((false,eval e X.env) :: backTo pos (starEach es X.env))) _ _ s
 refine Calls.spliced_cons (thn (ha pins s σ H _ I h) fun u s1 ⟨x,H1,I1,r1,q1⟩=>?_)
 exact thn (hr pos pins s1 σ H1 _ I1 q1) fun us s2 ⟨xs,H2,I2,r2,q2⟩=>⟨x :: xs,H2,I2,.cons r1 r2,q2⟩
def tTup (t:TA):TE:=fun σ H Q=>t σ H fun xs H1=>xs.length<=sizeLine/\∀ p,H1 p=none->Q (.ref p) (upd H1 p (.tup xs))
def tLst (t:TA):TE:=fun σ H Q=>t σ H fun xs H1=>xs.length<=sizeLine/\∀ p,H1 p=none->Q (.ref p) (upd H1 p (.lst xs))
theorem QO {x1} (h:PA X es t):PE X (.Tuple es x1 pos) (tTup t):=by
 intro pins s σ H Q I hq
 refine wpAny_Tuple_spliced (thn (h pos pins s σ H _ I hq) fun us s1 ⟨xs,H1,I1,r,z,q⟩=>⟨by rw [<- r.length]; exact z,?_⟩)
 have hf:H1 s1.heap.objs.size=none:=I1.hok.fresh (ui _)
 refine ⟨.ref s1.heap.objs.size,upd H1 s1.heap.objs.size (.tup xs),I1.laid (t':=s1.toks) (fun b u e=>uc _ e) (ui _) ?_,rfl,q _ hf⟩
 exact ⟨z,us,r,⟨_,uw _ rfl,rfl,rfl,_,rfl⟩⟩
theorem QP (h:PA X es t):PE X (.List es pos) (tLst t):=by
 intro pins s σ H Q I hq
 refine wpAny_List_spliced (thn (h pos pins s σ H _ I hq) fun us s1 ⟨xs,H1,I1,r,z,q⟩=>⟨by rw [<- r.length]; exact z,?_⟩)
 have hf:H1 s1.heap.objs.size=none:=I1.hok.fresh (ui _)
 refine ⟨.ref s1.heap.objs.size,upd H1 s1.heap.objs.size (.lst xs),I1.laid (t':=s1.toks) (fun b u e=>uc _ e) (ui _) ?_,rfl,q _ hf⟩
 exact ⟨z,us,0,r,uw _ rfl⟩
end
abbrev Sp:=List V->Hp->VK->XK->Prop
abbrev CXT:=List Env->Hp->Shared->XK->Value->Shared->Prop
structure Env0 (P:Program) (w:World) (K:ua) (mg:Str->Option Value) (base:Heap) (A:Around) (outer:List Env) (s:Shared) (H:Hp):Prop where
 frames:A.frames=some outer
 mod:Mod K mg base
 bs:∀ b o,base.get? b=some o->s.heap.get? b=some o/\H b=none
 bsz:base.objs.size<=s.heap.objs.size
 funs:s.heap.FunFrames base outer
 frf:∀ b∈frs outer,H b=none
 hok:HOk P w H s.heap
 bare:AllBare s.gens
def CE (outer:List Env) (P:Program) (w:World) (H:Hp) (s:Shared) (Q:VK) (u:Value) (s':Shared):Prop :=
 ∃ v H',s'.os=s.os/\AllBare s'.gens/\Un (frs outer) [] H H' s.heap s'.heap/\HOk P w H' s'.heap/\RelV v u/\Q v H'
def CR (CX:CXT) (outer:List Env) (P:Program) (w:World) (H:Hp) (s:Shared) (Q:VK) (E:XK) (r:Result) (s':Shared):Prop :=
 match r with
 | .ok (.ret u)=>CE outer P w H s Q u s'
 | .ok _=>False
 | .error e=>CX outer H s E e s'
structure FnOk (P:Program) (w:World) (K:ua) (mg:Str->Option Value) (base:Heap) (CX:CXT) (k:Nat) (f:Addr) (fd:FuncData) (ps:List Str) (sp:Sp):Prop where
 len:∀ vs H Q E,sp vs H Q E->vs.length=ps.length
 run:∀ (A:Around) (outer:List Env) (s:Shared) (H:Hp) (args:Args) (us:List Value) (vs:List V) (Q:VK) (E:XK),Room k A->Env0 P w K mg base A outer s H->BindsTo s fd args (ps.zip us)->Vals vs us->sp vs H Q E ->
  codeAny (model P w) A (.call (.ref f) args) (CR CX outer P w H s Q E) s
theorem FnOk.imp {P:Program} {w:World} {K:ua} {mg:Str->Option Value} {base:Heap} {CX:CXT} {k:Nat} {f:Addr} {fd:FuncData} {ps:List Str} {sp sp':Sp} (F:FnOk P w K mg base CX k f fd ps sp)
  (h:∀ vs H Q E,sp' vs H Q E->sp vs H Q E):FnOk P w K mg base CX k f fd ps sp' :=
 ⟨fun vs H Q E q=>F.len vs H Q E (h _ _ _ _ q),fun A outer s H args us vs Q E hr he hb hv hs=>F.run A outer s H args us vs Q E hr he hb hv (h _ _ _ _ hs)⟩
theorem Env0.make {P:Program} {w:World} {K:ua} {mg:Str->Option Value} {base:Heap} {A:Around} {outer:List Env} {s:Shared} {H:Hp} (e:Env0 P w K mg base A outer s H) (C:Addr) (us:List Value) (kw:List (Str × Value)) :
  Env0 P w K mg base (A.under (.builtin "type.__call__" ⟨.ref C :: us,kw⟩)) outer s H:=⟨by first | exact e.frames | (simpa [Around.under,Code.envs,Code.isFrame,pushEnvs] using e.frames),e.mod,e.bs,e.bsz,e.funs,e.frf,e.hok,e.bare⟩
section
variable {X:Cx} {pins:List (Addr × Obj)} {σ:St} {H:Hp} {s s':Shared}
theorem Inv.env0 (I:Inv X pins σ H s):Env0 X.prog X.w X.K X.mg X.base X.A X.stack s H :=
 ⟨I.ok.frames,I.ok.mod,I.bs,uX I.ok.bsz I.sz,I.stack,I.stkFree,I.hok,I.bare⟩
theorem Inv.after {Q:VK} {u:Value} (I:Inv X pins σ H s) (h:CE X.stack X.prog X.w H s Q u s'):EP X pins σ Q u s':=by
 obtain ⟨v,H',os,bare,un,hok,r,q⟩:=h
 obtain ⟨hh,g,d,t,os'⟩:=s'
 obtain rfl:os'=s.os:=os
 exact ⟨v,H',I.call (h':=hh) (g':=g) (d':=d) (t':=t) (ch:=[]) un hok bare (fun b z=>absurd z (by simp)),r,q⟩
end
def jL (sp:Sp) (dvs:List V) (E:XK) (t:TA):TE:=fun σ H Q=>t σ H fun vs H1=>sp (vs ++ dvs) H1 Q E
def Yj (C:Addr) (m:Str) (sp:Sp) (dvs:List V) (E:XK) (ta:TE) (t:TA):TE:=fun σ H Q=>ta σ H fun x H1=>∃ a dx fs,x=.ref a/\H1 a=some (.ins C dx fs)/\fs.lookup m=none /\
 t σ H1 fun vs H2=>sp (x :: (vs ++ dvs)) H2 Q E
def qP (C:Addr) (sp:Sp) (dvs:List V) (E:XK) (t:TA):TE:=fun σ H Q=>t σ H fun vs H1=>∀ x dx,H1 x=none->H1 dx=none->dx≠x ->
 sp (.ref x :: (vs ++ dvs)) (upd (upd H1 dx (.own x)) x (.ins C dx [])) (fun v H2=>v=.non/\Q (.ref x) H2) E
def Binds (K:ua) (fd:FuncData) (ps:List Str) (ds:List Value):Prop :=
 ∀ (s:Shared) (us:List Value),K.In s.heap->(us ++ ds).length=ps.length->BindsTo s fd ⟨us,[]⟩ (ps.zip (us ++ ds))
theorem Binds.all {K:ua} {fd:FuncData} {ps:List Str} (h:∀ us:List Value,us.length=ps.length->bindArgs fd ⟨us,[]⟩=pure (ps.zip us)):Binds K fd ps []:=fun s us _ hl=>by
 rw [uO] at hl ⊢
 exact .of_eq (h us hl)
def yo (CX:CXT) (X:Cx) (E:XK):Prop:=∀ (pins:List (Addr × Obj)) (σ:St) (H:Hp) (s:Shared) (e:Value) (s':Shared),Inv X pins σ H s->CX X.stack H s E e s'->X.xe e s'
section
variable {X:Cx} {CX:CXT} {k:Nat} {f C:Addr} {fd:FuncData} {ps:List Str} {sp:Sp} {dvs:List V} {ds:List Value} {E:XK} {x m:Str} {p pos apos:Pos} {e o:Expr} {es:List Expr} {ta:TE} {t:TA}
theorem vP {pins:List (Addr × Obj)} {σ:St} {H:Hp} {s:Shared} {Q:VK} {us:List Value} {vs:List V} (F:FnOk X.prog X.w X.K X.mg X.base CX k f fd ps sp) (hr:Room k X.A) (hb:Binds X.K fd ps ds) (hd:Vals dvs ds) (hx:yo CX X E)
  (I:Inv X pins σ H s) (r:Vals vs us) (h:sp (vs ++ dvs) H Q E):wpAny (model X.prog X.w) X.A (call (.ref f) us) (EP X pins σ Q) X.xe s:=by
 have r2:Vals (vs ++ dvs) (us ++ ds):=r.append hd
 have hl:(us ++ ds).length=ps.length:=by rw [<- r2.length]; exact F.len _ _ _ _ h
 refine wpAny_call (codeAny_mono (F.run X.A X.stack s H ⟨us,[]⟩ (us ++ ds) (vs ++ dvs) Q E hr I.env0 (hb s us I.kIn hl) r2 h) fun r s' hq=>?_)
 cases r with
 | error e=>exact hx pins σ H s e s' I hq
 | ok fl =>
  cases fl with
  | ret u=>exact I.after hq
  | next=>exact False.elim hq
  | brk=>exact False.elim hq
  | cont=>exact False.elim hq
theorem Jk (F:FnOk X.prog X.w X.K X.mg X.base CX k f fd ps sp) (hr:Room k X.A) (hg:Gl X x) (hm:X.mg x=some (.ref f)) (hk:uU X.K (.ref f)=true) (hb:Binds X.K fd ps ds) (hd:Vals dvs ds) (hx:yo CX X E)
  (ha:PA X (e :: es) t) (hdb:(x == ("__debug__":Str))=false:=by decide) (he:starEach (e :: es) X.env=(false,eval e X.env) :: starEach es X.env:=by rfl) (hpl:(backTo pos (starEach es X.env)).any (·.1)=false:=by rfl) :
  PE X (.Call (.Name x p) (e :: es) [] pos) (jL sp dvs E t):=by
 intro pins s σ H Q I h
 refine wpAny_Call_Name_kw (xt I hg hm ?_ hdb)
 refine U9 (h₀:=X.base) I.ok.mod.kin hk (thn (ha pos pins s σ H _ I h) fun us s1 ⟨vs,H1,I1,r,q⟩=>⟨I1.kIn,?_⟩) he hpl
 exact vP F hr hb hd hx I1 r q
theorem Jl {pl:Sem Bool} (he:PE X o ta) (c:Cls X.K C) (hm:Meth X.K C m f) (F:FnOk X.prog X.w X.K X.mg X.base CX k f fd ps sp) (hr:Room k X.A) (hb:Binds X.K fd ps ds) (hd:Vals dvs ds) (hx:yo CX X E) (ha:PA X (e :: es) t)
  (hst:starEach (e :: es) X.env=(false,eval e X.env) :: starEach es X.env:=by rfl) (hpl:(backTo pos (starEach es X.env)).any (·.1)=false:=by rfl)
  (ht:eval (.Call (.Attribute o m apos) (e :: es) [] pos) X.env=(do
   let ov <- eval o X.env
   standAt apos.atName
   let (f,first) <- holding [ov] (getMethod ov m pl)
   callWith pos f first (backTo pos (starEach (e :: es) X.env)) (backToKw pos (keywordEach [] X.env))):=by rfl) :
  PE X (.Call (.Attribute o m apos) (e :: es) [] pos) (Yj C m sp dvs E ta t):=by
 intro pins s σ H Q I h
 refine PySem.W.methodCall_KW (pl:=pl) (thn (he pins s σ H _ I h) fun u s1 ⟨x,H1,I1,rx,a,dx,fs,ex,ea,l,q⟩=>?_) ht
 subst ex
 obtain rfl:u=Value.ref a:=rx
 refine wF I1 ea c hm l ?_
 refine U9 (first:=[.ref a]) (h₀:=X.base) I.ok.mod.kin hm.kp (thn (ha pos pins s1 σ H1 _ I1 q) fun us s2 ⟨vs,H2,I2,r,q2⟩=>⟨I2.kIn,?_⟩) hst hpl
 exact vP (us:=.ref a :: us) (vs:=.ref a :: vs) F hr hb hd hx I2 (.cons rfl r) q2
theorem Wa {pl:Sem Bool} (he:PE X o ta) (c:Cls X.K C) (hm:Meth X.K C m f) (F:FnOk X.prog X.w X.K X.mg X.base CX k f fd ps sp) (hr:Room k X.A) (hb:Binds X.K fd ps ds) (hd:Vals dvs ds) (hx:yo CX X E)
  (ht:eval (.Call (.Attribute o m apos) [] [] pos) X.env=(do
   let ov <- eval o X.env
   standAt apos.atName
   let (f,first) <- holding [ov] (getMethod ov m pl)
   callWith pos f first (backTo pos (starEach [] X.env)) (backToKw pos (keywordEach [] X.env))):=by rfl) :
  PE X (.Call (.Attribute o m apos) [] [] pos) (Yj C m sp dvs E ta tNil):=by
 intro pins s σ H Q I h
 refine PySem.W.methodCall_KW (pl:=pl) (thn (he pins s σ H _ I h) fun u s1 ⟨x,H1,I1,rx,a,dx,fs,ex,ea,l,q⟩=>?_) ht
 subst ex
 obtain rfl:u=Value.ref a:=rx
 refine wF I1 ea c hm l ?_
 exact PySem.W.callWith_K0 (first:=[.ref a]) I1.kIn hm.kp (vP (us:=[.ref a]) (vs:=[.ref a]) F hr hb hd hx I1 (.cons rfl .nil) q)
structure Mk (K:ua) (C f:Addr):Prop where
 makes:PySem.W.makesIn K C=true
 init:uy K (.ref C) "__init__"=some (some (.ref f))
 fn:PySem.W.isFn K (.ref f)=true
 kp:uU K (.ref C)=true
theorem Wb {pins:List (Addr × Obj)} {σ:St} {H:Hp} {s:Shared} {Q:VK} {us:List Value} {vs:List V} (M:Mk X.K C f) (F:FnOk X.prog X.w X.K X.mg X.base CX k f fd ps sp) (hr:Room (k + 1) X.A) (hb:Binds X.K fd ps ds) (hd:Vals dvs ds)
  (hx:yo CX X E) (I:Inv X pins σ H s) (r:Vals vs us)
  (h:∀ x dx,H x=none->H dx=none->dx≠x->sp (.ref x :: (vs ++ dvs)) (upd (upd H dx (.own x)) x (.ins C dx [])) (fun v H2=>v=.non/\Q (.ref x) H2) E) :
  wpAny (model X.prog X.w) X.A (call (.ref C) us) (EP X pins σ Q) X.xe s:=by
 have hq:=h (s.heap.objs.size + 1) s.heap.objs.size (I.hok.fresh (Nat.le_succ _)) (I.hok.fresh (ui _)) (uQ (US _))
 have I2:=Inv.made (C:=C) I
 have r2:Vals (V.ref (s.heap.objs.size + 1) :: (vs ++ dvs)) (Value.ref (s.heap.objs.size + 1) :: (us ++ ds)):=.cons rfl (r.append hd)
 have hl:(Value.ref (s.heap.objs.size + 1) :: us ++ ds).length=ps.length:=by
  have e:=r2.length
  rw [F.len _ _ _ _ hq] at e
  exact e.symm
 refine wpAny_call (X9 (f:=f) I.kIn M.makes M.init (beq_iff_eq.mp M.fn) (codeAny_mono (F.run _ X.stack _ _ ⟨Value.ref (s.heap.objs.size + 1) :: us,[]⟩ (Value.ref (s.heap.objs.size + 1) :: (us ++ ds)) _ _ E (hr.make C us [])
  (I2.env0.make C us []) (hb _ (Value.ref (s.heap.objs.size + 1) :: us) I2.kIn hl) r2 hq) fun r s' hq'=>?_))
 cases r with
 | error e=>exact hx pins σ _ _ e s' I2 hq'
 | ok fl =>
  cases fl with
  | ret u =>
   obtain ⟨v,H',I3,rv,ev,q3⟩:=I2.after hq'
   subst ev
   exact ⟨rv,⟨V.ref (s.heap.objs.size + 1),H',I3,rfl,q3⟩⟩
  | next=>exact False.elim hq'
  | brk=>exact False.elim hq'
  | cont=>exact False.elim hq'
theorem Jn (M:Mk X.K C f) (F:FnOk X.prog X.w X.K X.mg X.base CX k f fd ps sp) (hr:Room (k + 1) X.A) (hg:Gl X x) (hm:X.mg x=some (.ref C)) (hb:Binds X.K fd ps ds) (hd:Vals dvs ds) (hx:yo CX X E)
  (ha:PA X (e :: es) t) (hdb:(x == ("__debug__":Str))=false:=by decide) (he:starEach (e :: es) X.env=(false,eval e X.env) :: starEach es X.env:=by rfl) (hpl:(backTo pos (starEach es X.env)).any (·.1)=false:=by rfl) :
  PE X (.Call (.Name x p) (e :: es) [] pos) (qP C sp dvs E t):=by
 intro pins s σ H Q I h
 refine wpAny_Call_Name_kw (xt I hg hm ?_ hdb)
 refine U9 (h₀:=X.base) I.ok.mod.kin M.kp (thn (ha pos pins s σ H _ I h) fun us s1 ⟨vs,H1,I1,r,q⟩=>⟨I1.kIn,?_⟩) he hpl
 exact Wb M F hr hb hd hx I1 r q
end
section
variable {X:Cx} {CX:CXT} {k:Nat} {f C:Addr} {fd:FuncData} {ps ks:List Str} {sp:Sp} {E:XK} {x m:Str} {p pos apos kpos:Pos} {e o:Expr} {es:List Expr} {kws:List Keyword} {te ta:TE} {t tk:TA} {nm:Option Str}
variable {g:List Value->List Value->List Value} {gV:List V->List V->List V}
end
structure FnScope (N P:List Str) (sc:Scope):Prop where
 kind:sc.kind=.function
 co:sc.isCoroutine=false
 gen:sc.isGenerator=false
 nd:N.Nodup
 pre:N.take P.length=P
 par:∀ x∈P,sc.names.lookup x=some .local\/sc.names.lookup x=some .cell
 nofree:∀ y∈sc.names,y.2≠.free
theorem vk {kindOf:Str->Option NameKind} {x:Str}:∀ {binds:List (Str × Value)} {m:Str->Option Value},(∀ v,(x,v) ∉ binds)->bindL kindOf binds m x=m x
 | [],_,_=>rfl
 | (n,v) :: r,m,h=>by
  unfold bindL
  rw [vk fun w hw=>h w (ut _ hw)]
  split
  ·have:x≠n:=by rintro rfl; exact h v uo
   simp [this]
  ·rfl
theorem vm {kindOf:Str->Option NameKind} {x:Str}:∀ {binds:List (Str × Value)} {m:Str->Option Value},(∀ v,(x,v) ∉ binds)->bindC kindOf binds m x=m x
 | [],_,_=>rfl
 | (n,v) :: r,m,h=>by
  unfold bindC
  rw [vm fun w hw=>h w (ut _ hw)]
  split
  ·rfl
  ·have:x≠n:=by rintro rfl; exact h v uo
   simp [this]
theorem vn {kindOf:Str->Option NameKind} {x:Str} {v:Value}:∀ {P:List Str} {vs:List Value} {i:Nat} {m:Str->Option Value},P.Nodup->P[i]?=some x->vs[i]?=some v->kindOf x=some .local ->
  bindL kindOf (P.zip vs) m x=some v
 | [],_,_,_,_,h,_,_=>by simp at h
 | _ :: _,[],_,_,_,_,h,_=>by simp at h
 | p :: P,w :: vs,0,m,nd,h1,h2,hk=>by
  simp at h1 h2; subst h1; subst h2
  show bindL kindOf ((p,w) :: P.zip vs) m p=_
  unfold bindL
  rw [vk fun v hv=>(Uq.mp nd).1 (List.of_mem_zip hv).1,if_pos hk]
  simp
 | p :: P,w :: vs,i + 1,m,nd,h1,h2,hk=>by
  show bindL kindOf ((p,w) :: P.zip vs) m x=_
  unfold bindL
  exact vn (i:=i) (Uq.mp nd).2 (by simpa using h1) (by simpa using h2) hk
theorem vo {kindOf:Str->Option NameKind} {x:Str} {v:Value}:∀ {P:List Str} {vs:List Value} {i:Nat} {m:Str->Option Value},P.Nodup->P[i]?=some x->vs[i]?=some v->kindOf x≠some .local ->
  bindC kindOf (P.zip vs) m x=some v
 | [],_,_,_,_,h,_,_=>by simp at h
 | _ :: _,[],_,_,_,_,h,_=>by simp at h
 | p :: P,w :: vs,0,m,nd,h1,h2,hk=>by
  simp at h1 h2; subst h1; subst h2
  show bindC kindOf ((p,w) :: P.zip vs) m p=_
  unfold bindC
  rw [vm fun v hv=>(Uq.mp nd).1 (List.of_mem_zip hv).1,if_neg hk]
  simp
 | p :: P,w :: vs,i + 1,m,nd,h1,h2,hk=>by
  show bindC kindOf ((p,w) :: P.zip vs) m x=_
  unfold bindC
  exact vo (i:=i) (Uq.mp nd).2 (by simpa using h1) (by simpa using h2) hk
def start (N:List Str) (vs:List V):St:=vs.map some ++ Ut (N.length - vs.length) none
def cxOf (CX:CXT) (P:Program) (w:World) (K:ua) (mg:Str->Option Value) (base:Heap) (N:List Str) (qual:Str) (scope:Scope) (f:Addr) (cd:Value) (A:Around) (outer:List Env) (s:Shared) (H:Hp) (E:XK):Cx where
 prog:=P
 w:=w
 K:=K
 mg:=mg
 base:=base
 A:=A.deeper (envOfC qual scope s.heap.objs.size f cd)
 N:=N
 s₀:=s
 H₀:=H
 env:=envOfC qual scope s.heap.objs.size f cd
 outer:=outer
 stack:=envOfC qual scope s.heap.objs.size f cd :: outer
 ex:=[]
 calm:=true
 fn:=fun _=>true
 pn:=[]
 xe:=fun e s'=>wpAny (model P w) (A.deeper (envOfC qual scope s.heap.objs.size f cd)) (leaving (envOfC qual scope s.heap.objs.size f cd) e) (fun _ s''=>CX outer H s E e s'') (fun e' s''=>CX outer H s E e' s'') s'
theorem jM {sc:Scope} {n:Nat} {x:Str} (h:sc.names.lookup x=some .cell):∃ c,(cellsFrom n sc.names []).lookup x=some c:=by
 have q:=PySem.W.cellsFrom_some sc.names n [] (.inl h)
 exact UD.mp q
theorem vp {CX:CXT} {P:Program} {w:World} {K:ua} {mg:Str->Option Value} {base:Heap} {N ps:List Str} {qual:Str} {scope:Scope} {f:Addr} {cd:Value} {A:Around} {outer:List Env} {s s1:Shared} {H:Hp} {E:XK} {us:List Value} {vs:List V}
  (S:FnScope N ps scope) (hd:A.handled=none) (e0:Env0 P w K mg base A outer s H) (hl:vs.length=ps.length) (r:Vals vs us)
  (x:InCallC s s.heap.objs.size (bindL (envOfC qual scope s.heap.objs.size f cd).kindOf (ps.zip us) fun _=>none) (cellsFrom (s.heap.objs.size + 1) scope.names []) (bindC (envOfC qual scope s.heap.objs.size f cd).kindOf (ps.zip us) fun _=>none) s1) :
  Inv (cxOf CX P w K mg base N qual scope f cd A outer s H E) [] (start N vs) H s1:=by
 have hpl:ps.length<=N.length:=by have:=congrArg List.length S.pre; rw [uR] at this; lia
 obtain ⟨h1,tk,rfl,hk⟩:=x.done
 have noA:∀ b:Addr,b ∉ (cxOf CX P w K mg base N qual scope f cd A outer s H E).ex:=fun b z=>absurd (show b∈([]:List Addr) from z) (by simp)
 refine ⟨⟨e0.mod,S.kind,rfl,rfl,ui _,fun y z c h1 h2=>?_,fun y hy=>?_,fun y c _ h=>?_,fun _=>hd,Around.frames_deeper e0.frames,.inr ⟨rfl,rfl⟩,fun b z=>absurd z (noA b),e0.bs,e0.bsz,fun b _ _=>noA b,fun b z=>absurd z (noA b),e0.funs,e0.frf⟩,
  rfl,e0.bare,Un.kept hk,⟨_,x.toInCall.ns,fun i y v h1 h2 h3=>?_⟩,fun y c h=>⟨_,x.cell y c h⟩,e0.hok.fresh (ui _),fun y c h=>?_,fun p hp=>absurd (show p∈([]:List (Addr × Obj)) from hp) (by simp),e0.hok.kept hk,?_⟩
 ·exact name_of_addr x.apart (Uy h1) (Uy h2)
 ·have hy:scope.names.lookup y=some .cell\/scope.names.lookup y=some .free:=hy
  rcases hy with hy | hy
  ·exact jM hy
  ·exact absurd rfl (S.nofree _ (Uy hy))
 ·exact Nat.le_of_lt (x.above y c (Uy h))
 ·have hi:i < vs.length:=by
   unfold start at h2
   by_cases hi:i < vs.length
   ·exact hi
   ·rw [uL (by simpa using hi)] at h2
    rw [List.getElem?_replicate] at h2
    split at h2 <;> cases h2
  have ha:vs[i]?=some v:=by
   unfold start at h2
   rw [uv (by simpa using hi),uj] at h2
   cases e:vs[i]? with
   | none=>rw [e] at h2; cases h2
   | some a=>rw [e] at h2; cases h2; rfl
  obtain ⟨u,hu,rv⟩:=r.get ha
  have hp:ps[i]?=some y:=by
   rw [<- S.pre,List.getElem?_take_of_lt (by lia)]; exact h1
  have ndP:ps.Nodup:=by rw [<- S.pre]; exact S.nd.sublist (List.take_sublist _ _)
  refine ⟨u,rv,?_⟩
  rcases S.par y (uu hp) with k | k
  ·exact .inl ⟨k,vn ndP hp hu k⟩
  ·obtain ⟨c,e⟩:=jM (n:=s.heap.objs.size + 1) k
   refine .inr ⟨.inl k,c,e,?_⟩
   have q:=x.cell y c e
   rw [vo ndP hp hu (by show scope.names.lookup y≠_; rw [k]; decide)] at q
   exact q
 ·exact e0.hok.fresh (Nat.le_of_lt (x.above y c (Uy h)))
 ·unfold start
  show _=N.length
  rw [uf,ub,Uz]
  lia
theorem Wc {CX:CXT} {P:Program} {w:World} {K:ua} {mg:Str->Option Value} {base:Heap} {k:Nat} {f:Addr} {name qual:Str} {params:Arguments} {body:List Stmt} {scope:Scope} {dV kV doc pm cdv ct oc:Value} {an od:Option Addr}
  {osl:Array (Option Value)} {N ps:List Str} {sp:Sp} (lk:K.lookup f=some ⟨oc,od,.func (u9 name qual params body scope dV kV doc pm an cdv ct),osl⟩) (hcd:UE K cdv qual=true) (S:FnScope N ps scope)
  (len:∀ vs H Q E,sp vs H Q E->vs.length=ps.length)
  (hbody:∀ (A:Around) (outer:List Env) (s:Shared) (H:Hp) (vs:List V) (Q:VK) (E:XK),Room k (A.deeper (envOfC qual scope s.heap.objs.size f cdv))->sp vs H Q E ->
   ∃ t,PSs (cxOf CX P w K mg base N qual scope f cdv A outer s H E) body t/\t { nx:=fun _ H'=>Q .non H',rt:=Q } (start N vs) H) :
  FnOk P w K mg base CX (k + 1) f (u9 name qual params body scope dV kV doc pm an cdv ct) ps sp:=by
 refine ⟨len,fun A outer s H args us vs Q E hr e0 hb r hsp=>?_⟩
 have hl:=len _ _ _ _ hsp
 have KX:K.In s.heap:=e0.mod.kin.keeps fun b o e=>(e0.bs b o e).1
 have lim:s.heap.NoLimit:=e0.mod.nolimit.keeps fun b o e=>(e0.bs b o e).1
 have hkind:∀ y∈ps.zip us,scope.names.lookup y.1=some .local\/(scope.names.lookup y.1=some .cell/\((cellsFrom (s.heap.objs.size + 1) scope.names []).lookup y.1).isSome=true):=fun ⟨n,v⟩ hy=>by
  rcases S.par n (List.of_mem_zip hy).1 with q | q
  ·exact .inl q
  ·exact .inr ⟨q,PySem.W.cellsFrom_some _ _ _ (.inl q)⟩
 refine codeAny_call_function hr.depth (KX _ _ lk) rfl S.co S.gen rfl (PySem.W.codeRec_of KX hcd) (hb _ _ _ _ ?_)
 refine wpAny_newFunctionEnv_cells S.kind hkind fun env he s1 x=>?_
 subst he
 refine ⟨lim.keeps x.toInCall.keep,codeAny_func ?_⟩
 obtain ⟨t,ht,hq⟩:=hbody A outer s H vs Q E (hr.deeper _) hsp
 have I:Inv (cxOf CX P w K mg base N qual scope f cdv A outer s H E) [] (start N vs) H s1:=vp S hr.hd e0 hl r x
 refine wpAny_mono (ht [] s1 (start N vs) H _ I hq) (fun fl s' hs=>?_) fun e s' hs=>hs
 have fin:∀ {σ':St} {H':Hp} {v:V} {u:Value},Inv (cxOf CX P w K mg base N qual scope f cdv A outer s H E) [] σ' H' s'->RelV v u->Q v H'->CE outer P w H s Q u s' :=
  fun {σ' H' v u} J rv q=>⟨v,H',J.os,J.bare,J.base,J.hok,rv,q⟩
 cases fl with
 | ret u =>
  obtain ⟨v,σ',H',J,rv,q⟩:=hs
  exact fin J rv q
 | next =>
  obtain ⟨σ',H',J,q⟩:=hs
  exact fin (v:=V.non) (u:=Value.none) J rfl q
 | brk =>
  obtain ⟨_,_,_,q⟩:=hs
  exact False.elim q
 | cont =>
  obtain ⟨_,_,_,q⟩:=hs
  exact False.elim q
end L2
namespace L2
open PySem PySem.Spec PyProof.Rows
section
variable {X:Cx} {x:Str} {p pos:Pos} {e:Expr} {es:List Expr} {t:TA} {id T:String} {r:List V->Hp->VK->Prop}
def tCB (r:List V->Hp->VK->Prop) (t:TA):TE:=fun σ H Q=>t σ H fun vs H1=>r vs H1 Q
theorem Wd (hc:xh X (.builtin id) r) (hg:Gl X x) (hm:X.mg x=none) (hv:bootBuiltins x=some (.builtin id)) (ha:PA X (e :: es) t) (hn:x≠"__name__":=by decide) (hdb:(x == ("__debug__":Str))=false:=by decide)
  (he:starEach (e :: es) X.env=(false,eval e X.env) :: starEach es X.env:=by rfl) (hpl:(backTo pos (starEach es X.env)).any (·.1)=false:=by rfl):PE X (.Call (.Name x p) (e :: es) [] pos) (tCB r t):=by
 intro pins s σ H Q I h
 refine wpAny_Call_Name_kw (yZ I hg hm hv ?_ hn hdb)
 exact PyProof.Rows.callWith_builtin1 (thn (ha pos pins s σ H _ I h) fun us s1 ⟨vs,H1,I1,r1,q1⟩=>hc pins s1 σ H1 vs us Q I1 r1 q1) he hpl
theorem Xm (hc:xh X (.type T) r) (hg:Gl X x) (hm:X.mg x=none) (hv:bootBuiltins x=some (.type T)) (ha:PA X (e :: es) t) (hn:x≠"__name__":=by decide) (hdb:(x == ("__debug__":Str))=false:=by decide)
  (he:starEach (e :: es) X.env=(false,eval e X.env) :: starEach es X.env:=by rfl) (hpl:(backTo pos (starEach es X.env)).any (·.1)=false:=by rfl):PE X (.Call (.Name x p) (e :: es) [] pos) (tCB r t):=by
 intro pins s σ H Q I h
 refine wpAny_Call_Name_kw (yZ I hg hm hv ?_ hn hdb)
 exact Uh (thn (ha pos pins s σ H _ I h) fun us s1 ⟨vs,H1,I1,r1,q1⟩=>hc pins s1 σ H1 vs us Q I1 r1 q1) he hpl
end
end L2
namespace HT
open PySem PyProof.Rows
section
open PySem.SeqAt
open PySem.AutoSeq1 (wpAny_loadPart')
open PySem.MeetsSeq PySem.MeetsSeq2 PySem.MeetsSeq3
end
section
variable {prog:Program} {w:World} {A:Around} {E:Value->Shared->Prop} {s:Shared}
def sIx (n d:Nat):Option Int->Nat
 | none=>d
 | some v=>if v < 0 then (v + (n:Int)).toNat else min v.toNat n
end
end HT
namespace L2
open PySem PySem.Spec PyProof.Rows
abbrev TO:=St->Hp->(Option Int->Hp->Prop)->Prop
def PO (X:Cx) (e:Option Expr) (t:TO):Prop :=
 ∀ (pins:List (Addr × Obj)) (s:Shared) (σ:St) (H:Hp) (Q:Option Int->Hp->Prop),Inv X pins σ H s->t σ H Q ->
  wpAny (model X.prog X.w) X.A (evalPart e X.env) (fun u s'=>∃ o H',Inv X pins σ H' s'/\IsPart u o/\Q o H') X.xe s
def Yk:TO:=fun _ H Q=>Q none H
def qR (t:TE):TO:=fun σ H Q=>t σ H fun x H1=>∃ i,x=.int i/\Q (some i) H1
section
variable {X:Cx} {e:Expr} {te:TE} {lo hi:Option Expr} {tl th:TO} {pos p2:Pos}
theorem Jo:PO X none Yk:=by
 intro pins s σ H Q I h
 rw [evalPart_none]
 exact wpAny_pure ⟨none,H,I,.none,h⟩
theorem Jp (h:PE X e te):PO X (some e) (qR te):=by
 intro pins s σ H Q I hw
 rw [evalPart_some]
 refine thn (h pins s σ H _ I hw) fun u s1 ⟨x,H1,I1,r1,q1⟩=>?_
 obtain ⟨i,rfl,q⟩:=q1
 obtain ⟨t,rfl⟩:=r1
 exact ⟨some i,H1,I1,.int i t,q⟩
def SlR (X:Cx) (r:V->Option Int->Option Int->Hp->VK->Prop):Prop :=
 ∀ (pins:List (Addr × Obj)) (s:Shared) (σ:St) (H:Hp) (x:V) (v vl vu:Value) (lo hi:Option Int) (sl:Addr) (Q:VK),Inv X pins σ H s->RelV x v->s.heap.IsSliceOf sl vl vu .none->IsPart vl lo->IsPart vu hi->r x lo hi H Q ->
  ∃ T id,typeLookup (.type T) "__getitem__"=pure (some (.builtin id))/\s.TypeIs v T/\wpAny (model X.prog X.w) X.A (getItem v (.ref sl)) (EP X pins σ Q) X.xe s
def tSl (r:V->Option Int->Option Int->Hp->VK->Prop) (te:TE) (tl th:TO):TE:=fun σ H Q=>te σ H fun x H1=>tl σ H1 fun l H2=>th σ H2 fun u H3=>r x l u H3 Q
theorem We {r:V->Option Int->Option Int->Hp->VK->Prop} (hr:SlR X r) (he:PE X e te) (hl:PO X lo tl) (hu:PO X hi th):PE X (.Subscript e (.Slice lo hi none p2) pos) (tSl r te tl th):=by
 intro pins s σ H Q I h
 refine Subscript_ (thn (he pins s σ H _ I h) fun v s1 ⟨x,H1,I1,r1,q1⟩=>?_)
 refine wpAny_Slice (thn (hl pins s1 σ H1 _ I1 q1) fun vl s2 ⟨l,H2,I2,pl,q2⟩=>thn (hu pins s2 σ H2 _ I2 q2) fun vu s3 ⟨u,H3,I3,pu,q3⟩=>?_)
 rw [evalPart_none]
 refine wpAny_pure ?_
 have I4:Inv X pins σ H3 { s3 with heap:=s3.heap.push { cls:=.type "slice",data:=.fields #[vl,vu,.none] } }:=I3.kept (t':=s3.toks) fun b ob q=>uc _ q
 obtain ⟨T,id,hT,ht,hg⟩:=hr pins { s3 with heap:=s3.heap.push { cls:=.type "slice",data:=.fields #[vl,vu,.none] } } σ H3 x v vl vu l u s3.heap.objs.size Q I4 r1 (Heap.IsSliceOf.new ..) pl pu q3
 show wpAny (model X.prog X.w) X.A (subscriptTail e (.Slice lo hi none p2) v (.ref s3.heap.objs.size)) (EP X pins σ Q) X.xe { s3 with heap:=s3.heap.push { cls:=.type "slice",data:=.fields #[vl,vu,.none] } }
 exact tail_any (ops:=[.ref s3.heap.objs.size,v]) ht hT hg (by with_unfolding_all rfl)
def cutV (xs:List V) (lo hi:Option Int):List V:=(xs.drop (HT.sIx xs.length 0 lo)).take (HT.sIx xs.length xs.length hi - HT.sIx xs.length 0 lo)
theorem jN (xs:List V) (lo hi:Option Int):(cutV xs lo hi).length<=xs.length:=by
 unfold cutV
 rw [uR,UT]
 lia
end
end L2
namespace L2
open PySem PySem.Spec PyProof.Rows
def ixN (n:Nat) (i:Int):Option Nat:=if 0<=i then (if i < n then some i.toNat else none) else if -(n:Int)<=i then some (i + n).toNat else none
def atI {α:Type} (xs:List α) (i:Int):Option α:=(ixN xs.length i).bind fun j=>xs[j]?
theorem Yl {n:Nat} {i:Int} {j:Nat} (h:ixN n i=some j):seqIndex? i n=some j/\j < n/\-(n:Int)<=i/\i < n:=by
 unfold ixN at h
 by_cases h0:0<=i
 ·rw [if_pos h0] at h
  by_cases h1:i < n
  ·rw [if_pos h1] at h
   have e:i.toNat=j:=Ul.inj h
   exact ⟨by rw [seqIndex_of h0 h1,e],by lia,by lia,h1⟩
  ·rw [if_neg h1] at h; cases h
 ·rw [if_neg h0] at h
  by_cases h1:-(n:Int)<=i
  ·rw [if_pos h1] at h
   have e:(i + n).toNat=j:=Ul.inj h
   exact ⟨by rw [seqIndex_neg (by lia) h1,e],by lia,h1,by lia⟩
  ·rw [if_neg h1] at h; cases h
theorem vQ {α:Type} {xs:List α} {i:Int} {v:α} (h:atI xs i=some v):∃ j,seqIndex? i xs.length=some j/\xs[j]?=some v/\j < xs.length/\-(xs.length:Int)<=i/\i < xs.length:=by
 unfold atI at h
 cases e:ixN xs.length i with
 | none=>rw [e] at h; cases h
 | some j =>
  rw [e] at h
  obtain ⟨h1,h2,h3,h4⟩:=Yl e
  exact ⟨j,h1,h,h2,h3,h4⟩
theorem zj {α:Type} {xs:List α} {j:Nat} {v:α} (h:xs[j]?=some v):atI xs (j:Int)=some v:=by
 have hj:j < xs.length:=(ud.mp h).1
 have e:ixN xs.length (j:Int)=some j:=by
  unfold ixN
  rw [if_pos (by lia),if_pos (by lia)]; simp
 unfold atI; rw [e]; exact h
theorem Wf {α:Type} (xs:List α) (v:α):atI (xs ++ [v]) (-1)=some v:=by
 have hl:(xs ++ [v]).length=xs.length + 1:=by simp
 have e:ixN (xs ++ [v]).length (-1)=some xs.length:=by
  unfold ixN
  rw [hl,if_neg (by decide),if_pos (by lia)]
  congr 1
  lia
 unfold atI
 rw [e]
 show (xs ++ [v])[xs.length]?=some v
 simp
def Ym (b:Expr):Prop:=∀ o i,subscripted b false o i=operate [o,i] (getItem o i)
def IxR (X:Cx) (r:R2):Prop :=
 ∀ (value slice:Expr) (pins:List (Addr × Obj)) (s:Shared) (σ:St) (H:Hp) (x y:V) (v u:Value) (Q:VK),Inv X pins σ H s->RelV x v->RelV y u->r x y H Q ->
  subscripted slice false v u=operate [v,u] (getItem v u)->wpAny (model X.prog X.w) X.A (subscriptTail value slice v u) (EP X pins σ Q) X.xe s
def MtR (X:Cx) (id:String) (r:V->List V->Hp->VK->Prop):Prop :=
 ∀ (pins:List (Addr × Obj)) (s:Shared) (σ:St) (H:Hp) (x:V) (xs:List V) (v:Value) (us:List Value) (Q:VK),Inv X pins σ H s->RelV x v->Vals xs us->r x xs H Q ->
  wpAny (model X.prog X.w) X.A (call (.builtin id) (v :: us)) (EP X pins σ Q) X.xe s
section
variable {X:Cx} {a b:Expr} {ta tb:TE} {pos:Pos}
theorem zaU {r:R2} (hr:IxR X r) (ha:PE X a ta) (hb:PE X b tb) (hs:Ym b):PE X (.Subscript a b pos) (tOp r ta tb):=by
 intro pins s σ H Q I h
 exact Subscript_ (binT ha hb I h fun v u s2 x y H2 I2 rx ry q=>hr a b pins s2 σ H2 x y v u Q I2 rx ry q (hs _ _))
def rIxL (K:ua):R2:=fun x y H Q=>∃ p xs i v,x=.ref p/\y=.int i/\SqL K H p xs/\atI xs i=some v/\Q v H
def rIxT (K:ua):R2:=fun x y H Q=>∃ p xs i v,x=.ref p/\y=.int i/\SqT K H p xs/\atI xs i=some v/\Q v H
def rIxS:R2:=fun x y H Q=>∃ z i c,x=.str z/\y=.int i/\z.length<=sizeLine/\atI z.cps.toList i=some c/\Q (.str ⟨#[c]⟩) H
theorem Jq:IxR X (rIxL X.K):=by
 intro value slice pins s σ H x y v u Q I rx ry h hs
 obtain ⟨p,xs,i,z,rfl,rfl,hq,he,q⟩:=h
 cases rx
 obtain ⟨t,rfl⟩:=ry
 obtain ⟨its,r,pl,hz⟩:=I.list hq
 obtain ⟨j,h1,h2,h3,h4,h5⟩:=vQ he
 obtain ⟨w,ew,rw'⟩:=r.get h2
 have hl:=r.length
 have hn:=xG
 have fin:EP X pins σ Q w s:=⟨z,H,I,rw',q⟩
 by_cases h0:0<=i
 ·have hj:i.toNat=j:=by
   rw [seqIndex_of h0 h5] at h1
   exact Ul.inj h1
  exact item_listR pl.isList h0 (by lia) (by rw [hj]; simpa using ew) fin hs
 ·have hj:(i + (its.toArray.size:Int)).toNat=j:=by
   rw [seqIndex_neg (by lia) h4] at h1
   rw [uz,<- hl]
   exact Ul.inj h1
  exact subscriptTail_builtinR (x:=w) pl.isList.typeIs slot_list_getitem.lookup
   (wpAny_getItem_list_neg (Q:=fun r s'=>r=w/\EP X pins σ Q r s') pl.isList (by lia) (by rw [uz] <;> lia) (by lia) (by rw [hj]; simpa using ew) ⟨rfl,fin⟩) hs
theorem QQ:IxR X (rIxT X.K):=by
 intro value slice pins s σ H x y v u Q I rx ry h hs
 obtain ⟨p,xs,i,z,rfl,rfl,hq,he,q⟩:=h
 cases rx
 obtain ⟨t,rfl⟩:=ry
 obtain ⟨its,r,pl,hz⟩:=I.tuple hq
 obtain ⟨j,h1,h2,h3,h4,h5⟩:=vQ he
 obtain ⟨w,ew,rw'⟩:=r.get h2
 have hl:=r.length
 have hn:=xG
 have fin:EP X pins σ Q w s:=⟨z,H,I,rw',q⟩
 exact subscriptTail_builtinR (x:=w) pl.typeIs slot_tuple_getitem.lookup
  (getItem_tuple (j:=j) (Q:=fun r s'=>r=w/\EP X pins σ Q r s') pl (by lia) (by lia) (by rw [uz,<- hl]; exact h1) (by simpa using ew) ⟨rfl,fin⟩) hs
theorem QR:IxR X rIxS:=by
 intro value slice pins s σ H x y v u Q I rx ry h hs
 obtain ⟨z,i,c,rfl,rfl,hz,he,q⟩:=h
 obtain ⟨t,rfl⟩:=rx
 obtain ⟨t',rfl⟩:=ry
 obtain ⟨j,h1,h2,h3,h4,h5⟩:=vQ he
 have hl:z.cps.toList.length=z.length:=by simp [Str.length]
 rw [hl] at h1 h4 h5
 have hn:=xG
 exact tail_any (typeIs_str s z t) slot_str_getitem.lookup (getItem_str (c:=c) (by
  have e1:decide (i < -(2 ^ 63:Int))=false:=decide_eq_false (by lia)
  have e2:decide (i ≥ 2 ^ 63)=false:=decide_eq_false (by lia)
  rw [e1,e2,Bool.or_false]) (by rw [h1]; simpa using h2) ⟨.str ⟨#[c]⟩,H,I.tok _,⟨_,rfl⟩,q⟩) hs
theorem ZD (its:List Value) (n j:Nat) (u:Value):Obj.mapSeq (·.setIfInBounds j u) { cls:=.type "list",data:=.seq its.toArray n }={ cls:=.type "list",data:=.seq (its.set j u).toArray n }:=by
 simp [Obj.mapSeq]
theorem Inv.lst {pins:List (Addr × Obj)} {σ:St} {H:Hp} {s:Shared} {p:Addr} {xs:List V} (I:Inv X pins σ H s) (h:H p=some (.lst xs)) :
  ∃ (its:List Value) (n:Nat),Vals xs its/\s.heap.get? p=some { cls:=.type "list",data:=.seq its.toArray n }/\xs.length<=sizeLine:=by
 obtain ⟨z,its,n,r,e⟩:=I.hok p _ h
 exact ⟨its,n,r,e,z⟩
theorem Inv.lstUpd {pins:List (Addr × Obj)} {σ:St} {H:Hp} {s:Shared} {p:Addr} {xs ys:List V} {its its':List Value} {n n':Nat} {f:Obj->Obj} (I:Inv X pins σ H s) (h:H p=some (.lst xs))
  (ho:s.heap.get? p=some { cls:=.type "list",data:=.seq its.toArray n }) (hf:f { cls:=.type "list",data:=.seq its.toArray n }={ cls:=.type "list",data:=.seq its'.toArray n' }) (r:Vals ys its') (hz:ys.length<=sizeLine) (t:Nat) :
  Inv X pins σ (upd H p (.lst ys)) { s with heap:=s.heap.update p f,toks:=t }:=by
 have e:(s.heap.update p f).get? p=some { cls:=.type "list",data:=.seq its'.toArray n' }:=by
  rw [u0 f ho (by rw [hf] <;> rfl),hf]
 refine I.write (x:=p) (e:=p) (by rw [h]; trivial) (.inl rfl) (fun b u hb q=>(uI _ _ (Ne.symm hb)).trans q) ⟨_,e⟩ ?_
 exact ⟨hz,its',n',r,e⟩
def qS:V->V->V->Hp->(Hp->Prop)->Prop:=fun o i v H Q=>∃ p xs k j,o=.ref p/\i=.int k/\H p=some (.lst xs)/\ixN xs.length k=some j/\Q (upd H p (.lst (xs.set j v)))
theorem Wg:PSet X qS:=by
 intro pins s σ H o i v ov iv u Q I ro ri rv h
 obtain ⟨p,xs,k,j,rfl,rfl,hp,hj,q⟩:=h
 cases ro
 obtain ⟨t,rfl⟩:=ri
 obtain ⟨its,n,r,ho,hz⟩:=I.lst hp
 obtain ⟨h1,h2,h3,h4⟩:=Yl hj
 have hl:=r.length
 have hn:=xG
 have I':Inv X pins σ (upd H p (.lst (xs.set j v))) { s with heap:=s.heap.update p (Obj.mapSeq (·.setIfInBounds j u)) } :=
  I.lstUpd hp ho (ZD its n j u) (r.set rv j) (by rw [List.length_set]; exact hz) s.toks
 by_cases h0:0<=k
 ·have hk:k.toNat=j:=by
   rw [seqIndex_of h0 h4] at h1
   exact Ul.inj h1
  exact PySem.W.ki_setAt ho h0 (by lia) (by rw [uz,<- hl]; exact h4) (by rw [hk]; exact ⟨_,I',q⟩)
 ·have hk:(k + (its.toArray.size:Int)).toNat=j:=by
   rw [seqIndex_neg (by lia) h3] at h1
   rw [uz,<- hl]
   exact Ul.inj h1
  exact PySem.W.ki_setBack ho (by lia) (by rw [uz,<- hl]; exact h3) (by lia) (by rw [hk]; exact ⟨_,I',q⟩)
theorem vR (lo hi:Option Int) (n:Nat):(sliceBounds lo hi none n).1=((HT.sIx n 0 lo:Nat):Int)/\(sliceBounds lo hi none n).2.1=((HT.sIx n n hi:Nat):Int)/\(sliceBounds lo hi none n).2.2=1:=by
 refine ⟨?_,?_,rfl⟩
 ·cases lo with
  | none=>simp [sliceBounds,HT.sIx]
  | some i =>
   simp only [sliceBounds,HT.sIx,Option.getD_none,show (1:Int) > 0 by decide,if_true]
   by_cases h:i < 0
   ·simp only [h,if_true] <;> lia
   ·simp only [h,if_false] <;> lia
 ·cases hi with
  | none=>simp [sliceBounds,HT.sIx]
  | some i =>
   simp only [sliceBounds,HT.sIx,Option.getD_none,show (1:Int) > 0 by decide,if_true]
   by_cases h:i < 0
   ·simp only [h,if_true] <;> lia
   ·simp only [h,if_false] <;> lia
theorem vd (its:List Value) (lo hi:Option Int):slicePick its.toArray lo hi none=((its.drop (HT.sIx its.length 0 lo)).take (HT.sIx its.length its.length hi - HT.sIx its.length 0 lo)).toArray:=by
 obtain ⟨h1,h2,h3⟩:=vR lo hi its.toArray.size
 unfold slicePick
 rw [h1,h2,h3]
 simp only [sliceRange_one,pick_run,uz] <;> rfl
def rSlL (K:ua):V->Option Int->Option Int->Hp->VK->Prop:=fun x lo hi H Q=>∃ a xs,x=.ref a/\SqL K H a xs/\∀ p,H p=none->Q (.ref p) (upd H p (.lst (cutV xs lo hi)))
theorem Jr:SlR X (rSlL X.K):=by
 intro pins s σ H x v vl vu lo hi sl Q I rx hs pl pu h
 obtain ⟨a,xs,rfl,hx,q⟩:=h
 cases rx
 obtain ⟨its,r,ht,hz⟩:=I.list hx
 have hlen:=r.length
 refine ⟨"list",_,slot_list_getitem.lookup,ht.isList.typeIs,?_⟩
 refine wpAny_getItem_list_slice ht.isList hs pl pu .none (by simp) ?_ (by rw [uz] <;> lia)
 rw [vd,<- hlen]
 refine ⟨.ref s.heap.objs.size,_,I.laid (t':=s.toks) (o:=.lst (cutV xs lo hi)) (fun b ob q=>uc _ q) (ui _) ?_,rfl,q _ (I.hok.fresh (ui _))⟩
 exact ⟨uX (jN xs lo hi) hz,_,0,(r.drop (HT.sIx xs.length 0 lo)).take (HT.sIx xs.length xs.length hi - HT.sIx xs.length 0 lo),uw _ rfl⟩
def xc:V->Bool
 | .non=>true
 | .bl _=>true
 | .int _=>true
 | .str _=>true
 | _=>false
def eqV:V->V->Bool
 | .non,.non=>true
 | .bl a,.bl b=>a == b
 | .bl a,.int b=>(if a then 1 else 0) == b
 | .int a,.bl b=>a == (if b then 1 else 0)
 | .int a,.int b=>a == b
 | .str a,.str b=>a == b
 | _,_=>false
theorem Wh {A:Around} {s:Shared} {y x:V} {u v:Value} (ry:RelV y u) (rx:RelV x v) (fy:xc y=true) (fx:xc x=true):SeqAt.EqAt A s u v (eqV y x):=by
 cases y with
 | non =>
  cases ry
  cases x with
  | non=>cases rx; exact SeqAt.EqAt.same _
  | bl b=>cases rx; exact SeqAt.EqAt.none_bool b
  | int b=>obtain ⟨t,rfl⟩:=rx; exact SeqAt.EqAt.none_int b t
  | str b=>obtain ⟨t,rfl⟩:=rx; exact SeqAt.EqAt.none_str b t
  | _=>exact absurd (show false=true from fx) uB
 | bl a =>
  cases ry
  cases x with
  | non=>cases rx; exact SeqAt.EqAt.bool_none a
  | bl b=>cases rx; exact SeqAt.EqAt.bool_bool a b
  | int b=>obtain ⟨t,rfl⟩:=rx; exact SeqAt.EqAt.bool_int a b t
  | str b=>obtain ⟨t,rfl⟩:=rx; exact SeqAt.EqAt.bool_str a b t
  | _=>exact absurd (show false=true from fx) uB
 | int a =>
  obtain ⟨t',rfl⟩:=ry
  cases x with
  | non=>cases rx; exact SeqAt.EqAt.int_none a t'
  | bl b=>cases rx; exact SeqAt.EqAt.int_bool a t' b
  | int b=>obtain ⟨t,rfl⟩:=rx; exact SeqAt.EqAt.int_int a t' b t
  | str b=>obtain ⟨t,rfl⟩:=rx; exact SeqAt.EqAt.int_str a t' b t
  | _=>exact absurd (show false=true from fx) uB
 | str a =>
  obtain ⟨t',rfl⟩:=ry
  cases x with
  | non=>cases rx; exact SeqAt.EqAt.str_none a t'
  | bl b=>cases rx; exact SeqAt.EqAt.str_bool a t' b
  | int b=>obtain ⟨t,rfl⟩:=rx; exact SeqAt.EqAt.str_int a t' b t
  | str b=>obtain ⟨t,rfl⟩:=rx; exact SeqAt.EqAt.str_str a t' b t
  | _=>exact absurd (show false=true from fx) uB
 | _=>exact absurd (show false=true from fy) uB
def eqU (x:V) (u:Value):Bool:=match u with
 | .none=>eqV .non x
 | .bool b=>eqV (.bl b) x
 | .int i _=>eqV (.int i) x
 | .str z _=>eqV (.str z) x
 | _=>false
theorem Wi {x y:V} {u:Value} (r:RelV y u) (f:xc y=true):eqU x u=eqV y x:=by
 cases y with
 | non=>cases r; rfl
 | bl b=>cases r; rfl
 | int i=>obtain ⟨t,rfl⟩:=r; rfl
 | str z=>obtain ⟨t,rfl⟩:=r; rfl
 | _=>exact absurd (show false=true from f) uB
theorem vS {x:V}:∀ {xs:List V} {us:List Value},Vals xs us->xs.all xc=true->us.any (eqU x)=xs.any fun y=>eqV y x
 | _,_,.nil,_=>rfl
 | y :: xs,u :: us,.cons r t,f=>by
  rw [List.all_cons,UU] at f
  rw [UL,UL,Wi r f.1,vS t f.2]
theorem wG {A:Around} {s:Shared} {x:V} {v:Value} (rx:RelV x v) (fx:xc x=true):∀ {xs:List V} {us:List Value},Vals xs us->xs.all xc=true->∀ u∈us,SeqAt.EqAt A s u v (eqU x u)
 | _,_,.nil,_=>fun u hu=>by cases hu
 | y :: xs,u :: us,.cons r t,f=>fun u' hu=>by
  rw [List.all_cons,UU] at f
  rcases uq.mp hu with rfl | hu
  ·rw [Wi r f.1]; exact Wh r rx f.1 fx
  ·exact wG rx fx t f.2 u' hu
def inV (x:V) (xs:List V):Bool:=xs.any fun y=>eqV y x
def rIn (K:ua) (neg:Bool):R2:=fun x y H Q=>∃ p xs,y=.ref p/\(SqL K H p xs\/SqT K H p xs)/\xc x=true/\xs.all xc=true/\Q (.bl (if neg then !inV x xs else inV x xs)) H
theorem Xn:OpR X (compareOp .In) (rIn X.K false):=by
 intro pins s σ H x y v u Q I rx ry h
 obtain ⟨p,xs,rfl,hq,fx,fs,q⟩:=h
 cases ry
 rcases hq with hq | hq
 ·obtain ⟨its,r,pl,hz⟩:=I.list hq
  refine SeqAt.in_listAt (eqU x) pl.isList (fun w hw=>wG rx fx r fs w (by simpa using hw)) ⟨.bl _,H,I,rfl,?_⟩
  rw [show its.toArray.any (eqU x)=its.any (eqU x) by simp,vS r fs]
  exact q
 ·obtain ⟨its,r,pl,hz⟩:=I.tuple hq
  refine SeqAt.in_tupleAt (eqU x) pl (fun w hw=>wG rx fx r fs w (by simpa using hw)) ⟨.bl _,H,I,rfl,?_⟩
  rw [show its.toArray.any (eqU x)=its.any (eqU x) by simp,vS r fs]
  exact q
theorem vT:xh X (.builtin "len") (fun xs H Q=>∃ p ys,xs=[.ref p]/\(SqL X.K H p ys\/SqT X.K H p ys)/\Q (.int ys.length) H):=by
 intro pins s σ H xs us Q I r h
 obtain ⟨p,ys,rfl,hq,q⟩:=h
 obtain ⟨u,rfl,rx⟩:=wf r
 cases rx
 have hn:=xG
 rcases hq with hq | hq
 ·obtain ⟨its,r',pl,hz⟩:=I.list hq
  have hlen:=r'.length
  exact Calls.call_len_list pl.isList (by simp only [uz] <;> lia) ⟨.int ys.length,H,I.tok _,⟨s.toks + 1,by rw [uz,hlen]⟩,q⟩
 ·obtain ⟨its,r',pl,hz⟩:=I.tuple hq
  have hlen:=r'.length
  exact len_tuple pl (by simp only [uz] <;> lia) ⟨.int ys.length,H,I.tok _,⟨s.toks + 1,by rw [uz,hlen]⟩,q⟩
theorem vU:xh X (.type "list") (fun xs H Q=>∃ p ys,xs=[.ref p]/\(SqL X.K H p ys\/SqT X.K H p ys)/\∀ l,H l=none->Q (.ref l) (upd H l (.lst ys))):=by
 intro pins s σ H xs us Q I r h
 obtain ⟨p,ys,rfl,hq,q⟩:=h
 obtain ⟨u,rfl,rx⟩:=wf r
 cases rx
 have fin:∀ (its:List Value),Vals ys its->ys.length<=sizeLine->∀ (h':Heap) (c':Nat),(∀ b o',s.heap.get? b=some o'->h'.get? b=some o') ->
   h'.get? s.heap.objs.size=some { cls:=.type "list",dict:=none,data:=.seq its.toArray c',slots:=#[] }->EP X pins σ Q (.ref s.heap.objs.size) { s with heap:=h' }:=fun its r' hz h' c' kp e =>
  ⟨.ref s.heap.objs.size,_,I.laid (t':=s.toks) kp (ui _) (show ObjOk X.prog X.w _ h' _ (.lst ys) from ⟨hz,its,c',r',e⟩),rfl,q _ (I.hok.fresh (ui _))⟩
 rcases hq with hq | hq
 ·obtain ⟨its,r',pl,hz⟩:=I.list hq
  have hlen:=r'.length
  obtain ⟨o,ho,hc,n,hd⟩:=pl.isList
  exact call_list_seq p (.inl rfl) ho hc hd (fun h' c' kp e=>fin its r' hz h' c' kp e) (by simp only [uz] <;> lia)
 ·obtain ⟨its,r',pl,hz⟩:=I.tuple hq
  have hlen:=r'.length
  obtain ⟨o,ho,hc,n,hd⟩:=pl
  exact call_list_seq p (.inr rfl) ho hc hd (fun h' c' kp e=>fin its r' hz h' c' kp e) (by simp only [uz] <;> lia)
theorem ve:xh X (.type "tuple") (fun xs H Q=>∃ p ys,xs=[.ref p]/\((SqL X.K H p ys/\∀ l,H l=none->Q (.ref l) (upd H l (.tup ys)))\/(SqT X.K H p ys/\Q (.ref p) H))):=by
 intro pins s σ H xs us Q I r h
 obtain ⟨p,ys,rfl,h⟩:=h
 obtain ⟨u,rfl,rx⟩:=wf r
 cases rx
 rcases h with ⟨hq,q⟩ | ⟨hq,q⟩
 ·obtain ⟨its,r',pl,hz⟩:=I.list hq
  have hlen:=r'.length
  refine call_tuple_list pl.isList (fun h' kp=>?_) (by simp only [uz] <;> lia)
  have I1:Inv X pins σ H { s with heap:=h' }:=I.kept (t':=s.toks) kp
  have I2:Inv X pins σ (upd H h'.objs.size (.tup ys)) { s with heap:=h'.push { cls:=.type "tuple",data:=.seq its.toArray } } :=
   I1.laid (t':=s.toks) (fun b o e=>uc _ e) (ui _) (show ObjOk X.prog X.w _ _ _ (.tup ys) from ⟨hz,its,r',IsTupN.new _ _⟩)
  exact ⟨.ref h'.objs.size,_,I2,rfl,q _ (I1.hok.fresh (ui _))⟩
 ·obtain ⟨its,r',pl,hz⟩:=I.tuple hq
  exact call_tuple_same pl ⟨.ref p,H,I,rfl,q⟩
def tyV (K:ua) (T:String) (x:V) (H:Hp):Prop:=match x with
 | .str _=>T="str"
 | .int _=>T="int"
 | .ref p=>(T="list"/\∃ xs,SqL K H p xs)\/(T="tuple"/\((∃ o,K.lookup p=some o/\o.cls=.type "tuple"/\o.dict=none)\/∃ xs,H p=some (.tup xs))) \/
   (T="dict"/\((∃ kvs,H p=some (.dK kvs))\/∃ kvs,H p=some (.dT kvs)))\/(T="set"/\∃ S n,H p=some (.set S n))
 | _=>False
theorem Wj {pins:List (Addr × Obj)} {σ:St} {H:Hp} {s:Shared} {T:String} {x:V} {v:Value} (I:Inv X pins σ H s) (r:RelV x v) (ty:tyV X.K T x H) :
  s.TypeIs v T/\∀ a,v=.ref a->∃ ob,s.heap.get? a=some ob/\ob.dict=none:=by
 cases x with
 | str z =>
  obtain ⟨t,rfl⟩:=r
  cases (show T="str" from ty)
  exact ⟨typeIs_str s z t,fun _ e=>nomatch e⟩
 | int i =>
  obtain ⟨t,rfl⟩:=r
  cases (show T="int" from ty)
  exact ⟨typeIs_int s i t,fun _ e=>nomatch e⟩
 | ref p =>
  cases r
  rcases ty with ⟨rfl,xs,hq⟩ | ⟨rfl,⟨o,hk,hc,hd⟩ | ⟨xs,hk⟩⟩ | ⟨rfl,hk⟩ | ⟨rfl,S,n,hk⟩
  ·obtain ⟨its,_,pl,_⟩:=I.list hq
   refine ⟨pl.isList.typeIs,fun a e=>?_⟩
   cases e
   obtain ⟨o,n,e,c,hd,_⟩:=pl
   exact ⟨o,e,hd⟩
  ·refine ⟨⟨o,I.kIn p o hk,hc⟩,fun a e=>?_⟩
   cases e
   exact ⟨o,I.kIn _ o hk,hd⟩
  ·obtain ⟨_,_,_,o,ho,hc,hd,_⟩:=I.hok p _ hk
   refine ⟨⟨o,ho,hc⟩,fun a e=>?_⟩
   cases e
   exact ⟨o,ho,hd⟩
  ·have z:∃ o,s.heap.get? p=some o/\o.ExactDict:=by
    rcases hk with ⟨kvs,hk⟩ | ⟨kvs,hk⟩
    ·obtain ⟨_,_,_,_,o,_,_,e,ex,_⟩:=I.hok p _ hk
     exact ⟨o,e,ex⟩
    ·obtain ⟨_,_,_,_,o,_,_,e,ex,_⟩:=I.hok p _ hk
     exact ⟨o,e,ex⟩
   obtain ⟨o,e,ex⟩:=z
   refine ⟨⟨o,e,ex.1⟩,fun a e2=>?_⟩
   cases e2
   exact ⟨o,e,ex.2.1⟩
  ·obtain ⟨o,_,_,_,e,ex,_⟩:=I.hok p _ hk
   refine ⟨⟨o,e,ex.1⟩,fun a e2=>?_⟩
   cases e2
   exact ⟨o,e,ex.2.1⟩
 | _=>exact False.elim ty
def tBM0 (K:ua) (T:String) (r:V->List V->Hp->VK->Prop) (to:TE):TE:=fun σ H Q=>to σ H fun x H1=>tyV K T x H1/\r x [] H1 Q
def tBM (K:ua) (T:String) (r:V->List V->Hp->VK->Prop) (to:TE) (t:TA):TE:=fun σ H Q=>to σ H fun x H1=>tyV K T x H1/\t σ H1 fun xs H2=>r x xs H2 Q
variable {o e:Expr} {es:List Expr} {to:TE} {t:TA} {name:Str} {apos cpos:Pos} {T id:String} {r:V->List V->Hp->VK->Prop}
theorem QS (pa:PlainAttrs T) (slot:Slot T name id) (hty:typeOf (.builtin id)=pure (.type "method_descriptor")) (hm:MtR X id r) (ho:PE X o to)
  (hbase:attributeBase o name X.env (eval o X.env)=eval o X.env:=by rfl) (hline:(apos.endLine == cpos.line)=true:=by rfl):PE X (.Call (.Attribute o name apos) [] [] cpos) (tBM0 X.K T r to):=by
 intro pins s σ H Q I h
 refine wpAny_Call_method0_late hbase hline (thn (ho pins s σ H _ I h) fun v s1 ⟨x,H1,I1,r1,ty,q1⟩=>?_)
 obtain ⟨h1,h2⟩:=Wj I1 r1 ty
 exact ⟨T,id,pa,slot,hty,h1,h2,Calls.callWith_builtin rfl (PySem.evalArgs_none (hm pins s1 σ H1 x [] v [] Q I1 r1 .nil q1))⟩
theorem zaV (pa:PlainAttrs T) (slot:Slot T name id) (hty:typeOf (.builtin id)=pure (.type "method_descriptor")) (hm:MtR X id r) (ho:PE X o to) (ha:PA X (e :: es) t)
  (hbase:attributeBase o name X.env (eval o X.env)=eval o X.env:=by rfl)
  (hfew:((backTo cpos (starEach (e :: es) X.env)).all (fun x=>!x.1) && (backToKw cpos (keywordEach [] X.env)).all (fun x=>x.1.isSome)
   && decide ((e :: es).length + ([]:List Keyword).length + (if ([]:List Keyword).isEmpty then 0 else 1) < 30))=true:=by rfl)
  (hline:(apos.endLine == cpos.line)=true:=by rfl) (hs:starEach (e :: es) X.env=(false,eval e X.env) :: starEach es X.env:=by rfl) (hplain:(backTo cpos (starEach es X.env)).any (·.1)=false:=by rfl) :
  PE X (.Call (.Attribute o name apos) (e :: es) [] cpos) (tBM X.K T r to t):=by
 intro pins s σ H Q I h
 refine wpAny_Call_method_late hbase hfew hline rfl (thn (ho pins s σ H _ I h) fun v s1 ⟨x,H1,I1,r1,ty,q1⟩=>?_)
 obtain ⟨h1,h2⟩:=Wj I1 r1 ty
 refine ⟨T,id,pa,slot,hty,h1,h2,?_⟩
 have hA:=ha cpos pins s1 σ H1 _ I1 q1
 rw [hs] at hA ⊢
 refine Calls.callWith_builtin (by show (false || (backTo cpos (starEach es X.env)).any (·.1))=false; rw [hplain] <;> rfl) (Calls.evalArgs_plain ?_)
 exact thn hA fun us s2 ⟨vs,H2,I2,r2,q2⟩=>hm pins s2 σ H2 x vs v us Q I2 r1 r2 q2
end
end L2
namespace L2
open PySem PySem.Spec PyProof.Rows
def MtM (X:Cx) (id:String) (r:V->List V->Hp->VK->Prop):Prop :=
 ∀ (pins:List (Addr × Obj)) (s:Shared) (σ:St) (H:Hp) (x:V) (xs:List V) (v:Value) (us:List Value) (Q:VK),Inv X pins σ H s->RelV x v->Vals xs us->r x xs H Q ->
  wpAny (model X.prog X.w) X.A (call (.builtin id) (v :: us)) (EP X pins σ Q) X.xe s
theorem Vals.one:∀ {x:V} {us:List Value},Vals [x] us->∃ u,us=[u]/\RelV x u
 | _,_,.cons r .nil=>⟨_,rfl,r⟩
theorem Vals.two:∀ {x y:V} {us:List Value},Vals [x,y] us->∃ u v,us=[u,v]/\RelV x u/\RelV y v
 | _,_,_,.cons r (.cons q .nil)=>⟨_,_,rfl,r,q⟩
theorem Vals.zero:∀ {us:List Value},Vals [] us->us=[]
 | _,.nil=>rfl
theorem Vals.dropLast {xs:List V} {us:List Value} (h:Vals xs us):Vals xs.dropLast us.dropLast:=by
 induction h with
 | nil=>exact .nil
 | cons r t ih =>
  cases t with
  | nil=>exact .nil
  | cons q t'=>exact .cons r ih
theorem ZE {α:Type} (l:List α):l.eraseIdx (l.length - 1)=l.dropLast:=by
 induction l with
 | nil=>rfl
 | cons a r ih =>
  cases r with
  | nil=>rfl
  | cons b r =>
   have e:(a :: b :: r).length - 1=((b :: r).length - 1) + 1:=by
    have h1:(a :: b :: r).length=r.length + 2:=rfl
    have h2:(b :: r).length=r.length + 1:=rfl
    lia
   rw [e,List.eraseIdx_cons_succ,ih]
   all_goals rfl
section
variable {X:Cx} {pins:List (Addr × Obj)} {σ:St} {H:Hp} {s:Shared} {l b:Addr} {xs ys zs:List V}
theorem Inv.lset {its its':List Value} {n:Nat} {f:Array Value->Array Value} {t':Nat} (I:Inv X pins σ H s) (hH:H l=some (.lst xs))
  (e:s.heap.get? l=some { cls:=.type "list",data:=.seq its.toArray n }) (hf:f its.toArray=its'.toArray) (hv:Vals ys its') (hz:ys.length<=sizeLine) :
  Inv X pins σ (upd H l (.lst ys)) { s with heap:=s.heap.update l (Obj.mapSeq f),toks:=t' }:=by
 have q:=PySem.IsL.update e f
 rw [hf] at q
 refine I.write (x:=l) (e:=l) (by rw [hH]; exact trivial) (.inl rfl) (fun b' u hb hu=>(uI s.heap (Obj.mapSeq f) (Ne.symm hb)).trans hu) ⟨_,q⟩ ?_
 exact ⟨hz,its',_,hv,q⟩
theorem Inv.lnew {its:List Value} {t':Nat} (I:Inv X pins σ H s) (hv:Vals ys its) (hz:ys.length<=sizeLine) :
  Inv X pins σ (upd H s.heap.objs.size (.lst ys)) { s with heap:=s.heap.push { cls:=.type "list",data:=.seq its.toArray },toks:=t' } :=
 I.laid (fun _ _ q=>uc _ q) (ui _) ⟨hz,its,0,hv,uw _ rfl⟩
theorem Inv.fresh (I:Inv X pins σ H s):H s.heap.objs.size=none:=I.hok.fresh (ui _)
theorem Inv.lstM (I:Inv X pins σ H s) (hH:H l=some (.lst xs)):xs.length<=sizeLine/\∃ (its:List Value) (n:Nat),Vals xs its/\xs.length=its.length/\s.heap.get? l=some { cls:=.type "list",data:=.seq its.toArray n }:=by
 obtain ⟨z,its,n,r,e⟩:=I.hok l _ hH
 exact ⟨z,its,n,r,r.length,e⟩
end
section
variable {X:Cx}
def Yn:V->List V->Hp->VK->Prop:=fun x vs H Q=>∃ l xs y,x=.ref l/\vs=[y]/\H l=some (.lst xs)/\xs.length < sizeLine/\Q .non (upd H l (.lst (xs ++ [y])))
theorem Xo:MtM X "list.append" Yn:=by
 intro pins s σ H x vs v us Q I rx rv h
 obtain ⟨l,xs,y,rfl,rfl,hH,hz,q⟩:=h
 cases rx
 obtain ⟨u,rfl,ru⟩:=rv.one
 obtain ⟨z,its,n,r,hl,e⟩:=I.lstM hH
 refine call_meets F.slot_list_append ⟨_,e,rfl⟩ F.entry_list_append (F.args_list_append_2 _ _) (PySem.list_append l its.toArray n u (by rw [uz]; lia)) ⟨e,?_⟩
 refine ⟨.non,_,I.lset (its':=its ++ [u]) hH e (by simp) (r.append (.cons ru .nil)) ?_,rfl,q⟩
 rw [uf,List.length_singleton]
 lia
def rPop:V->List V->Hp->VK->Prop:=fun x vs H Q=>∃ l xs y,x=.ref l/\vs=[]/\H l=some (.lst xs)/\xs[xs.length - 1]?=some y/\Q y (upd H l (.lst xs.dropLast))
theorem QT:MtM X "list.pop" rPop:=by
 intro pins s σ H x vs v us Q I rx rv h
 obtain ⟨l,xs,y,rfl,rfl,hH,hy,q⟩:=h
 cases rx
 have hus:=rv.zero
 subst hus
 obtain ⟨z,its,n,r,hl,e⟩:=I.lstM hH
 obtain ⟨u,hu,ru⟩:=r.get hy
 have hy':its.toArray[its.toArray.size - 1]?=some u:=by
  show its.toArray[its.length - 1]?=some u
  rw [<- Array.getElem?_toList,<- hl]
  exact hu
 refine call_meets F.slot_list_pop ⟨_,e,rfl⟩ F.entry_list_pop (F.args_list_pop_1 _) (MeetsSeq.list_pop_last l its.toArray n u hy' (by rw [uz]; lia)) ⟨e,?_⟩
 refine ⟨y,_,I.lset (its':=its.dropLast) hH e ?_ r.dropLast ?_,ru,q⟩
 ·show its.toArray.eraseIdxIfInBounds (its.toArray.size - 1)=its.dropLast.toArray
  rw [uz,List.eraseIdxIfInBounds_toArray,ZE]
 ·rw [List.length_dropLast]
  lia
def rCat:R2:=fun x y H Q=>∃ l b xs zs,x=.ref l/\y=.ref b/\H l=some (.lst xs)/\H b=some (.lst zs)/\xs.length + zs.length<=sizeLine/\∀ p,H p=none->Q (.ref p) (upd H p (.lst (xs ++ zs)))
theorem QU:OpR X (binaryOp .Add) rCat:=by
 intro pins s σ H x y v u Q I rx ry h
 obtain ⟨l,b,xs,zs,rfl,rfl,hH,hB,hz,q⟩:=h
 cases rx
 cases ry
 obtain ⟨z,its,n,r,hl,e⟩:=I.lstM hH
 obtain ⟨z2,its2,n2,r2,hl2,e2⟩:=I.lstM hB
 refine PySem.P.add_list e e2 ?_ (by rw [uz,uz]; lia)
 have ea:its.toArray ++ its2.toArray=(its ++ its2).toArray:=by simp
 rw [ea]
 exact ⟨.ref _,_,I.lnew (t':=s.toks) (r.append r2) (by rw [uf]; lia),rfl,q _ I.fresh⟩
end
section
variable {prog:Program} {w:World} {A:Around} {E:Value->Shared->Prop} {s:Shared}
end
section
variable {X:Cx}
end
end L2
namespace Att
open PySem PySem.W PySem.Calls PyProof.Rows
theorem wt {P:Params} {h:Heap}:∀ (ns:List Int) (vs:List Value),WellAll P h vs (ns.map WData.int)->IntsAre vs ns:=by
 intro ns
 induction ns with
 | nil =>
  intro vs w
  rw [List.map_nil] at w
  cases w
  exact .nil
 | cons n ns ih =>
  intro vs w
  rw [uP] at w
  cases w with
  | cons a b =>
   cases a
   exact .cons _ _ (ih _ b)
theorem Xp {l:OpenLaw} {n:Nat} (hn:l.most=some n) {P:Params} {h:Heap} {args:List WData} {vals:List Value}
  (hpre:l.row.toRowW.claim.pre args=true) (hwl:WellAll P h vals args) :
  ∃ a vs ns,vals=[Value.ref a]/\args=[WData.list (ns.map WData.int)]/\h.get? a=some { cls:=.type "list",data:=.seq vs.toArray }/\IntsAre vs ns/\ns.length<=n:=by
 have hsh:WShape.hasAll [] args [.list .int]=true:=(pre_splitW hpre).1
 have hc:l.pre.holds [] { args:=args }=true:=(pre_splitW hpre).2
 obtain ⟨d,r,rfl,h1,h2⟩:=hasAllW_cons hsh
 obtain rfl:=hasAllW_nil h2
 obtain ⟨xs,rfl,h3⟩:=hasW_list h1
 obtain ⟨ns,rfl⟩:=items_int h3
 have hlen:ns.length<=n:=by
  unfold OpenLaw.pre at hc
  have h4:(WTm.not (.lt (.lit (.int (n:Int))) (.len (.arg 0)))).holds [] { args:=[.list (ns.map .int)] }=true:=by
   have h4:=(holds_andW hc).1
   rw [hn] at h4
   exact h4
  have h5:=condW_of h4 (w_not (w_lt w_lit (w_len_list (w_arg rfl))))
  rw [ub] at h5
  refine Nat.le_of_not_lt fun q=>?_
  have q':(n:Int) < ((ns.length:Nat):Int):=by lia
  first
   | (rw [decide_eq_true q'] at h5; exact absurd h5 (by decide))
   | (simp at h5; lia)
 cases hwl with
 | cons w1 w2 =>
  cases w2
  cases w1 with
  | list ho hall=>exact ⟨_,_,ns,rfl,rfl,ho,wt ns _ hall,hlen⟩
theorem Xq (l:OpenLaw) (args:List WData):l.row.toRowW.claim.post args (.bool true) args=true :=
 postW_of (r:=l.row.toRowW) (X:=(true == true))
  (show WShape.has [] (.bool true) .bool=true by first | rfl | decide | simp [WShape.has,WShape.arms,WShape.armsAll])
  (show (WTm.eq .res (.lit (.bool true))).value [] { args:=args,res:=some (.bool true),after:=args }=some (.bool (true == true)) from w_eq_bool (w_res rfl) w_lit) rfl
theorem attach_call {l:OpenLaw} {n:Nat} {q:Program} {loose:List Str} {XP:(Str->Option Value)->Heap->Prop} {YP:World->Heap->Prop} {d:DefRec}
  (hn:l.most=some n) (hdf:d.params.defaults=[])
  (call:∀ (w:World) (s₀ s₁:Shared) (mg mb:Str->Option Value) (fa:Addr) (o:Obj) (pm cd doc:Value) (a:Addr) (vs:List Value) (ns:List Int),
   Ground q loose [] XP w s₀ mg mb s₁.heap->YP w s₁.heap ->
   s₁.heap.get? fa=some o->o.data=.func (docDef d.name d.params d.body d.scope pm cd doc)->s₁.heap.CodeRec cd d.name->mg d.name=some (.ref fa) ->
   s₁.heap.get? a=some { cls:=.type "list",data:=.seq vs.toArray }->IntsAre vs ns->ns.length<=n->s₁.gens=#[] ->
   codeAny (model l.prog w) callerA (.call (.ref fa) ⟨[.ref a],[]⟩) (fun r s'=>r=.ok (.ret (.bool true))/\OldK s₁.heap s'.heap/\s'.os=s₁.os/\AllBare s'.gens) s₁) :
  WalkO q loose XP YP l.row.toRowW d [] (fun f vs=>PySem.call f vs):=by
 intro w s₀ s₁ mg mb G Y fa o pm cd doc dV kV ho hd hcd hD hmg hg args vals as hpre hlay hrd hwl hlo
 obtain rfl:dV=.none:=Dflts.none hD hdf
 obtain rfl:kV=.none:=Dflts.noKw hD
 obtain ⟨a,vs,ns,rfl,rfl,hobj,hints,hlen⟩:=Xp hn hpre hwl
 refine enter_call (codeAny_mono (call w s₀ s₁ mg mb fa o pm cd doc a vs ns G Y ho (fd_plain hd) hcd hmg hobj hints hlen hg) fun r s' hq=>?_)
 obtain ⟨rfl,h2,h3,h4⟩:=hq
 exact ⟨.inl ⟨.bool true,.bool true,[],rfl,fun _=>rfl,.bool true,Xq l _,fun _=>⟨List.Pairwise.nil,fun _ hm=>(nomatch hm)⟩⟩,h2,h3,h4⟩
section
variable {prog:Program} {w:World} {A:Around} {E:Value->Shared->Prop} {s:Shared} {K:Frag}
def zbb (h:Heap) (L d:Addr):List (Addr × Obj):=(UR h.objs.size).filterMap fun a=>if a=L\/a=d then none else (h.get? a).map fun o=>(a,o)
end
end Att
namespace L2
open PySem PySem.Spec PyProof.Rows
theorem vq:∀ {vs:List Value} {ns:List Int},IntsAre vs ns->Vals (ns.map V.int) vs
 | _,_,.nil=>.nil
 | _,_,.cons n t h=>.cons ⟨t,rfl⟩ (vq h)
end L2
namespace L2
open PySem PySem.Spec PyProof.Rows
end L2
/- THE LAST THEOREM (shape; LID, My.* are yours):
   My.Adr: a structure of the addresses that your layer names (classes,functions); My.Txt K t: a structure (Prop) of the equations over K;
   My.txt_mk:{K} {implicit addresses ..} (e1:nsIn K mainGlobals "law"=some (some (.ref f))) (e2:K.lookup f=some ⟨oc,od,.func (fnOf "law" "law" params body scope dV kV doc pm an cdv ct),sl⟩) (e3:codeIn K cdv "law"=true) ..:∃ t,My.Txt K t
set_option maxRecDepth 100000 in
set_option maxHeartbeats 0 in
theorem PySem.Challenge.cw_LID_holds : PySem.Challenge.rw_LID.Holds := by
 w_on; o_law; k_head; (case hw=>w_witness2)
 k_fill
 refine L2.walk_of (l:=PySem.Challenge.rw_LID) (n:=63) (k:=40) (x:="script") (CX:=fun w=>..) (sp:=fun _=>My.sp_law) rfl (by decide) rfl ⟨rfl,by decide,by decide⟩ (fun w h Y=>PySem.W.kIn_of Y) ?F ?S ?C
 case F =>
  intro w mg fa h KX G hmg
  have T:∃ t,My.Txt (L2.KOf KX) t:=by
   dsimp only [L2.KOf]                          -- K must stand as «<heap const> w.params» for k_is
   refine' My.txt_mk ?e1 ?e2 ?e3 ..
   (case e1 => PySem.W.k_is)                    -- in the order: a name -> its address -> its object -> its parts
   (case e2=>PySem.W.k_is)
   ..
  obtain ⟨t,T⟩:=T
  have e0:=hmg.symm.trans (UM KX G T.law)
  cases e0                                       -- fa is the law's own address
  exact ⟨_, fun s u => .of_eq rfl, fun base kb nb => My.law_fn T kb nb⟩     -- if «.of_eq rfl» comes too early: refine' ⟨_, ?b, fun base kb nb => My.law_fn T kb nb⟩; exact fun s u => .of_eq rfl
 case S=>exact fun w H a ns hl hO hS=>..
 case C=>exact ..
(the tactic k_is has no namespace: write k_is) -/
namespace L2
open PySem PySem.Spec PyProof.Rows
def yt (s:Stmt) (j:Nat):Stmt:=match s with
 | .ClassDef _ _ _ body _ _ _ _ _ _ _=>body.getD j (.Pass ⟨0,0,0,0⟩)
 | _=>.Pass ⟨0,0,0,0⟩
def zW (s:Stmt):Arguments:=match s with
 | .FunctionDef _ a _ _ _ _ _ _ _ _=>a
 | _=>{ posonlyargs:=[],args:=[],vararg:=none,kwonlyargs:=[],kw_defaults:=[],kwarg:=none,defaults:=[] }
def zN (s:Stmt):List Stmt:=match s with
 | .FunctionDef _ _ b _ _ _ _ _ _ _=>b
 | _=>[]
def zp (s:Stmt):Scope:=match s with
 | .FunctionDef _ _ _ _ _ _ sc _ _ _=>sc
 | _=>{ kind:=.function,names:=[],isGenerator:=false,isCoroutine:=false }
abbrev CX0:CXT:=fun _ _ _ _ _ _=>False
abbrev E0:XK:=fun _ _ _=>False
theorem zC {X:Cx}:yo CX0 X E0:=fun _ _ _ _ _ _ _ h=>h.elim
structure Fun (K:ua) (x qual:Str) (st:Stmt) (f:Addr) (fd:FuncData):Prop where
 ex:∃ (oc:Value) (od:Option Addr) (kV doc pm:Value) (an:Option Addr) (cdv ct:Value) (osl:Array (Option Value)),
  fd=u9 x qual (zW st) (zN st) (zp st) .none kV doc pm an cdv ct/\K.lookup f=some ⟨oc,od,.func fd,osl⟩/\UE K cdv qual=true
 kp:uU K (.ref f)=true
section
variable {P:Program} {w:World} {K:ua} {mg:Str->Option Value} {base:Heap}
theorem Fun.ok {x qual:Str} {st:Stmt} {f:Addr} {fd:FuncData} {N ps:List Str} {k:Nat} {sp:Sp} (F:Fun K x qual st f fd) (S:FnScope N ps (zp st)) (len:∀ vs H Q E,sp vs H Q E->vs.length=ps.length)
  (hbody:∀ (cdv:Value) (A:Around) (outer:List Env) (s:Shared) (H:Hp) (vs:List V) (Q:VK) (E:XK),Room k (A.deeper (envOfC qual (zp st) s.heap.objs.size f cdv))->sp vs H Q E ->
   ∃ t,PSs (cxOf CX0 P w K mg base N qual (zp st) f cdv A outer s H E).nox (zN st) t/\t { nx:=fun _ H'=>Q .non H',rt:=Q } (start N vs) H):FnOk P w K mg base CX0 (k + 1) f fd ps sp:=by
 obtain ⟨oc,od,kV,doc,pm,an,cdv,ct,osl,rfl,lk,hcd⟩:=F.ex
 refine Wc lk hcd S len fun A outer s H vs Q E hr hsp=>?_
 obtain ⟨t,h,q⟩:=hbody cdv A outer s H vs Q E hr hsp
 exact ⟨t,h.nox,q⟩
theorem Fun.binds {x qual:Str} {st:Stmt} {f:Addr} {fd:FuncData} {ps:List Str} (F:Fun K x qual st f fd)
  (h:∀ (kV doc pm:Value) (an:Option Addr) (cdv ct:Value) (us:List Value),us.length=ps.length->bindArgs (u9 x qual (zW st) (zN st) (zp st) .none kV doc pm an cdv ct) ⟨us,[]⟩=pure (ps.zip us)):Binds K fd ps []:=by
 obtain ⟨oc,od,kV,doc,pm,an,cdv,ct,osl,rfl,lk,hcd⟩:=F.ex
 exact .all (h kV doc pm an cdv ct)
theorem Wk {x qual:Str} {st:Stmt} {f:Addr} {oc:Value} {od an:Option Addr} {osl:Array (Option Value)} {kV doc pm cdv ct:Value} (l:K.lookup f=some ⟨oc,od,.func (u9 x qual (zW st) (zN st) (zp st) .none kV doc pm an cdv ct),osl⟩)
  (c:UE K cdv qual=true) (k:uU K (.ref f)=true):Fun K x qual st f (u9 x qual (zW st) (zN st) (zp st) .none kV doc pm an cdv ct):=⟨⟨oc,od,kV,doc,pm,an,cdv,ct,osl,rfl,l,c⟩,k⟩
end
theorem qT {A:Around} {k:Nat} (hr:Room k A):A.units + 1 < cLine:=Nat.lt_of_le_of_lt (Nat.add_le_add_left (by decide:1<=64) _) hr.units
section
variable {X:Cx}
theorem pv (i:Nat) {x:Str} {pos:Pos} (hN:X.N[i]?=some x:=by rfl) (hv:Vis X.env.scope x:=by first | exact Or.inl rfl | exact Or.inr (Or.inl rfl) | exact Or.inr (Or.inr rfl)) (hd:(x == ("__debug__":Str))=false:=by decide)
  (hcd:(x == ("__classdict__":Str))=false:=by decide):PE X (.Name x pos) (tVar i):=Qo hN hv hd hcd
end
theorem iteF {A B:Prop} (h:B):if false=true then A else B:=by
 rw [if_neg uB]
 exact h
theorem iteT {A B:Prop} (h:A):if true=true then A else B:=by
 rw [if_pos rfl]
 exact h
theorem ite2 {c A B:Prop} [Decidable c] (h1:c->A) (h2:¬ c->B):if c then A else B:=by
 by_cases h:c
 ·rw [if_pos h]
  exact h1 h
 ·rw [if_neg h]
  exact h2 h
def Same (H H':Hp):Prop:=∀ b o,H b=some o->H' b=some o
theorem Same.refl (H:Hp):Same H H:=fun _ _ h=>h
theorem Same.trans {H H1 H2:Hp} (a:Same H H1) (b:Same H1 H2):Same H H2:=fun c o h=>b c o (a c o h)
theorem Same.free {H H':Hp} (e:Same H H') {l:Addr} (h:H' l=Option.none):H l=Option.none:=by
 cases q:H l with
 | none=>rfl
 | some o =>
  rw [e l o q] at h
  cases h
theorem Same.seq {K:ua} {H H':Hp} {a:Addr} {xs:List V} (e:Same H H') (h:SqL K H a xs):SqL K H' a xs:=by
 rcases h with (h | ⟨o,h⟩) | h
 ·exact .inl (.inl (e _ _ h))
 ·exact .inl (.inr ⟨o,e _ _ h⟩)
 ·exact .inr h
end L2
namespace L2
open PySem PySem.Spec PyProof.Rows
def AllIn (env:Env):List (Str × Addr)->Prop
 | []=>True
 | p :: r=>env.cells.lookup p.1=some p.2/\AllIn env r
theorem AllIn.get {env:Env}:∀ {cl:List (Str × Addr)} {y:Str} {c:Addr},AllIn env cl->cl.lookup y=some c->env.cells.lookup y=some c
 | [],_,_,_,h=>by simp at h
 | (n,a) :: r,y,c,⟨e,t⟩,h=>by
  rw [Ur] at h
  by_cases q:y=n
  ·subst q
   rw [beq_self_eq_true] at h
   cases h
   exact e
  ·have q':(y == n)=false:=beq_eq_false_iff_ne.mpr q
   rw [q'] at h
   exact AllIn.get t h
def xM:List Nat->St->St
 | [],σ=>σ
 | i :: S,σ=>xM S (σ.set i none)
theorem xu:∀ (S:List Nat) (σ:St),(xM S σ).length=σ.length
 | [],_=>rfl
 | i :: S,σ=>by rw [xM,xu S,List.length_set]
theorem vv:∀ (S:List Nat) (σ:St) {j:Nat} {v:V},(xM S σ)[j]?=some (some v)->σ[j]?=some (some v)/\j ∉ S
 | [],_,_,_,h=>⟨h,by simp⟩
 | i :: S,σ,j,v,h=>by
  obtain ⟨h1,h2⟩:=vv S (σ.set i none) h
  rw [List.getElem?_set] at h1
  by_cases e:i=j
  ·rw [if_pos e] at h1
   split at h1 <;> cases h1
  ·rw [if_neg e] at h1
   exact ⟨h1,fun z=>(uq.mp z).elim (fun z=>e z.symm) h2⟩
structure LcOk (X:Cx) (scope:Scope) (cl:List (Str × Addr)) (S:List Nat):Prop where
 clos:closureFor scope X.env=pure cl
 kind:scope.kind=.function
 noC:scope.names.all (fun y=>y.2 != .cell)=true
 loc:scope.names.all (fun y=>y.2 != .local || scope.names.lookup y.1 == some .local)=true
 own:X.N.zipIdx.all (fun y=>S.contains y.2 || scope.names.lookup y.1 != some .local)=true
 sub:AllIn X.env cl
 has:scope.names.all (fun p=>p.2 != .free || ((cl.lookup p.1).isSome && (X.env.kindOf p.1 == some .cell || X.env.kindOf p.1 == some .free)))=true
section
variable {X:Cx} {scope:Scope} {cl:List (Str × Addr)} {S:List Nat}
theorem LcOk.nocell (L:LcOk X scope cl S):∀ y∈scope.names,y.2≠.cell:=fun y hy=>by
 have h:=UB.mp L.noC y hy
 exact bne_iff_ne.mp h
theorem LcOk.locs (L:LcOk X scope cl S):∀ y∈scope.names,y.2=.local->scope.names.lookup y.1=some .local:=fun y hy e=>by
 have h:=UB.mp L.loc y hy
 rw [e] at h
 simpa using h
theorem LcOk.apart (L:LcOk X scope cl S):∀ (i:Nat) (y:Str),X.N[i]?=some y->i ∉ S->scope.names.lookup y≠some .local:=fun i y hy hi=>by
 have h:=UB.mp L.own (y,i) (List.mem_zipIdx_iff_getElem?.mpr hy)
 have hc:S.contains i=false:=by simpa using hi
 rw [hc,Bool.false_or] at h
 exact bne_iff_ne.mp h
theorem LcOk.free (L:LcOk X scope cl S) {y:Str} (h:scope.names.lookup y=some .free):(∃ c,cl.lookup y=some c)/\(X.env.kindOf y=some .cell\/X.env.kindOf y=some .free):=by
 have h1:=UB.mp L.has _ (Uy h)
 simp only [bne_self_eq_false,Bool.false_or,UU,Bool.or_eq_true,beq_iff_eq] at h1
 exact ⟨UD.mp h1.1,h1.2⟩
theorem yK (names:List (Str × NameKind)) (env:Env) (y:Str) :
  (names.map fun (n,k)=>if (k == NameKind.free && env.scope.kind == .function && env.kindOf n == some .cell) then (n,NameKind.cell) else (n,k)).lookup y =
   (names.lookup y).map fun k=>if (k == NameKind.free && env.scope.kind == .function && env.kindOf y == some .cell) then NameKind.cell else k:=by
 induction names with
 | nil=>rfl
 | cons p r ih =>
  obtain ⟨n,k⟩:=p
  rw [uP]
  by_cases q:y=n
  ·subst q
   by_cases hc:(k == NameKind.free && env.scope.kind == .function && env.kindOf y == some .cell)=true
   ·show UK y ((if (k == NameKind.free && env.scope.kind == .function && env.kindOf y == some .cell)=true then (y,NameKind.cell) else (y,k)) :: _)=_
    rw [if_pos hc,Ur,Ur,beq_self_eq_true]
    show some NameKind.cell=some (if _ then _ else _)
    rw [if_pos hc]
   ·show UK y ((if (k == NameKind.free && env.scope.kind == .function && env.kindOf y == some .cell)=true then (y,NameKind.cell) else (y,k)) :: _)=_
    rw [if_neg hc,Ur,Ur,beq_self_eq_true]
    show some k=some (if _ then _ else _)
    rw [if_neg hc]
  ·have q':(y == n)=false:=beq_eq_false_iff_ne.mpr q
   by_cases hc:(k == NameKind.free && env.scope.kind == .function && env.kindOf n == some .cell)=true
   ·show UK y ((if (k == NameKind.free && env.scope.kind == .function && env.kindOf n == some .cell)=true then (n,NameKind.cell) else (n,k)) :: _)=_
    rw [if_pos hc,Ur,Ur,q']
    exact ih
   ·show UK y ((if (k == NameKind.free && env.scope.kind == .function && env.kindOf n == some .cell)=true then (n,NameKind.cell) else (n,k)) :: _)=_
    rw [if_neg hc,Ur,Ur,q']
    exact ih
theorem LcOk.kinds (L:LcOk X scope cl S) {y:Str} (h:(relabel scope X.env).names.lookup y=some .cell\/(relabel scope X.env).names.lookup y=some .free):scope.names.lookup y=some .free:=by
 have e:(relabel scope X.env).names.lookup y=(scope.names.lookup y).map fun k=>if (k == NameKind.free && X.env.scope.kind == .function && X.env.kindOf y == some .cell) then NameKind.cell else k:=yK scope.names X.env y
 rw [e] at h
 cases q:scope.names.lookup y with
 | none=>rw [q] at h; rcases h with h | h <;> cases h
 | some k =>
  have hk:k≠.cell:=L.nocell _ (Uy q)
  rw [q] at h
  by_cases hf:k=.free
  ·rw [hf]
  ·have z:(k == NameKind.free)=false:=beq_eq_false_iff_ne.mpr hf
   rw [UO,z,Bool.false_and,Bool.false_and,if_neg uB] at h
   rcases h with h | h
   ·exact absurd (Ul.inj h) hk
   ·exact absurd (Ul.inj h) hf
def cxLC (X:Cx) (scope:Scope) (cl:List (Str × Addr)) (M:List Str) (C:Addr) (s₀:Shared) (H₀:Hp) (ex:List Addr) (E:Value->Shared->Prop):Cx where
 prog:=X.prog
 w:=X.w
 K:=X.K
 mg:=X.mg
 base:=X.base
 A:=X.A
 N:=X.N ++ M
 s₀:=s₀
 H₀:=H₀
 env:=compEnvC scope cl C X.env
 outer:=X.stack
 stack:=X.stack
 ex:=ex
 fn:=fun _=>false
 calm:=X.calm
 pn:=[]
 xe:=E
variable {pins:List (Addr × Obj)} {σ:St} {H:Hp} {s:Shared} {ex:List Addr} {M:List Str} {C:Addr}
theorem Wl {E:Value->Shared->Prop} {h1:Heap} {tk:Nat} {m:Str->Option Value} (I:Inv X pins σ H s) (L:LcOk X scope cl S) (hf:∀ b∈ex,FpOk X pins H b) (hlt:∀ b∈ex,b < s.heap.objs.size)
  (hk:∀ b o,s.heap.get? b=some o->h1.get? b=some o) (hC:s.heap.objs.size<=C) (hns:h1.Ns C m) :
  Inv (cxLC X scope cl M C s H ex E) [] (xM S σ ++ Ut M.length none) H { s with heap:=h1,toks:=tk }:=by
 refine ⟨⟨I.ok.mod,L.kind,I.ok.glob,I.ok.blt,hC,fun x y c a b=>I.ok.inj x y c (L.sub.get a) (L.sub.get b),fun y hy=>(L.free (L.kinds hy)).1,(fun x c z=>nomatch z),I.ok.hd,I.ok.frames,.inl rfl,fun b hb=>⟨?_,fun x c e=>?_⟩,
   I.bs,uX I.ok.bsz I.sz,fun b o e hb=>?_,fun b hb z=>?_,I.stack,I.stkFree⟩,
  rfl,I.bare,Un.kept hk,⟨m,hns,fun i y v e1 e2 e3=>?_⟩,fun y c e=>?_,I.hok.fresh hC,fun y c e=>I.freeC y c (L.sub.get e),fun p hp=>absurd (show p∈([]:List (Addr × Obj)) from hp) (by simp),I.hok.kept hk,?_⟩
 ·exact uQ (ux (hlt b hb) hC)
 ·exact (hf b hb).2.2.2.2.1 x c (L.sub.get e)
 ·rcases (hf b hb).2.2.2.1 with z | z
  ·exact I.ok.noex b o e z
  ·exact absurd (ux (um e) (uX I.ok.bsz z)) (Us _)
 ·rcases uq.mp (I.stkSub b z) with q | q
  ·exact (hf b hb).2.1 q
  ·exact (hf b hb).2.2.1 q
 ·have e1':(X.N ++ M)[i]?=some y:=e1
  by_cases hi:i < σ.length
  ·rw [uv (by rw [xu]; exact hi)] at e2
   obtain ⟨e2,hiS⟩:=vv S σ e2
   rw [uv (by rw [<- I.len]; exact hi)] at e1'
   obtain ⟨m0,hn0,hl⟩:=I.loc
   have hy:scope.names.lookup y=some .free:=by
    rcases e3 with e3 | e3
    ·have q:=yK scope.names X.env y
     have e3':(relabel scope X.env).names.lookup y=some .local:=e3
     cases z:scope.names.lookup y with
     | none =>
      rw [z] at q
      have q':(relabel scope X.env).names.lookup y=none:=q
      rw [e3'] at q'; cases q'
     | some k =>
      have hk1:k≠.local:=fun w=>L.apart i y e1' hiS (w ▸ z)
      rw [z,UO] at q
      have q':some NameKind.local=some (if (k == NameKind.free && X.env.scope.kind == .function && X.env.kindOf y == some .cell)=true then NameKind.cell else k):=e3'.symm.trans q
      have q2:=Ul.inj q'
      by_cases hc:(k == NameKind.free && X.env.scope.kind == .function && X.env.kindOf y == some .cell)=true
      ·rw [if_pos hc] at q2; cases q2
      ·rw [if_neg hc] at q2; exact absurd q2.symm hk1
    ·exact L.kinds e3
   obtain ⟨⟨c,hc⟩,hk2⟩:=L.free hy
   obtain ⟨u,r,l⟩:=hl i y v e1' e2 (.inr hk2)
   refine ⟨u,r,.inr ⟨?_,c,hc,?_⟩⟩
   ·have q:=yK scope.names X.env y
    rw [hy,UO] at q
    have q':(relabel scope X.env).names.lookup y=some (if (NameKind.free == NameKind.free && X.env.scope.kind == .function && X.env.kindOf y == some .cell)=true then NameKind.cell else NameKind.free):=q
    by_cases hc:(NameKind.free == NameKind.free && X.env.scope.kind == .function && X.env.kindOf y == some .cell)=true
    ·rw [if_pos hc] at q'; exact .inl q'
    ·rw [if_neg hc] at q'; exact .inr q'
   ·rcases l with ⟨l1,_⟩ | ⟨_,c',e',z⟩
    ·rcases hk2 with w | w <;> (rw [l1] at w; cases w)
    ·have ec:c'=c:=by
      have w:=L.sub.get hc
      rw [e'] at w
      exact Ul.inj w
     subst ec
     obtain ⟨o,ho,hd⟩:=z
     exact ⟨o,hk _ _ ho,hd⟩
  ·rw [uL (by rw [xu]; exact Nat.not_lt.mp hi),List.getElem?_replicate] at e2
   split at e2 <;> cases e2
 ·obtain ⟨v,o,ho,hd⟩:=I.cell y c (L.sub.get e)
  exact ⟨v,o,hk _ _ ho,hd⟩
 ·show (xM S σ ++ Ut M.length none).length=(X.N ++ M).length
  rw [uf,uf,Uz,xu,I.len]
def PTs (X:Cx) (ifs:List Expr) (t:TT):Prop :=
 ∀ (pins:List (Addr × Obj)) (s:Shared) (σ:St) (H:Hp) (Q:Bool->Hp->Prop),Inv X pins σ H s->t σ H Q ->
  wpAny (model X.prog X.w) X.A (forIn ifs true fun c r=>if r=true then do let ok <- isTrue c X.env (eval c X.env); pure (ForInStep.yield ok) else pure (ForInStep.yield r)) (TP X pins σ Q) X.xe s
def tYes:TT:=fun _ H Q=>Q true H
theorem Js {X:Cx}:PTs X [] tYes:=fun _ _ _ H _ I h=>wpAny_tests_nil ⟨H,I,h⟩
theorem Jt {X:Cx} {c:Expr} {t:TT} (h:PT X c t):PTs X [c] t:=fun pins s σ H Q I q=>wpAny_tests_one (h pins s σ H Q I q)
def lcBy (J:It) (g:TG) (tt:TT) (te:TE) (Q:VK) (W:Nat->Nat->St->List V->Hp->Prop):Prop:=∀ i m τ ys H,W i m τ ys H ->
 (J.stop i H/\∀ p,H p=none->Q (.ref p) (upd H p (.lst ys))) \/
 (J.go i H/\∃ N:St->List V->Hp->Prop,(∀ τ' ys' H',N τ' ys' H'->∃ m',m' < m/\W (i + 1) m' τ' ys' H')/\∀ x H',J.yld i H x H'->g x τ H' fun τ2 H2=>tt τ2 H2 fun b H3 =>
  if b=true then te τ2 H3 fun y H4=>ys.length < sizeLine/\N τ2 (ys ++ [y]) H4 else N τ2 ys H3)
def tLC (wi:TI) (g:TG) (tt:TT) (te:TE) (n:Nat):TE:=fun σ H Q=>wi σ H fun J H1=>∃ W,(∃ m,W 0 m (σ ++ Ut n none) [] H1)/\lcBy J g tt te Q W
def tLCS (S:List Nat) (wi:TI) (g:TG) (tt:TT) (te:TE) (n:Nat):TE:=fun σ H Q=>wi σ H fun J H1=>∃ W,(∃ m,W 0 m (xM S σ ++ Ut n none) [] H1)/\lcBy J g tt te Q W
theorem Yo {tg elt iter:Expr} {ifs:List Expr} {pos:Pos} {g:TG} {tt:TT} {te:TE} {J:It} {fp:List Addr} {it:Addr} {tn:Nat->Heap->Prop} {Q:VK} {E:Value->Shared->Prop} {R:Value->Addr->Result->Shared->Prop} {Al:Addr->(Value->Shared->Prop)->Prop}
  {W:Nat->Nat->St->List V->Hp->Prop} {m0:Nat} (L:LcOk X scope cl S) (hc:X.calm=true) (I:Inv X pins σ H s) (T:Turn X.prog X.w X.K tg J fp it tn) (st:tn 0 s.heap) (hf:∀ b∈fp,FpOk X pins H b)
  (hg:∀ C s H ex E,PG (cxLC X scope cl M C s H ex E) tg g) (ht:∀ C s H ex E,PTs (cxLC X scope cl M C s H ex E) ifs tt) (he:∀ C E,Al C E->PE (cxLC X scope cl M C s H fp E) elt te)
  (hal:∀ C,s.heap.objs.size < C->Al C (notedBy (model X.prog X.w) X.A (compEnvC scope cl C X.env) (fun e s'=>R (.ref s.heap.objs.size) C (.error e) s')))
  (w0:W 0 m0 (xM S σ ++ Ut M.length none) [] H) (turn:lcBy J g tt te Q W)
  (hR:∀ D C s' H' ys m,Inv X pins σ (upd H' D (.lst ys)) s'->FpOk X pins (upd H' D (.lst ys)) C->s'.heap.Ns C m->Q (.ref D) (upd H' D (.lst ys))->R (.ref D) C (.ok .next) s') :
  wpAny (model X.prog X.w) X.A (newList []) (fun acc s₃=>wpAny (model X.prog X.w) X.A (newFunctionEnv scope X.env.globals cl [] X.env.qual none .none (some X.env)) (fun cenv s₄ =>
   codeAny (model X.prog X.w) X.A (.compStart (.ListComp elt [⟨tg,iter,ifs,0⟩] scope pos) 0 (.ref it) acc { cenv with scope:=relabel scope X.env }) (R acc cenv.locals) s₄) E s₃) E s:=by
 refine wpAny_newObj_type (wpAny_newFunctionEnv L.nocell (by intro y hy; simp at hy) (fun h₁ hns₁ hsb₁=>?_) L.kind)
 dsimp only at hns₁ hsb₁ ⊢
 generalize hG:s.heap.push { cls:=.type "list",dict:=none,data:=.seq ([]:List Value).toArray }=G at hns₁ hsb₁ ⊢
 have hC:G.objs.size=s.heap.objs.size + 1:=by rw [<- hG,Ui]
 have hDC:s.heap.objs.size≠G.objs.size:=by rw [hC]; exact uQ (US _)
 have hCle:s.heap.objs.size<=G.objs.size:=by rw [hC]; exact Nat.le_succ _
 have old:∀ b o,s.heap.get? b=some o->h₁.get? b=some o:=fun b o e =>
  hsb₁.extBut b o (by rw [hC]; exact uQ (Nat.lt_succ_of_lt (um e))) (uc _ (hG ▸ uc _ e))
 have hacc:h₁.get? s.heap.objs.size=some { cls:=.type "list",data:=.seq ([]:List Value).toArray }:=hsb₁.extBut _ _ hDC (uc _ (hG ▸ uw _ rfl))
 have fpo:∀ b∈fp,b < s.heap.objs.size:=fun b hb=>let ⟨o,e,_⟩:=T.obj 0 _ st b hb; um e
 have st1:tn 0 h₁:=T.keep 0 _ _ st fun b _ o e=>old b o e
 have nofs:s.heap.objs.size ∉ frs X.stack:=fun z=>by
  rcases uq.mp (I.stkSub _ z) with q | q
  ·exact absurd (q ▸ I.lt) (Us _)
  ·exact I.nofs (ui _) q
 have nocl:∀ y c,cl.lookup y=some c->c≠s.heap.objs.size:=fun y c e z=>by
  obtain ⟨v,o,ho,_⟩:=I.cell y c (L.sub.get e)
  exact absurd (z ▸ um ho) (Us _)
 have loop:∀ s₃:Shared,s₃={ s with heap:=h₁,toks:=s.toks + ([]:List (Str × Value)).length } ->
   codeAny (model X.prog X.w) X.A (.compLoop (.ListComp elt [⟨tg,iter,ifs,0⟩] scope pos) 0 (.ref it) (.ref s.heap.objs.size) (compEnvC scope cl G.objs.size X.env)) (R (.ref s.heap.objs.size) G.objs.size) s₃:=by
  rintro s₃ rfl
  have hAl:=hal G.objs.size (by rw [hC]; exact US _)
  generalize hE:notedBy (model X.prog X.w) X.A (compEnvC scope cl G.objs.size X.env) (fun e s'=>R (.ref s.heap.objs.size) G.objs.size (.error e) s')=E' at hAl ⊢
  have IY:Inv (cxLC X scope cl M G.objs.size s H fp E') [] (xM S σ ++ Ut M.length none) H { s with heap:=h₁,toks:=s.toks + ([]:List (Str × Value)).length }:=Wl I L hf fpo old hCle hns₁
  refine codeAny_loop rfl (fun n s'=>∃ (i:Nat) (τ:St) (H':Hp) (ys:List V) (its:List Value) (k:Nat),Inv (cxLC X scope cl M G.objs.size s H fp E') [] τ H' s'/\tn i s'.heap/\(∀ b∈fp,H' b=none) /\
   s'.heap.get? s.heap.objs.size=some { cls:=.type "list",data:=.seq its.toArray k }/\H' s.heap.objs.size=none/\Vals ys its/\ys.length<=sizeLine/\W i n τ ys H') (fun n s' hI=>?_) m0
   ⟨0,_,H,[],[],_,IY,st1,fun b hb=>(hf b hb).1,hacc,I.hok.fresh (ui _),.nil,u6 _,w0⟩
  obtain ⟨i,τ,H1,ys,its,k,I1,st1,fr1,eD,fD,rv,hz,w1⟩:=hI
  show wpAny _ X.A ((compTurn (.ListComp elt [⟨tg,iter,ifs,0⟩] scope pos) 0 (.ref it) (.ref s.heap.objs.size) (compEnvC scope cl G.objs.size X.env)).onRaise (fun x=>do noteFrame x (compEnvC scope cl G.objs.size X.env); theTreesLotGoes x)) _ _ s'
  refine wpAny_noted ?_
  rw [hE,compTurn_list]
  have I1':Inv (cxLC X scope cl M G.objs.size s H fp E') [(s.heap.objs.size,{ cls:=.type "list",data:=.seq its.toArray k })] τ H1 s':=I1.pins_of fun p hp=>by
   have e:p=(s.heap.objs.size,{ cls:=.type "list",data:=.seq its.toArray k }):=by simpa using hp
   subst e
   exact ⟨eD,fD,hDC,nofs,(fun v z=>nomatch z)⟩
  have stat:∀ {H':Hp},(∀ b∈fp,H' b=none)->∀ b∈fp,FpOk (cxLC X scope cl M G.objs.size s H fp E') [(s.heap.objs.size,{ cls:=.type "list",data:=.seq its.toArray k })] H' b:=fun hn b hb=>by
   refine ⟨hn b hb,?_,?_,.inl hb,fun x c e=>(hf b hb).2.2.2.2.1 x c (L.sub.get e),fun p hp z=>?_⟩
   ·exact uQ (ux (fpo b hb) hCle)
   ·intro z
    rcases uq.mp (I.stkSub b z) with q | q
    ·exact (hf b hb).2.1 q
    ·exact (hf b hb).2.2.1 q
   ·have e:p=(s.heap.objs.size,{ cls:=.type "list",data:=.seq its.toArray k }):=by
     have hp':p∈[(s.heap.objs.size,({ cls:=.type "list",data:=.seq its.toArray k }:Obj))]:=hp
     simpa using hp'
    subst e
    exact absurd (z ▸ fpo b hb) (Us _)
  refine wpAny_bind (wpAny_standAt (wpAny_bind ?_))
  rcases turn i n τ ys H1 w1 with ⟨stop,q⟩ | ⟨go,N,hN,step⟩
  ·refine thn (T.done (cxLC X scope cl M G.objs.size s H fp E') rfl rfl rfl hc i _ s' τ H1 E' I1' (stat fr1) st1 stop) fun r s4 ⟨hr,I4⟩=>?_
   subst hr
   refine wpAny_pure ?_
   obtain ⟨eD4,_,_⟩:=I4.pin (s.heap.objs.size,{ cls:=.type "list",data:=.seq its.toArray k }) (uM _ uo)
   have base4:Un (frs X.stack) fp H H1 s.heap s4.heap:=I4.base
   have un:Un (frs X.stack) fp H (upd H1 s.heap.objs.size (.lst ys)) s.heap s4.heap:=⟨base4.keep,base4.slot,fun b o e n hx=>by rw [zm (uQ (um e))]; exact base4.free b o e n hx,base4.there,
    fun b xs e=>by rw [zm (zo (base4.tups b xs e) fD)]; exact base4.tups b xs e,fun b o u e=>by rw [zm (zo (base4.frzs b o u e) fD)]; exact base4.frzs b o u e,
    fun b ps e=>by
     obtain ⟨more,w⟩:=base4.tbls b ps e
     exact ⟨more,by rw [zm (zo w fD)]; exact w⟩⟩
   have hok:HOk X.prog X.w (upd H1 s.heap.objs.size (.lst ys)) s4.heap:=fun b u e=>by
    by_cases hb:b=s.heap.objs.size
    ·subst hb
     rw [zf] at e
     cases e
     exact ⟨hz,its,k,rv,eD4⟩
    ·rw [zm hb] at e
     exact (I4.hok b u e).stay (fun c v _ q=>q) (fun c q=>by rw [zm (zo q fD)]; exact q) fun c xs q=>by rw [zm (zo q fD)]; exact q
   have IX:Inv X pins σ (upd H1 s.heap.objs.size (.lst ys)) s4:=I.call' I4.os un hok I4.bare fun b hb=>⟨(hf b hb).2.2.2.1,(hf b hb).2.1,(hf b hb).2.2.2.2.1,(hf b hb).2.2.2.2.2⟩
   have fC:H1 G.objs.size=none:=I4.free
   obtain ⟨m4,n4,_⟩:=I4.loc
   exact hR _ _ s4 H1 ys m4 IX (I.fpOk hCle (by rw [zm (Ne.symm hDC)]; exact fC)) n4 (q _ fD)
  ·refine thn (T.item (cxLC X scope cl M G.objs.size s H fp E') rfl rfl rfl hc i _ s' τ H1 E' I1' (stat fr1) st1 go) fun r s4 ⟨u,hr,h4⟩=>?_
   subst hr
   refine wpAny_bind (thn h4 fun _ s5 ⟨x,H5,I5,r5,y5,st5,fr5⟩=>?_)
   have I5':=I5.pinned (stat fr5) (T.obj _ _ st5)
   have kept:∀ {τ6:St} {H6:Hp} {s6:Shared},Inv (cxLC X scope cl M G.objs.size s H fp E') ([(s.heap.objs.size,{ cls:=.type "list",data:=.seq its.toArray k })] ++ wD fp s5.heap) τ6 H6 s6 ->
     Inv (cxLC X scope cl M G.objs.size s H fp E') [] τ6 H6 s6/\tn (i + 1) s6.heap/\(∀ b∈fp,H6 b=none)/\s6.heap.get? s.heap.objs.size=some { cls:=.type "list",data:=.seq its.toArray k }/\H6 s.heap.objs.size=none:=fun {τ6 H6 s6} I6=>by
    have pin:∀ b∈fp,∀ o,s5.heap.get? b=some o->s6.heap.get? b=some o/\H6 b=none:=fun b hb o e =>
     let w:=I6.pin (b,o) (uM _ (uM _ (xF hb e)))
     ⟨w.1,w.2.1⟩
    have pD:=I6.pin (s.heap.objs.size,{ cls:=.type "list",data:=.seq its.toArray k }) (uM _ (Uj _ uo))
    refine ⟨I6.pins_of (fun p hp=>nomatch hp),T.keep _ _ _ st5 fun b hb o e=>(pin b hb o e).1,fun b hb=>?_,pD.1,pD.2.1⟩
    obtain ⟨o,e,_⟩:=T.obj _ _ st5 b hb
    exact (pin b hb o e).2
   refine wpAny_bind (thn (hg _ _ _ _ _ _ s5 τ H5 x u _ I5' r5 (step x H5 y5)) fun _ s6 ⟨σ6,H6,I6,q6⟩=>?_)
   refine wpAny_bind (thn (ht _ _ _ _ _ _ s6 σ6 H6 _ I6 q6) fun ok s7 ⟨H7,I7,q7⟩=>?_)
   cases ok with
   | false =>
    have q7':N σ6 ys H7:=by simpa using q7
    obtain ⟨m',hm,w7⟩:=hN _ _ _ q7'
    obtain ⟨K1,K2,K3,K4,K5⟩:=kept I7
    exact wpAny_pure ⟨rfl,m',hm,i + 1,σ6,H7,ys,its,k,K1,K2,K3,K4,K5,rv,hz,w7⟩
   | true =>
    have q7':te σ6 H7 fun y H4=>ys.length < sizeLine/\N σ6 (ys ++ [y]) H4:=by simpa using q7
    refine wpAny_bind (wpAny_bind (thn (he _ _ hAl _ s7 σ6 H7 _ I7 q7') fun y s8 ⟨v8,H8,I8,r8,hz8,n8⟩=>?_))
    obtain ⟨m',hm,w8⟩:=hN _ _ _ n8
    obtain ⟨K1,K2,K3,K4,K5⟩:=kept I8
    have hl:=rv.length
    refine wpAny_bind (wpAny_list_append_plain (hsz:=by rw [uz]; lia) ⟨k,K4⟩ fun h9 hl9 hs9=>wpAny_pure (wpAny_pure ⟨rfl,m',hm,?_⟩))
    obtain ⟨k9,e9⟩:=hl9
    have I9:Inv (cxLC X scope cl M G.objs.size s H fp E') [] σ6 H8 { s8 with heap:=h9 }:=K1.turned (t':=s8.toks) (it:=s.heap.objs.size) (fun b o hb e=>(hs9.2 b hb).trans e) K5 hDC (.inr (ui _))
     (fun y c e=>nocl y c e) fun p hp=>nomatch hp
    refine ⟨i + 1,σ6,H8,ys ++ [v8],its ++ [y],k9,I9,T.keep _ _ _ K2 fun b hb o e=>(hs9.2 b (uQ (fpo b hb))).trans e,K3,?_,K5,rv.append (.cons r8 .nil),?_,w8⟩
    ·rw [e9]
     simp
    ·rw [uf,List.length_singleton]
     lia
 exact codeAny_compStart_list (loop _ rfl) (T.self X.A 0 _ _ _ st1 (loop _ rfl))
variable {tg elt iter:Expr} {ifs:List Expr} {pos:Pos} {wi:TI} {g:TG} {tt:TT} {te:TE}
theorem zaW (L:LcOk X scope cl S) (hc:X.calm=true) (hi:PI X tg iter wi) (hg:∀ C s H ex E,PG (cxLC X scope cl M C s H ex E) tg g) (ht:∀ C s H ex E,PTs (cxLC X scope cl M C s H ex E) ifs tt) (he:∀ C s H ex E,PE (cxLC X scope cl M C s H ex E) elt te)
  (hs:∀ x,foldedSetIterable iter X.env x=pure x:=by intro _; rfl):PE X (.ListComp elt [⟨tg,iter,ifs,0⟩] scope pos) (tLCS S wi g tt te M.length):=by
 intro pins s σ H Q I h
 rw [eval_ListComp]
 refine wpAny_comprehension_free (use:=none) rfl hs L.clos L.kind L.locs (thn (hi pins s σ H _ I h) fun v s1 h1=>thn h1 fun itv s2 h2=>?_)
 obtain ⟨it,fp,tn,J,H2,rfl,I2,T,st2,f2,W,⟨m0,w0⟩,turn⟩:=h2
 refine Yo (R:=fun acc C=>compPost (model X.prog X.w) X.A X.xe none (EP X pins σ Q) acc C) (Al:=fun _ _=>True) L hc I2 T st2 f2 hg ht (fun C E _=>he C _ _ _ E) (fun _ _=>trivial) w0 turn ?_
 intro D C s' H' ys m IX fC ns q
 exact ⟨m,ns,fun h' sb=>⟨.ref D,_,IX.turned (t':=s'.toks) (fun b o hb e=>(sb.2 b hb).trans e) fC.1 fC.2.1 fC.2.2.2.1 fC.2.2.2.2.1 fC.2.2.2.2.2,rfl,q⟩⟩
theorem vw {i:Nat} {y:Str} {py spos:Pos} (hN:X.N.Nodup) (hi':X.N[i]?=some y) (hy:Loc X.env.scope y) (L:LcOk X scope cl S) (hc:X.calm=true) (hi:PI X tg iter wi) (hg:∀ C s H ex E,PG (cxLC X scope cl M C s H ex E) tg g)
  (ht:∀ C s H ex E,PTs (cxLC X scope cl M C s H ex E) ifs tt) (he:∀ C s H ex E,PE (cxLC X scope cl M C s H ex E) elt te) (hs:∀ x,foldedSetIterable iter X.env x=pure x:=by intro _; rfl)
  (hsw:swapsWith (.ListComp elt [⟨tg,iter,ifs,0⟩] scope pos) (some (.Name y py)) spos.line X.env=pure true:=by rfl)
  (hf:X.fn y=true\/X.env.scope.names.lookup y=some .local:=by first | exact .inl rfl | exact .inr rfl | assumption) :
  PS X (.Assign [.Name y py] (.ListComp elt [⟨tg,iter,ifs,0⟩] scope pos) spos) (fun D σ H=>tLCS S wi g tt te M.length σ H fun v H1=>D.nx (σ.set i (some v)) H1):=by
 intro pins s σ H D I h
 rw [exec_Assign_Name_used _ _ _ _ hsw]
 refine wpAny_bind (wpAny_standAt (wpAny_bind ?_))
 show wpAny _ X.A (do let _ <- comprehension (.ListComp elt [⟨tg,iter,ifs,0⟩] scope pos) scope X.env _ (newList []) false (eval iter X.env) (some (assign (.Name y py) X.env))) _ _ s
 refine wpAny_bind (wpAny_mono (wpAny_comprehension_free (use:=some (assign (.Name y py) X.env)) (Q:=fun _ s'=>SP X pins D .next s') rfl hs L.clos L.kind L.locs
  (thn (hi pins s σ H _ I h) fun v s1 h1=>thn h1 fun itv s2 h2=>?_)) (fun _ s' hq=>wpAny_pure (wpAny_pure hq)) fun _ _ e=>e)
 obtain ⟨it,fp,tn,J,H2,rfl,I2,T,st2,f2,W,⟨m0,w0⟩,turn⟩:=h2
 refine Yo (R:=fun acc C=>compPost (model X.prog X.w) X.A X.xe (some (assign (.Name y py) X.env)) (fun _ s'=>SP X pins D .next s') acc C) (Al:=fun _ _=>True) L hc I2 T st2 f2 hg ht (fun C E _=>he C _ _ _ E) (fun _ _=>trivial) w0 turn ?_
 intro D' C s' H' ys m IX fC ns q
 show wpAny _ X.A (assign (.Name y py) X.env (.ref D')) _ _ s'
 refine wpAny_assign_Name (vh IX hN hi' hy (v:=.ref D') rfl (fun s'' I'' ⟨a,sb,ha⟩=>?_) hf)
 refine ⟨m,ns.sameBut sb ?_,fun h' sb'=>⟨_,_,I''.turned (t':=s''.toks) (fun b o hb e=>(sb'.2 b hb).trans e) fC.1 fC.2.1 fC.2.2.2.1 fC.2.2.2.2.1 fC.2.2.2.2.2,q⟩⟩
 rcases ha with ha | ha
 ·rw [ha]; exact fC.2.1
 ·exact Ne.symm (fC.2.2.2.2.1 y a ha)
end
def clOf (scope:Scope) (env:Env):List (Str × Addr):=scope.names.foldl (fun cs p=>if p.2 == .free then (match env.cells.lookup p.1 with | some a=>(p.1,a) :: cs | none=>cs) else cs) []
theorem Yp (env:Env):∀ (names:List (Str × NameKind)) (acc:List (Str × Addr)),AllIn env acc->AllIn env (names.foldl (fun cs p=>if p.2 == .free then (match env.cells.lookup p.1 with | some a=>(p.1,a) :: cs | none=>cs) else cs) acc)
 | [],_,h=>h
 | (n,k) :: r,acc,h=>by
  rw [List.foldl_cons]
  refine Yp env r _ ?_
  by_cases hk:(k == NameKind.free)=true
  ·rw [if_pos hk]
   cases e:env.cells.lookup n with
   | none=>exact h
   | some a=>exact ⟨e,h⟩
  ·rw [if_neg hk]
   exact h
section
variable {X:Cx} {scope:Scope} {M:List Str} {tg elt iter:Expr} {ifs:List Expr} {pos:Pos} {wi:TI} {g:TG} {tt:TT} {te:TE}
theorem qU {S:List Nat} (h1:closureFor scope X.env=pure (clOf scope X.env)) (h2:scope.kind=.function) (h3:scope.names.all (fun y=>y.2 != .cell)=true) (h4:scope.names.all (fun y=>y.2 != .local || scope.names.lookup y.1 == some .local)=true)
  (h5:X.N.zipIdx.all (fun y=>S.contains y.2 || scope.names.lookup y.1 != some .local)=true) (h6:scope.names.all (fun p=>p.2 != .free || (((clOf scope X.env).lookup p.1).isSome && (X.env.kindOf p.1 == some .cell || X.env.kindOf p.1 == some .free)))=true) :
  LcOk X scope (clOf scope X.env) S:=⟨h1,h2,h3,h4,h5,Yp X.env scope.names [] trivial,h6⟩
theorem lcOk (h1:closureFor scope X.env=pure (clOf scope X.env)) (h2:scope.kind=.function) (h3:scope.names.all (fun y=>y.2 != .cell)=true) (h4:scope.names.all (fun y=>y.2 != .local || scope.names.lookup y.1 == some .local)=true)
  (h5:X.N.all (fun y=>scope.names.lookup y != some .local)=true) (h6:scope.names.all (fun p=>p.2 != .free || (((clOf scope X.env).lookup p.1).isSome && (X.env.kindOf p.1 == some .cell || X.env.kindOf p.1 == some .free)))=true) :
  LcOk X scope (clOf scope X.env) []:=qU h1 h2 h3 h4 (UB.mpr fun y hy=>by
   have hm:y.1∈X.N:=uu (List.mem_zipIdx_iff_getElem?.mp hy)
   rw [UB.mp h5 y.1 hm,Bool.or_true]) h6
theorem Ju (M:List Str) (hc:X.calm=true) (hi:PI X tg iter wi) (hg:∀ C s H ex E,PG (cxLC X scope (clOf scope X.env) M C s H ex E) tg g) (ht:∀ C s H ex E,PTs (cxLC X scope (clOf scope X.env) M C s H ex E) ifs tt)
  (he:∀ C s H ex E,PE (cxLC X scope (clOf scope X.env) M C s H ex E) elt te) (hs:∀ x,foldedSetIterable iter X.env x=pure x:=by intro _; rfl)
  (h1:closureFor scope X.env=pure (clOf scope X.env):=by with_unfolding_all rfl) (h2:scope.kind=.function:=by rfl) (h3:scope.names.all (fun y=>y.2 != .cell)=true:=by rfl) (h4:scope.names.all (fun y=>y.2 != .local || scope.names.lookup y.1 == some .local)=true:=by rfl)
  (h5:X.N.all (fun y=>scope.names.lookup y != some .local)=true:=by rfl) (h6:scope.names.all (fun p=>p.2 != .free || (((clOf scope X.env).lookup p.1).isSome && (X.env.kindOf p.1 == some .cell || X.env.kindOf p.1 == some .free)))=true:=by rfl) :
  PE X (.ListComp elt [⟨tg,iter,ifs,0⟩] scope pos) (tLC wi g tt te M.length):=zaW (lcOk h1 h2 h3 h4 h5 h6) hc hi hg ht he hs
theorem Jv (M:List Str) {i:Nat} {y:Str} {py spos:Pos} (hN:X.N.Nodup) (hi':X.N[i]?=some y) (hy:Loc X.env.scope y) (hc:X.calm=true) (hi:PI X tg iter wi) (hg:∀ C s H ex E,PG (cxLC X scope (clOf scope X.env) M C s H ex E) tg g)
  (ht:∀ C s H ex E,PTs (cxLC X scope (clOf scope X.env) M C s H ex E) ifs tt) (he:∀ C s H ex E,PE (cxLC X scope (clOf scope X.env) M C s H ex E) elt te) (hs:∀ x,foldedSetIterable iter X.env x=pure x:=by intro _; rfl)
  (hsw:swapsWith (.ListComp elt [⟨tg,iter,ifs,0⟩] scope pos) (some (.Name y py)) spos.line X.env=pure true:=by rfl)
  (hf:X.fn y=true\/X.env.scope.names.lookup y=some .local:=by first | exact .inl rfl | exact .inr rfl | assumption)
  (h1:closureFor scope X.env=pure (clOf scope X.env):=by with_unfolding_all rfl) (h2:scope.kind=.function:=by rfl) (h3:scope.names.all (fun y=>y.2 != .cell)=true:=by rfl) (h4:scope.names.all (fun y=>y.2 != .local || scope.names.lookup y.1 == some .local)=true:=by rfl)
  (h5:X.N.all (fun y=>scope.names.lookup y != some .local)=true:=by rfl) (h6:scope.names.all (fun p=>p.2 != .free || (((clOf scope X.env).lookup p.1).isSome && (X.env.kindOf p.1 == some .cell || X.env.kindOf p.1 == some .free)))=true:=by rfl) :
  PS X (.Assign [.Name y py] (.ListComp elt [⟨tg,iter,ifs,0⟩] scope pos) spos) (fun D σ H=>tLC wi g tt te M.length σ H fun v H1=>D.nx (σ.set i (some v)) H1):=vw hN hi' hy (lcOk h1 h2 h3 h4 h5 h6) hc hi hg ht he hs hsw hf
theorem Wm (S:List Nat) (M:List Str) {i:Nat} {y:Str} {py spos:Pos} (hN:X.N.Nodup) (hi':X.N[i]?=some y) (hy:Loc X.env.scope y) (hc:X.calm=true) (hi:PI X tg iter wi) (hg:∀ C s H ex E,PG (cxLC X scope (clOf scope X.env) M C s H ex E) tg g)
  (ht:∀ C s H ex E,PTs (cxLC X scope (clOf scope X.env) M C s H ex E) ifs tt) (he:∀ C s H ex E,PE (cxLC X scope (clOf scope X.env) M C s H ex E) elt te) (hs:∀ x,foldedSetIterable iter X.env x=pure x:=by intro _; rfl)
  (hsw:swapsWith (.ListComp elt [⟨tg,iter,ifs,0⟩] scope pos) (some (.Name y py)) spos.line X.env=pure true:=by rfl)
  (hf:X.fn y=true\/X.env.scope.names.lookup y=some .local:=by first | exact .inl rfl | exact .inr rfl | assumption)
  (h1:closureFor scope X.env=pure (clOf scope X.env):=by with_unfolding_all rfl) (h2:scope.kind=.function:=by rfl) (h3:scope.names.all (fun y=>y.2 != .cell)=true:=by rfl) (h4:scope.names.all (fun y=>y.2 != .local || scope.names.lookup y.1 == some .local)=true:=by rfl)
  (h5:X.N.zipIdx.all (fun y=>S.contains y.2 || scope.names.lookup y.1 != some .local)=true:=by rfl) (h6:scope.names.all (fun p=>p.2 != .free || (((clOf scope X.env).lookup p.1).isSome && (X.env.kindOf p.1 == some .cell || X.env.kindOf p.1 == some .free)))=true:=by rfl) :
  PS X (.Assign [.Name y py] (.ListComp elt [⟨tg,iter,ifs,0⟩] scope pos) spos) (fun D σ H=>tLCS S wi g tt te M.length σ H fun v H1=>D.nx (σ.set i (some v)) H1):=vw hN hi' hy (qU h1 h2 h3 h4 h5 h6) hc hi hg ht he hs hsw hf
end
section
variable {g:TG} {tt:TT} {te:TE} {Q:VK} {σ:St} {H:Hp}
theorem yG {K:ua} {a:Addr} {xs:List V} (Pv:Nat->St->List V->Hp->Prop) (h0:Pv 0 σ [] H) (hl:∀ i τ ys H,i<=xs.length->Pv i τ ys H->SqL K H a xs)
  (hs:∀ i x τ ys H,xs[i]?=some x->Pv i τ ys H->g x τ H fun τ2 H2=>tt τ2 H2 fun b H3=>if b=true then te τ2 H3 fun y H4=>ys.length < sizeLine/\Pv (i + 1) τ2 (ys ++ [y]) H4 else Pv (i + 1) τ2 ys H3)
  (hd:∀ τ ys H,Pv xs.length τ ys H->∀ p,H p=none->Q (.ref p) (upd H p (.lst ys))):∃ W,(∃ m,W 0 m σ [] H)/\lcBy (Itl K a) g tt te Q W:=by
 refine ⟨fun i m τ ys H=>m=xs.length - i/\i<=xs.length/\Pv i τ ys H,⟨xs.length,by simp,u6 _,h0⟩,?_⟩
 rintro i m τ ys H ⟨rfl,hi,p⟩
 have q:=hl i τ ys H hi p
 by_cases hlt:i < xs.length
 ·refine .inr ⟨⟨xs,xs[i],q,by simp [hlt]⟩,Pv (i + 1),fun τ' ys' H' p'=>⟨xs.length - (i + 1),by lia,rfl,hlt,p'⟩,fun x H' y=>?_⟩
  obtain ⟨e,y⟩:=y
  subst e
  exact hs i x τ ys _ (y xs q) p
 ·have e:i=xs.length:=by lia
  subst e
  exact .inl ⟨⟨xs,q,ui _⟩,hd τ ys H p⟩
theorem yz {lo:Int} {n:Nat} (Pv:Nat->St->List V->Hp->Prop) (h0:Pv 0 σ [] H)
  (hs:∀ i τ ys H,i < n->Pv i τ ys H->g (.int (lo + i)) τ H fun τ2 H2=>tt τ2 H2 fun b H3=>if b=true then te τ2 H3 fun y H4=>ys.length < sizeLine/\Pv (i + 1) τ2 (ys ++ [y]) H4 else Pv (i + 1) τ2 ys H3)
  (hd:∀ τ ys H,Pv n τ ys H->∀ p,H p=none->Q (.ref p) (upd H p (.lst ys))):∃ W,(∃ m,W 0 m σ [] H)/\lcBy (Itr lo n) g tt te Q W:=by
 refine ⟨fun i m τ ys H=>m=n - i/\i<=n/\Pv i τ ys H,⟨n,by simp,u6 _,h0⟩,?_⟩
 rintro i m τ ys H ⟨rfl,hi,p⟩
 by_cases hlt:i < n
 ·refine .inr ⟨hlt,Pv (i + 1),fun τ' ys' H' p'=>⟨n - (i + 1),by lia,rfl,hlt,p'⟩,fun x H' y=>?_⟩
  obtain ⟨e,y⟩:=y
  subst e y
  exact hs i τ ys _ hlt p
 ·have e:i=n:=by lia
  subst e
  exact .inl ⟨ui _,hd τ ys H p⟩
end
end L2
namespace L2
open PySem PySem.Spec PyProof.Rows Builtin Builtin.Str
section
variable {X:Cx} {tg:Expr}
theorem xi:∀ l:List (Str × Tok),Vals ((l.map (·.1)).map V.str) (strValues l)
 | []=>.nil
 | (x,t) :: r=>.cons ⟨t,rfl⟩ (xi r)
theorem Xr (x y:Str):(Txt.split x y).length<=x.length + 2:=by
 unfold Txt.split
 split
 ·simp
 ·split
  ·simp
  ·have e1:=StrLaws.occ_length_le x y 0 x.length (x.length + 1)
   rw [length_partsBetween]
   lia
def Wo:V->List V->Hp->VK->Prop:=fun x vs H Q=>∃ z y,x=.str z/\vs=[.str y]/\(y.length == 0)=false/\z.length + 2<=sizeLine/\∀ p,H p=none->Q (.ref p) (upd H p (.lst ((Txt.split z y).map V.str)))
theorem Wp:MtR X "str.split" Wo:=by
 intro pins s σ H x vs v us Q I rx rv h
 obtain ⟨z,y,rfl,rfl,hy,hz,q⟩:=h
 obtain ⟨t,rfl⟩:=rx
 obtain ⟨u,rfl,t',rfl⟩:=rv.one
 have hn:(partsBetween z (occurrences z y 0 z.length (z.length + 1)) y.length).length<=sizeLine:=by
  have e1:=StrLaws.occ_length_le z y 0 z.length (z.length + 1)
  rw [length_partsBetween]; lia
 have hl:((Txt.split z y).map V.str).length<=sizeLine:=by
  have:=Xr z y
  rw [ub]; lia
 have fin:∀ (l:List (Str × Tok)) (k:Nat),l.map (·.1)=Txt.split z y->EP X pins σ Q (.ref s.heap.objs.size) { s with heap:=s.heap.push { cls:=.type "list",data:=.seq (strValues l).toArray },toks:=k }:=fun l k e =>
  ⟨.ref s.heap.objs.size,_,I.lnew (t':=k) (by rw [<- e]; exact xi l) hl,rfl,q _ I.fresh⟩
 cases h1:(decide (z.length < y.length) || decide (strKind z < strKind y))
 ·cases hf:(occurrences z y 0 z.length (z.length + 1)).isEmpty
  ·refine call_meets F.slot_str_split (typeIs_str _ _ _) F.entry_str_split (F.args_str_split_2 _ _) (meets_str_split_sep z y t t' h1 hy hf (by lia) hn) ?_
   show wants (EP X pins σ Q) X.xe _ { s with toks:=_,heap:=s.heap.push { cls:=.type "list",data:=.seq (strsFrom s.toks (partsBetween z (occurrences z y 0 z.length (z.length + 1)) y.length)).toArray } }
   rw [strsFrom_eq]
   exact fin (numbered s.toks _) _ ((numbered_texts _ _).trans ((if_neg (ne_true_of_eq_false h1)).trans (if_neg (ne_true_of_eq_false hf))).symm)
  ·exact call_meets F.slot_str_split (typeIs_str _ _ _) F.entry_str_split (F.args_str_split_2 _ _) (meets_str_split_not_found z y t t' h1 hy hf)
    (fin [(z,t)] s.toks ((if_neg (ne_true_of_eq_false h1)).trans (if_pos hf)).symm)
 ·exact call_meets F.slot_str_split (typeIs_str _ _ _) F.entry_str_split (F.args_str_split_2 _ _) (meets_str_split_cannot_occur z y t t' h1)
   (fin [(z,t)] s.toks (if_pos h1).symm)
theorem ZG:OpR X (binaryOp .Mult) (fun x y H Q=>∃ z n,x=.str z/\y=.int n/\MulOk z n/\Q (.str (Txt.mul z n)) H):=by
 intro pins s σ H x y v u Q I rx ry h
 obtain ⟨z,n,rfl,rfl,ok,q⟩:=h
 obtain ⟨t,rfl⟩:=rx
 obtain ⟨t',rfl⟩:=ry
 exact SB.mul ok fun t'' k=>⟨.str (Txt.mul z n),H,I.tok k,⟨t'',rfl⟩,q⟩
theorem jP:xh X (.builtin "isinstance") (fun xs H Q=>∃ x t T b,xs=[x,.ty T]/\TyOf X.K H x t/\PySem.W.kitOne X.K t (.type T)=some b/\Q (.bl b) H):=by
 intro pins s σ H xs us Q I r h
 obtain ⟨x,t,T,b,rfl,ty,e,q⟩:=h
 obtain ⟨u,u',rfl,rx,ru⟩:=X7 r
 cases ru
 exact Xl I rx ty e fun tk=>⟨.bl b,H,I.tok tk,rfl,q⟩
end
end L2
namespace L2
open PySem PySem.Spec PyProof.Rows
def zJ:Expr->Bool
 | .Starred ..=>true
 | _=>false
theorem zK {e:Expr} {es:List Expr} {env:Env} (h:zJ e=false):starEach (e :: es) env=(false,eval e env) :: starEach es env:=by
 cases e <;> first
  | rfl
  | exact absurd (show true=false from h) (by decide)
theorem yw {env:Env} {pos:Pos}:∀ {es:List Expr},es.all (fun e=>!zJ e)=true->(backTo pos (starEach es env)).any (·.1)=false
 | [],_=>rfl
 | e :: es,h=>by
  rw [List.all_cons,UU] at h
  have h1:zJ e=false:=by simpa using h.1
  rw [zK h1]
  show (false || (backTo pos (starEach es env)).any (·.1))=false
  rw [yw h.2]
  rfl
section
variable {X:Cx} {CX:CXT} {k:Nat} {f C:Addr} {fd:FuncData} {ps:List Str} {sp:Sp} {dvs:List V} {ds:List Value} {E:XK} {x m:Str} {p pos apos:Pos} {e o:Expr} {es:List Expr} {te ta:TE} {t:TA} {id T:String} {r:List V->Hp->VK->Prop}
theorem pa_c (ha:PE X e te) (hr:PA X es t) (h:zJ e=false:=by rfl):PA X (e :: es) (Yi te t):=Jj ha hr (zK h)
theorem zaX (F:FnOk X.prog X.w X.K X.mg X.base CX k f fd ps sp) (hr:Room k X.A) (hg:Gl X x) (hm:X.mg x=some (.ref f)) (hk:uU X.K (.ref f)=true) (hb:Binds X.K fd ps ds) (hd:Vals dvs ds) (hx:yo CX X E)
  (ha:PA X (e :: es) t) (hdb:(x == ("__debug__":Str))=false:=by decide) (h1:zJ e=false:=by rfl) (h2:es.all (fun e=>!zJ e)=true:=by rfl) :
  PE X (.Call (.Name x p) (e :: es) [] pos) (jL sp dvs E t):=Jk F hr hg hm hk hb hd hx ha hdb (zK h1) (yw h2)
theorem QV (hc:xh X (.builtin id) r) (hg:Gl X x) (hm:X.mg x=none) (hv:bootBuiltins x=some (.builtin id)) (ha:PA X (e :: es) t) (hn:x≠"__name__":=by decide) (hdb:(x == ("__debug__":Str))=false:=by decide)
  (h1:zJ e=false:=by rfl) (h2:es.all (fun e=>!zJ e)=true:=by rfl):PE X (.Call (.Name x p) (e :: es) [] pos) (tCB r t):=Wd hc hg hm hv ha hn hdb (zK h1) (yw h2)
theorem Jw (hc:xh X (.type T) r) (hg:Gl X x) (hm:X.mg x=none) (hv:bootBuiltins x=some (.type T)) (ha:PA X (e :: es) t) (hn:x≠"__name__":=by decide) (hdb:(x == ("__debug__":Str))=false:=by decide)
  (h1:zJ e=false:=by rfl) (h2:es.all (fun e=>!zJ e)=true:=by rfl):PE X (.Call (.Name x p) (e :: es) [] pos) (tCB r t):=Xm hc hg hm hv ha hn hdb (zK h1) (yw h2)
end
end L2
namespace L2
open PySem PySem.Spec PyProof.Rows
structure jE (X:Cx) (e:Expr) (t:TE):Prop where
 out:PE X e t
structure jT (X:Cx) (e:Expr) (t:TT):Prop where
 out:PT X e t
structure jW (X:Cx) (e:Expr) (t:TT):Prop where
 out:PW X e t
structure jA (X:Cx) (es:List Expr) (t:TA):Prop where
 out:PA X es t
structure jS (X:Cx) (st:Stmt) (t:TS):Prop where
 out:PS X st t
structure jSs (X:Cx) (sts:List Stmt) (t:TS):Prop where
 out:PSs X sts t
structure jG (X:Cx) (tg:Expr) (t:TG):Prop where
 out:PG X tg t
structure jGs (X:Cx) (tg:List Expr) (t:TGs):Prop where
 out:PGs X tg t
structure jI (X:Cx) (tg iter:Expr) (t:TI):Prop where
 out:PI X tg iter t
structure jO (X:Cx) (e:Option Expr) (t:TO):Prop where
 out:PO X e t
structure jTs (X:Cx) (ifs:List Expr) (t:TT):Prop where
 out:PTs X ifs t
structure jOp (X:Cx) (f:Value->Value->Sem Value) (r:R2):Prop where
 out:OpR X f r
structure jIx (X:Cx) (r:R2):Prop where
 out:IxR X r
structure jSl (X:Cx) (r:V->Option Int->Option Int->Hp->VK->Prop):Prop where
 out:SlR X r
structure jMt (X:Cx) (id:String) (r:V->List V->Hp->VK->Prop):Prop where
 out:MtR X id r
structure jCa (X:Cx) (f:Value) (r:List V->Hp->VK->Prop):Prop where
 out:xh X f r
section
variable {X:Cx} {a b c e o:Expr} {es rest:List Expr} {ta tb tc te to:TE} {t u:TA} {tA tB':TT} {pos p p2 apos cpos px:Pos} {x y m:Str} {op op':CmpOp} {bop:Operator} {r r':R2}
theorem jv (i:Nat) (hN:X.N[i]?=some x:=by rfl) (hv:Vis X.env.scope x:=by first | exact Or.inl rfl | exact Or.inr (Or.inl rfl) | exact Or.inr (Or.inr rfl)) (hd:(x == ("__debug__":Str))=false:=by decide)
  (hcd:(x == ("__classdict__":Str))=false:=by decide):jE X (.Name x pos) (tVar i):=⟨pv i hN hv hd hcd⟩
theorem zh {i j}:jE X (.Constant (.int i) j pos) (tC (.int i)):=⟨Qp⟩
theorem xf {b j}:jE X (.Constant (.bool b) j pos) (tC (.bl b)):=⟨zaL⟩
theorem Wq {j}:jE X (.Constant .none j pos) (tC .non):=⟨Qq⟩
theorem zu {x j}:jE X (.Constant (.str x) j pos) (tC (.str x)):=⟨Qr⟩
theorem yu {v:V} {w:Value} (hg:Gl X x) (hm:X.mg x=none) (hv:bootBuiltins x=some w) (r:RelV v w) (hn:x≠"__name__":=by decide) (hd:(x == ("__debug__":Str))=false:=by decide):jE X (.Name x pos) (tC v):=⟨V5 hg hm hv r hn hd⟩
theorem zF (ho:jOp X (binaryOp bop) r) (ha:jE X a ta) (hb:jE X b tb):jE X (.BinOp a bop b pos) (tOp r ta tb):=⟨zaN ho.out ha.out hb.out⟩
theorem xj (ha:jE X a ta):jE X (.UnaryOp .USub a pos) (tUn (rU fun i=>.int (-i)) ta):=⟨zaO QK ha.out⟩
theorem yH (ho:jOp X (compareOp op) r) (ha:jE X a ta) (hb:jE X b tb) (hm:behindInMarks op b=false):jE X (.Compare a [op] [b] pos) (tOp r ta tb):=⟨Jf ho.out ha.out hb.out hm⟩
theorem zt (ho:jOp X (compareOp op) r) (ha:jE X a ta) (hb:jE X b tb) (hm:behindInMarks op b=false):jT X (.Compare a [op] [b] pos) (qO (tOp r ta tb)):=⟨Jg ho.out ha.out hb.out hm⟩
theorem jQ (ho:jOp X (compareOp op) r) (ho':jOp X (compareOp op') r') (ha:jE X a ta) (hb:jE X b tb) (hc:jE X c tc) (hm:lastMarks [op,op'] [b,c]=false:=by with_unfolding_all rfl):jE X (.Compare a [op,op'] [b,c] pos) (X5 r r' ta tb tc):=⟨X6 ho.out ho'.out ha.out hb.out hc.out hm⟩
theorem ye (h:jE X e te) (he:∀ whole,isTrue e X.env whole=(do let v <- whole; standAt e.pos; holding [v] (truthy v)):=by intro _; rfl):jT X e (tB te):=⟨Qt h.out he⟩
theorem wx (ha:jT X a tA):jW X (.BoolOp .And [a] pos) tA:=⟨pw_and1 ha.out⟩
theorem xH (ha:jT X a tA):jW X (.BoolOp .Or [a] pos) tA:=⟨pw_or1 ha.out⟩
theorem wH (ha:jT X a tA) (hb:jW X (.BoolOp .And (b :: rest) pos) tB'):jW X (.BoolOp .And (a :: b :: rest) pos) (tAnd tA tB'):=⟨pw_and ha.out hb.out⟩
theorem wk (ha:jT X a tA) (hb:jW X (.BoolOp .Or (b :: rest) pos) tB'):jW X (.BoolOp .Or (a :: b :: rest) pos) (tOr tA tB'):=⟨pw_or ha.out hb.out⟩
theorem jW.pt (h:jW X e tA):jT X e tA:=⟨PW.pt h.out⟩
theorem y6 (ha:jT X a tA):jT X (.UnaryOp .Not a pos) (tNot tA):=⟨Qu ha.out⟩
theorem wI {op} (h:jE X a te):jE X (.BoolOp op [a] pos) te:=⟨Qv h.out⟩
theorem wJ (ha:jE X a ta) (hb:jE X (.BoolOp .And (b :: rest) pos) tb):jE X (.BoolOp .And (a :: b :: rest) pos) (qH ta tb):=⟨Qw ha.out hb.out⟩
theorem vV (ha:jE X a ta):jE X (.UnaryOp .Not a pos) (qI ta):=⟨Qx ha.out⟩
theorem yU (hc:jT X c tA) (ha:jE X a ta) (hb:jE X b tb):jE X (.IfExp c a b pos) (tIf tA ta tb):=⟨XZ hc.out ha.out hb.out⟩
theorem zg:jA X [] tNil:=⟨QN⟩
theorem ja_c (ha:jE X e te) (hr:jA X es t) (h:zJ e=false:=by rfl):jA X (e :: es) (Yi te t):=⟨pa_c ha.out hr.out h⟩
theorem zZ (h:jA X es t):jE X (.List es pos) (tLst t):=⟨QP h.out⟩
theorem zB {x1} (h:jA X es t):jE X (.Tuple es x1 pos) (tTup t):=⟨QO h.out⟩
theorem zq (hr:jIx X r) (ha:jE X a ta) (hb:jE X b tb) (hs:Ym b):jE X (.Subscript a b pos) (tOp r ta tb):=⟨zaU hr.out ha.out hb.out hs⟩
theorem xO:jO X none Yk:=⟨Jo⟩
theorem xP (h:jE X e te):jO X (some e) (qR te):=⟨Jp h.out⟩
theorem xk {r:V->Option Int->Option Int->Hp->VK->Prop} {lo hi:Option Expr} {tl th:TO} (hr:jSl X r) (he:jE X e te) (hl:jO X lo tl) (hu:jO X hi th):jE X (.Subscript e (.Slice lo hi none p2) pos) (tSl r te tl th):=⟨We hr.out he.out hl.out hu.out⟩
variable {CX:CXT} {k:Nat} {f C:Addr} {fd:FuncData} {ps:List Str} {sp:Sp} {dvs:List V} {ds:List Value} {E:XK} {id T:String} {rc:List V->Hp->VK->Prop} {rm:V->List V->Hp->VK->Prop}
theorem qV (F:FnOk X.prog X.w X.K X.mg X.base CX k f fd ps sp) (hr:Room k X.A) (hg:Gl X x) (hm:X.mg x=some (.ref f)) (hk:uU X.K (.ref f)=true) (hb:Binds X.K fd ps ds) (hd:Vals dvs ds) (hx:yo CX X E)
  (ha:jA X (e :: es) t) (hdb:(x == ("__debug__":Str))=false:=by decide) (h1:zJ e=false:=by rfl) (h2:es.all (fun e=>!zJ e)=true:=by rfl) :
  jE X (.Call (.Name x p) (e :: es) [] pos) (jL sp dvs E t):=⟨zaX F hr hg hm hk hb hd hx ha.out hdb h1 h2⟩
theorem zG (hc:jCa X (.builtin id) rc) (hg:Gl X x) (hm:X.mg x=none) (hv:bootBuiltins x=some (.builtin id)) (ha:jA X (e :: es) t) (hn:x≠"__name__":=by decide) (hdb:(x == ("__debug__":Str))=false:=by decide)
  (h1:zJ e=false:=by rfl) (h2:es.all (fun e=>!zJ e)=true:=by rfl):jE X (.Call (.Name x p) (e :: es) [] pos) (tCB rc t):=⟨QV hc.out hg hm hv ha.out hn hdb h1 h2⟩
theorem yh (hc:jCa X (.type T) rc) (hg:Gl X x) (hm:X.mg x=none) (hv:bootBuiltins x=some (.type T)) (ha:jA X (e :: es) t) (hn:x≠"__name__":=by decide) (hdb:(x == ("__debug__":Str))=false:=by decide)
  (h1:zJ e=false:=by rfl) (h2:es.all (fun e=>!zJ e)=true:=by rfl):jE X (.Call (.Name x p) (e :: es) [] pos) (tCB rc t):=⟨Jw hc.out hg hm hv ha.out hn hdb h1 h2⟩
theorem ZH {name:Str} (pa:PlainAttrs T) (slot:Slot T name id) (hty:typeOf (.builtin id)=pure (.type "method_descriptor")) (hm:jMt X id rm) (ho:jE X o to)
  (hbase:attributeBase o name X.env (eval o X.env)=eval o X.env:=by rfl) (hline:(apos.endLine == cpos.line)=true:=by rfl):jE X (.Call (.Attribute o name apos) [] [] cpos) (tBM0 X.K T rm to):=⟨QS pa slot hty hm.out ho.out hbase hline⟩
theorem xl {name:Str} (pa:PlainAttrs T) (slot:Slot T name id) (hty:typeOf (.builtin id)=pure (.type "method_descriptor")) (hm:jMt X id rm) (ho:jE X o to) (ha:jA X (e :: es) t)
  (hbase:attributeBase o name X.env (eval o X.env)=eval o X.env:=by rfl)
  (hfew:((backTo cpos (starEach (e :: es) X.env)).all (fun x=>!x.1) && (backToKw cpos (keywordEach [] X.env)).all (fun x=>x.1.isSome)
   && decide ((e :: es).length + ([]:List Keyword).length + (if ([]:List Keyword).isEmpty then 0 else 1) < 30))=true:=by rfl)
  (hline:(apos.endLine == cpos.line)=true:=by rfl) (h1:zJ e=false:=by rfl) (h2:es.all (fun e=>!zJ e)=true:=by rfl) :
  jE X (.Call (.Attribute o name apos) (e :: es) [] cpos) (tBM X.K T rm to t):=⟨zaV pa slot hty hm.out ho.out ha.out hbase hfew hline (zK h1) (yw h2)⟩
variable {st:Stmt} {sts:List Stmt} {s1 s2:TS} {tg iter elt:Expr} {g:TG} {wi:TI} {tb1:TS} {ifs:List Expr} {tt:TT}
theorem zA:jSs X [] Yc:=⟨V6⟩
theorem zi (h1:jS X st s1) (h2:jSs X sts s2):jSs X (st :: sts) (tSeq s1 s2):=⟨X0 h1.out h2.out⟩
theorem zk (h1:jS X st s1):jSs X [st] s1:=⟨V7 h1.out⟩
theorem zU (he:jE X e te) (hs:swapsWith e none pos.line X.env=pure false:=by rfl):jS X (.Expr e pos) (qJ te):=⟨V8 he.out hs⟩
theorem zx (he:jE X e te):jS X (.Return (some e) pos) (tRet te):=⟨Qy he.out⟩
theorem Jx:jS X (.Return none pos) qK:=⟨V9⟩
theorem zH {A B:List Stmt} (hc:jT X c tA) (ha:jSs X A s1) (hb:jSs X B s2):jS X (.If c A B pos) (tIfS tA s1 s2):=⟨zaM hc.out ha.out hb.out⟩
theorem zv {i:Nat} {pos':Pos} (hN:X.N.Nodup) (hi:X.N[i]?=some x) (hx:Loc X.env.scope x) (he:jE X e te) (hs:swapsWith e (some (.Name x pos')) pos.line X.env=pure false:=by rfl)
  (hf:X.fn x=true\/X.env.scope.names.lookup x=some .local:=by first | exact .inl rfl | exact .inr rfl | assumption):jS X (.Assign [.Name x pos'] e pos) (tAsg te (Yd i)):=⟨QC hN hi hx he.out hs hf⟩
theorem x6 (he:jE X e te) (hg:jG X tg g) (hs:swapsWithSole [tg] e pos.line X.env=pure false:=by rfl) (hw:swappedStores [tg] e X.env=pure none:=by rfl) (h1:(assignEach [tg] X.env).map (·.2)=[assign tg X.env]:=by rfl):jS X (.Assign [tg] e pos) (tAsg te g):=⟨QB he.out hg.out hs hw h1⟩
theorem zD {i:Nat} (hN:X.N.Nodup) (hi:X.N[i]?=some x) (hx:Loc X.env.scope x) (hf:X.fn x=true\/X.env.scope.names.lookup x=some .local:=by first | exact .inl rfl | exact .inr rfl | assumption):jG X (.Name x pos) (Yd i):=⟨Ja hN hi hx hf⟩
theorem yI:jGs X [] gNil:=⟨Jb⟩
theorem zO {g:TG} {gs:TGs} (h1:jG X e g) (h2:jGs X es gs) (hs:(assignEach (e :: es) X.env).map (·.2)=assign e X.env :: (assignEach es X.env).map (·.2):=by rfl):jGs X (e :: es) (qL g gs):=⟨X1 h1.out h2.out hs⟩
theorem xI {k:Nat} {gs:TGs} {n:Nat} (hc:X.calm=true) (h:jGs X es gs) (hn:(assignEach es X.env).length=n:=by rfl) (hst:(assignEach es X.env).findIdx? (·.1)=none:=by rfl):jG X (.Tuple es k pos) (gTup X.K n gs):=⟨Qz hc h.out hn hst⟩
theorem yx {l:Expr} {tl:TE} (hl:jE X l tl):jI X tg l (qM X.K tl):=⟨Jc hl.out⟩
theorem xJ {l:Expr} {tl:TE} (hl:jE X l tl):jI X tg l (iTup X.K tl):=⟨QD hl.out⟩
theorem yn (hg:Gl X "range") (hm:X.mg "range"=none) (ha:jA X [a] t) (h:zJ a=false:=by rfl):jI X tg (.Call (.Name "range" p) [a] [] pos) (qN t):=⟨Xh hg hm ha.out (zK h)⟩
theorem yE (hp:PassesOwn (model X.prog X.w) X.A X.env X.xe) (hc:X.calm=true) (hi:jI X tg iter wi) (hg:jG X tg g) (hb:jSs X sts tb1) (hs:∀ x,foldedSetIterable iter X.env x=pure x:=by intro _; rfl):jS X (.For tg iter sts [] pos) (tFor wi g tb1):=⟨QE hp hc hi.out hg.out hb.out hs⟩
theorem wK (hp:PassesOwn (model X.prog X.w) X.A X.env X.xe) (hc:jT X c tA) (hb:jSs X sts tb1):jS X (.While c sts [] pos) (vN tA tb1):=⟨X2 hp hc.out hb.out⟩
theorem ya:jTs X [] tYes:=⟨Js⟩
theorem wy (h:jT X c tA):jTs X [c] tA:=⟨Jt h.out⟩
theorem yA {scope:Scope} (M:List Str) (hc:X.calm=true) (hi:jI X tg iter wi) (hg:∀ C s H ex E,jG (cxLC X scope (clOf scope X.env) M C s H ex E) tg g) (ht:∀ C s H ex E,jTs (cxLC X scope (clOf scope X.env) M C s H ex E) ifs tt)
  (he:∀ C s H ex E,jE (cxLC X scope (clOf scope X.env) M C s H ex E) elt te) (hs:∀ x,foldedSetIterable iter X.env x=pure x:=by intro _; rfl)
  (h1:closureFor scope X.env=pure (clOf scope X.env):=by with_unfolding_all rfl) (h2:scope.kind=.function:=by rfl) (h3:scope.names.all (fun y=>y.2 != .cell)=true:=by rfl) (h4:scope.names.all (fun y=>y.2 != .local || scope.names.lookup y.1 == some .local)=true:=by rfl)
  (h5:X.N.all (fun y=>scope.names.lookup y != some .local)=true:=by rfl) (h6:scope.names.all (fun p=>p.2 != .free || (((clOf scope X.env).lookup p.1).isSome && (X.env.kindOf p.1 == some .cell || X.env.kindOf p.1 == some .free)))=true:=by rfl) :
  jE X (.ListComp elt [⟨tg,iter,ifs,0⟩] scope pos) (tLC wi g tt te M.length):=⟨Ju M hc hi.out (fun C s H ex E=>(hg C s H ex E).out) (fun C s H ex E=>(ht C s H ex E).out) (fun C s H ex E=>(he C s H ex E).out) hs h1 h2 h3 h4 h5 h6⟩
theorem y7 {scope:Scope} (M:List Str) {i:Nat} {py spos:Pos} (hN:X.N.Nodup) (hi':X.N[i]?=some y) (hy:Loc X.env.scope y) (hc:X.calm=true) (hi:jI X tg iter wi) (hg:∀ C s H ex E,jG (cxLC X scope (clOf scope X.env) M C s H ex E) tg g)
  (ht:∀ C s H ex E,jTs (cxLC X scope (clOf scope X.env) M C s H ex E) ifs tt) (he:∀ C s H ex E,jE (cxLC X scope (clOf scope X.env) M C s H ex E) elt te) (hs:∀ x,foldedSetIterable iter X.env x=pure x:=by intro _; rfl)
  (hsw:swapsWith (.ListComp elt [⟨tg,iter,ifs,0⟩] scope pos) (some (.Name y py)) spos.line X.env=pure true:=by rfl)
  (hf:X.fn y=true\/X.env.scope.names.lookup y=some .local:=by first | exact .inl rfl | exact .inr rfl | assumption)
  (h1:closureFor scope X.env=pure (clOf scope X.env):=by with_unfolding_all rfl) (h2:scope.kind=.function:=by rfl) (h3:scope.names.all (fun y=>y.2 != .cell)=true:=by rfl) (h4:scope.names.all (fun y=>y.2 != .local || scope.names.lookup y.1 == some .local)=true:=by rfl)
  (h5:X.N.all (fun y=>scope.names.lookup y != some .local)=true:=by rfl) (h6:scope.names.all (fun p=>p.2 != .free || (((clOf scope X.env).lookup p.1).isSome && (X.env.kindOf p.1 == some .cell || X.env.kindOf p.1 == some .free)))=true:=by rfl) :
  jS X (.Assign [.Name y py] (.ListComp elt [⟨tg,iter,ifs,0⟩] scope pos) spos) (fun D σ H=>tLC wi g tt te M.length σ H fun v H1=>D.nx (σ.set i (some v)) H1) :=
 ⟨Jv M hN hi' hy hc hi.out (fun C s H ex E=>(hg C s H ex E).out) (fun C s H ex E=>(ht C s H ex E).out) (fun C s H ex E=>(he C s H ex E).out) hs hsw hf h1 h2 h3 h4 h5 h6⟩
theorem wL {scope:Scope} (S:List Nat) (M:List Str) {i:Nat} {py spos:Pos} (hN:X.N.Nodup) (hi':X.N[i]?=some y) (hy:Loc X.env.scope y) (hc:X.calm=true) (hi:jI X tg iter wi) (hg:∀ C s H ex E,jG (cxLC X scope (clOf scope X.env) M C s H ex E) tg g)
  (ht:∀ C s H ex E,jTs (cxLC X scope (clOf scope X.env) M C s H ex E) ifs tt) (he:∀ C s H ex E,jE (cxLC X scope (clOf scope X.env) M C s H ex E) elt te) (hs:∀ x,foldedSetIterable iter X.env x=pure x:=by intro _; rfl)
  (hsw:swapsWith (.ListComp elt [⟨tg,iter,ifs,0⟩] scope pos) (some (.Name y py)) spos.line X.env=pure true:=by rfl)
  (hf:X.fn y=true\/X.env.scope.names.lookup y=some .local:=by first | exact .inl rfl | exact .inr rfl | assumption)
  (h1:closureFor scope X.env=pure (clOf scope X.env):=by with_unfolding_all rfl) (h2:scope.kind=.function:=by rfl) (h3:scope.names.all (fun y=>y.2 != .cell)=true:=by rfl) (h4:scope.names.all (fun y=>y.2 != .local || scope.names.lookup y.1 == some .local)=true:=by rfl)
  (h5:X.N.zipIdx.all (fun y=>S.contains y.2 || scope.names.lookup y.1 != some .local)=true:=by rfl) (h6:scope.names.all (fun p=>p.2 != .free || (((clOf scope X.env).lookup p.1).isSome && (X.env.kindOf p.1 == some .cell || X.env.kindOf p.1 == some .free)))=true:=by rfl) :
  jS X (.Assign [.Name y py] (.ListComp elt [⟨tg,iter,ifs,0⟩] scope pos) spos) (fun D σ H=>tLCS S wi g tt te M.length σ H fun v H1=>D.nx (σ.set i (some v)) H1) :=
 ⟨Wm S M hN hi' hy hc hi.out (fun C s H ex E=>(hg C s H ex E).out) (fun C s H ex E=>(ht C s H ex E).out) (fun C s H ex E=>(he C s H ex E).out) hs hsw hf h1 h2 h3 h4 h5 h6⟩
theorem yr:jOp X (binaryOp .Add) (rI0 fun i j=>.int (i + j)):=⟨QF⟩
theorem yS:jOp X (binaryOp .Sub) (rI0 fun i j=>.int (i - j)):=⟨QG⟩
theorem vW:jOp X (binaryOp .Mult) (rI CMul fun i j=>.int (i * j)):=⟨QH⟩
theorem Yq:jOp X (binaryOp .FloorDiv) (rI CDiv fun i j=>.int (i / j)):=⟨Jd⟩
theorem yT:jOp X (binaryOp .Mod) (rI (fun _ j=>0 < j) fun i j=>.int (i % j)):=⟨QI⟩
theorem x8:jOp X (binaryOp .Pow) (rI CPow fun i j=>.int (i ^ j.toNat)):=⟨QJ⟩
theorem zL:jOp X (compareOp .Eq) rEq:=⟨zaP⟩
theorem xQ:jOp X (compareOp .NotEq) rNe:=⟨zaQ⟩
theorem wm:jOp X (compareOp .Lt) (rI0 fun i j=>.bl (decide (i < j))):=⟨zaR⟩
theorem jR:jOp X (compareOp .Gt) (rI0 fun i j=>.bl (decide (j < i))):=⟨zaS⟩
theorem qW:jOp X (compareOp .GtE) (rI0 fun i j=>.bl (decide (j<=i))):=⟨zaT⟩
theorem Xs:jOp X (compareOp .In) (rIn X.K false):=⟨Xn⟩
theorem yi:jOp X (binaryOp .Add) (fun x y H Q=>∃ i j,x=.str i/\y=.str j/\i.length + j.length<=sizeLine/\Q (.str (i ++ j)) H):=⟨Zy⟩
theorem wM:jOp X (binaryOp .Mult) (fun x y H Q=>∃ z n,x=.str z/\y=.int n/\MulOk z n/\Q (.str (Txt.mul z n)) H):=⟨ZG⟩
theorem ZI:jOp X (binaryOp .Add) rCat:=⟨QU⟩
theorem zE:jIx X (rIxL X.K):=⟨Jq⟩
theorem zr:jIx X (rIxT X.K):=⟨QQ⟩
theorem ZJ:jIx X rIxS:=⟨QR⟩
theorem xR:jSl X (rSlL X.K):=⟨Jr⟩
theorem Wr:jMt X "str.split" Wo:=⟨Wp⟩
theorem yy:jMt X "list.append" Yn:=⟨Xo⟩
theorem ZK:jMt X "list.pop" rPop:=⟨QT⟩
theorem zz:jCa X (.builtin "len") (fun xs H Q=>∃ p ys,xs=[.ref p]/\(SqL X.K H p ys\/SqT X.K H p ys)/\Q (.int ys.length) H):=⟨vT⟩
theorem zY:jCa X (.builtin "isinstance") (fun xs H Q=>∃ x t T b,xs=[x,.ty T]/\TyOf X.K H x t/\PySem.W.kitOne X.K t (.type T)=some b/\Q (.bl b) H):=⟨jP⟩
theorem ZL:jCa X (.type "str") (fun xs H Q=>∃ i,xs=[.int i]/\i.natAbs.log2 < 1920/\Q (.str (toString i)) H):=⟨vO⟩
theorem zR:jCa X (.type "tuple") (fun xs H Q=>∃ p ys,xs=[.ref p]/\((SqL X.K H p ys/\∀ l,H l=none->Q (.ref l) (upd H l (.tup ys)))\/(SqT X.K H p ys/\Q (.ref p) H))):=⟨ve⟩
theorem wN:jCa X (.type "list") (fun xs H Q=>∃ p ys,xs=[.ref p]/\(SqL X.K H p ys\/SqT X.K H p ys)/\∀ l,H l=none->Q (.ref l) (upd H l (.lst ys))):=⟨vU⟩
end
section
variable {P:Program} {w:World} {K:ua} {mg:Str->Option Value} {base:Heap}
theorem Fun.by {x qual:Str} {st:Stmt} {f:Addr} {fd:FuncData} {N ps:List Str} {k:Nat} {sp:Sp} (F:Fun K x qual st f fd) (S:FnScope N ps (zp st)) (len:∀ vs H Q E,sp vs H Q E->vs.length=ps.length)
  (hbody:∀ (cdv:Value) (A:Around) (outer:List Env) (s:Shared) (H:Hp) (vs:List V) (Q:VK) (E:XK),Room k (A.deeper (envOfC qual (zp st) s.heap.objs.size f cdv))->sp vs H Q E ->
   ∃ t,jSs (cxOf CX0 P w K mg base N qual (zp st) f cdv A outer s H E).nox (zN st) t/\t { nx:=fun _ H'=>Q .non H',rt:=Q } (start N vs) H):FnOk P w K mg base CX0 (k + 1) f fd ps sp :=
 F.ok S len fun cdv A outer s H vs Q E hr h=>let ⟨t,b,q⟩:=hbody cdv A outer s H vs Q E hr h; ⟨t,b.out,q⟩
end
end L2
namespace L2
open PySem
structure Mv (fs xs:List Addr) (h h':Heap):Prop where
 keep:∀ b o,h.get? b=some o->b ∉ fs->b ∉ xs->h'.get? b=some o
 slot:∀ b o,h.get? b=some o->b ∉ xs->∃ sl,h'.get? b=some { o with slots:=sl }
 there:∀ b o,h.get? b=some o->∃ o',h'.get? b=some o'
theorem Mv.trans {fs xs:List Addr} {h h1 h2:Heap} (a:Mv fs xs h h1) (b:Mv fs xs h1 h2):Mv fs xs h h2 :=
 ⟨fun c o e f x=>b.keep c o (a.keep c o e f x) f x,fun c o e x=>let ⟨_,e1⟩:=a.slot c o e x; let ⟨sl,e2⟩:=b.slot c _ e1 x; ⟨sl,e2⟩,fun c o e=>let ⟨o1,e1⟩:=a.there c o e; b.there c o1 e1⟩
theorem Mv.mono {fs fs' xs xs':List Addr} {h h1:Heap} (a:Mv fs xs h h1) (hf:∀ b∈fs,b∈fs') (hx:∀ b∈xs,b∈xs'):Mv fs' xs' h h1 :=
 ⟨fun c o e f x=>a.keep c o e (fun z=>f (hf c z)) fun z=>x (hx c z),fun c o e x=>a.slot c o e fun z=>x (hx c z),a.there⟩
structure Tr (h:Heap) (e:Addr) (C:Value) (dx:Option Addr) (T:Addr) (fl:Value):Prop where
 ex:∃ oe vs,h.get? e=some oe/\oe.cls=C/\oe.dict=dx/\oe.data=.fields vs/\vs[1]?=some (.ref T)/\vs[2]?=some .none
 tb:∃ ot ts,h.get? T=some ot/\ot.data=.fields ts/\ts[3]?=some fl
 ne:T≠e
theorem xm (f:Array Value->Array Value) (o:Obj):(Obj.mapFields f o).dict=o.dict:=by
 unfold Obj.mapFields
 split <;> rfl
theorem ZM {h base:Heap} {l:List Env} (hl:h.FunFrames base l) {e:Addr} {oe:Obj} {vs:Array Value} (he:h.get? e=some oe) (hd:oe.data=.fields vs):e ∉ l.filterMap (·.frame):=fun z=>by
 obtain ⟨_,o,ho,nf⟩:=hl.mem z
 rw [he] at ho
 cases ho
 exact nf vs hd
section
variable {M:Model} {A:Around} {E:Value->Shared->Prop} {s:Shared} {base:Heap} {env:Env} {outer:List Env} {L e T:Addr} {C:Value} {dx:Option Addr} {Q:Unit->Shared->Prop}
theorem vx {oe:Obj} {vs:Array Value} {head:Value} {had:Bool} (hfr:A.frames=some (env :: outer)) (hl:s.heap.FunFrames base (env :: outer)) (hf:env.frame=some L)
  (he:s.heap.get? e=some oe) (hd:oe.data=.fields vs) (hsz:1 < vs.size) (hz2:vs[2]?=some .none)
  (hq:∀ h' T,s.heap.objs.size<=T->Tr h' e oe.cls oe.dict T (rawInt L)->Mv ((env :: outer).filterMap (·.frame)) [e] s.heap h'->Q () { s with heap:=h' }) :
  wpAny M A (do let a <- frameOf env; let pl <- entryPlaceOf L had; let b <- EntryCells.newEntry head a .none (rawInt L) .none pl; setField (.ref e) 1 b) Q E s:=by
 have nf:=ZM hl he hd
 refine wpAny_bind (wpAny_frameOf_fun hfr hl hf fun h1 s1=>wpAny_bind (wpAny_entryPlaceOf fun pl hp=>?_))
 unfold EntryCells.newEntry newFields
 refine wpAny_bind (wpAny_newObj_type ?_ (by exact hp.sizeOk5 _ _ _ _ _))
 have e1:h1.get? e=some oe:=(s1.2.1 e nf).trans he
 have ne:h1.objs.size≠e:=UI (um e1)
 generalize ho:({ cls:=.type "traceback",dict:=none,data:=.fields ([head,.ref L,.none,rawInt L,.none] ++ (if pl.isEmpty then Ut 6 Value.none else pl)).toArray }:Obj)=ob
 have t3:∃ ts,ob.data=.fields ts/\ts[3]?=some (rawInt L):=by
  subst ho
  refine ⟨_,rfl,?_⟩
  simp
 have fr:ob.isFreed=false:=by
  obtain ⟨ts,q,_⟩:=t3
  exact Obj.isFreed_of_fields q
 have e2:=uc (h:=h1) ob e1
 refine wpAny_setField e2 hd hsz (hq _ h1.objs.size (Nat.le_of_eq s1.1.symm) ⟨?_,?_,ne⟩ ⟨fun b o q f x=>?_,fun b o q x=>?_,fun b o q=>?_⟩)
 ·exact ⟨_,_,u0 _ e2 (Obj.isFreed_of_fields (Obj.data_mapFields hd _)),Obj.cls_mapFields _ _,xm _ _,Obj.data_mapFields hd _,by simp [hsz],by simp [hz2]⟩
 ·obtain ⟨ts,q1,q2⟩:=t3
  exact ⟨ob,ts,(uI _ _ (Ne.symm ne)).trans (uw _ fr),q1,q2⟩
 ·rw [uI _ _ (fun z=>x (by simp [z]))]
  exact uc _ ((s1.2.1 b f).trans q)
 ·obtain ⟨sl,q1⟩:=s1.2.2 b o q
  exact ⟨sl,by rw [uI _ _ (fun z=>x (by simp [z]))]; exact uc _ q1⟩
 ·obtain ⟨sl,q1⟩:=s1.2.2 b o q
  by_cases z:b=e
  ·subst z
   exact ⟨_,u0 _ e2 (Obj.isFreed_of_fields (Obj.data_mapFields hd _))⟩
  ·exact ⟨_,by rw [uI _ _ (Ne.symm z)]; exact uc _ q1⟩
theorem vy {oe:Obj} {vs:Array Value} (hfr:A.frames=some (env :: outer)) (hl:s.heap.FunFrames base (env :: outer)) (hf:env.frame=some L)
  (he:s.heap.get? e=some oe) (hd:oe.data=.fields vs) (h1:vs[1]?=some .none) (hz2:vs[2]?=some .none)
  (hq:∀ h' T,s.heap.objs.size<=T->Tr h' e oe.cls oe.dict T (rawInt L)->Mv ((env :: outer).filterMap (·.frame)) [e] s.heap h'->Q () { s with heap:=h' }) :
  wpAny M A (noteFrame (.ref e) env) Q E s:=by
 unfold noteFrame
 simp only [hf]
 refine wpAny_bind (wpAny_field he hd h1 ?_)
 rw [if_neg (by decide:¬ ((Value.none != Value.none)=true))]
 exact vx hfr hl hf he hd (Array.getElem?_eq_some_iff.mp h1).1 hz2 hq
theorem wz {fl:Value} {v:Option Addr} (t:Tr s.heap e C dx T fl) (hq:∀ h',Tr h' e C dx T (v.elim .none fun f=>rawInt f)->Mv [] [T] s.heap h'->Q () { s with heap:=h' }) :
  wpAny M A (setFlight (.ref e) v) Q E s:=by
 obtain ⟨⟨oe,vs,he,hc,hx,hd,h1,hz2⟩,⟨ot,ts,ht,hdt,h3⟩,ne⟩:=t
 unfold setFlight
 refine wpAny_bind (wpAny_field he hd h1 ?_)
 rw [if_pos (by simp:(Value.ref T != Value.none)=true)]
 have up:=u0 (Obj.mapFields (·.setIfInBounds 3 (v.elim .none fun f=>rawInt f))) ht (Obj.isFreed_of_fields (Obj.data_mapFields hdt _))
 refine wpAny_setField ht hdt (Array.getElem?_eq_some_iff.mp h3).1 (hq _ ⟨⟨oe,vs,(uI _ _ ne).trans he,hc,hx,hd,h1,hz2⟩,⟨_,_,up,Obj.data_mapFields hdt _,?_⟩,ne⟩ ⟨fun b o q _ x=>?_,fun b o q x=>⟨o.slots,?_⟩,fun b o q=>?_⟩)
 ·simp [(Array.getElem?_eq_some_iff.mp h3).1]
 ·exact (uI _ _ (fun z=>x (by simp [z]))).trans q
 ·exact (uI _ _ (fun z=>x (by simp [z]))).trans q
 ·by_cases z:b=T
  ·subst z
   exact ⟨_,up⟩
  ·exact ⟨o,(uI _ _ (Ne.symm z)).trans q⟩
theorem jU (hfr:A.frames=some (env :: outer)) (hl:s.heap.FunFrames base (env :: outer)) (hf:env.frame=some L) (t:Tr s.heap e C dx T .none)
  (hq:∀ h' T',s.heap.objs.size<=T'->Tr h' e C dx T' (rawInt L)->Mv ((env :: outer).filterMap (·.frame)) [e,T] s.heap h'->Q () { s with heap:=h' }) :
  wpAny M A (noteFrame (.ref e) env) Q E s:=by
 obtain ⟨⟨oe,vs,he,hc,hx,hd,h1,hz2⟩,⟨ot,ts,ht,hdt,h3⟩,ne⟩:=t
 subst hc
 subst hx
 unfold noteFrame
 simp only [hf]
 refine wpAny_bind (wpAny_field he hd h1 ?_)
 rw [if_pos (by simp:(Value.ref T != Value.none)=true)]
 refine wpAny_bind (wpAny_field ht hdt h3 ?_)
 rw [if_neg (by simp [rawInt]:¬ ((Value.none == rawInt L)=true))]
 have up:=u0 (Obj.mapFields (·.setIfInBounds 3 .none)) ht (Obj.isFreed_of_fields (Obj.data_mapFields hdt _))
 have k:∀ b o,b≠T->s.heap.get? b=some o->(s.heap.update T (Obj.mapFields (·.setIfInBounds 3 .none))).get? b=some o:=fun b o z q=>(uI _ _ (Ne.symm z)).trans q
 refine wpAny_bind (wpAny_setField ht hdt (Array.getElem?_eq_some_iff.mp h3).1 ?_)
 refine vx (base:=base) hfr (hl.of_keeps fun b o q nf=>⟨o,k b o (fun z=>?_) q,rfl⟩) hf (k e oe (Ne.symm ne) he) hd (Array.getElem?_eq_some_iff.mp h1).1 hz2 fun h' T' hs t m=>hq h' T' ?_ t ⟨fun b o q f x=>?_,fun b o q x=>?_,fun b o q=>?_⟩
 ·rw [z,ht] at q
  cases q
  exact nf ts hdt
 ·rw [Heap.size_after_update] at hs
  exact hs
 ·exact m.keep b o (k b o (fun z=>x (by simp [z])) q) f fun z=>x (by simp at z; simp [z])
 ·exact m.slot b o (k b o (fun z=>x (by simp [z])) q) fun z=>x (by simp at z; simp [z])
 ·by_cases z:b=T
  ·subst z
   exact m.there b _ up
  ·exact m.there b o (k b o z q)
end
end L2
namespace L2
open PySem PySem.Spec PyProof.Rows
theorem HOk.moved {P:Program} {w:World} {H:Hp} {h h':Heap} {fs xs:List Addr} (x:HOk P w H h) (m:Mv fs xs h h') (hf:∀ b∈fs,H b=none) (hx:∀ b∈xs,H b=none):HOk P w H h':=fun a o e =>
 (x a o e).stay (fun b u hb q=>m.keep b u q (fun z=>by
   have n:=hf b z
   rcases hb with r | r
   ·rw [r,e] at n
    cases n
   ·rw [r] at n
    cases n) fun z=>by
   have n:=hx b z
   rcases hb with r | r
   ·rw [r,e] at n
    cases n
   ·rw [r] at n
    cases n) (fun _ q=>q) fun _ _ q=>q
def CXf (P:Program) (w:World):CXT:=fun outer H s E u s'=>∃ (e T:Addr) (C:Value) (dx:Option Addr) (H':Hp),u=.ref e/\s'.os=s.os/\AllBare s'.gens/\Un (frs outer) [] H H' s.heap s'.heap/\HOk P w H' s'.heap /\
 Tr s'.heap e C dx T .none/\(s.heap.objs.size<=e/\s.heap.objs.size<=T)/\(H' e=none/\H' T=none)/\E C dx H'
def Fl (h:Heap) (H:Hp) (n:Nat) (e:Addr) (C:Value) (dx:Option Addr):Prop :=
 (∃ oe vs,h.get? e=some oe/\oe.cls=C/\oe.dict=dx/\oe.data=.fields vs/\vs[1]?=some .none/\vs[2]?=some .none)\/∃ T,Tr h e C dx T .none/\H T=none/\n<=T
def Air (X:Cx) (pins:List (Addr × Obj)) (σ:St) (E:XK) (u:Value) (s':Shared):Prop:=∃ (e:Addr) (C:Value) (dx:Option Addr) (H':Hp) (n:Nat),u=.ref e/\Inv X pins σ H' s'/\H' e=none/\X.s₀.heap.objs.size<=n/\n<=e/\(∀ p∈X.pn ++ pins,p.1 < n)/\Fl s'.heap H' n e C dx/\E C dx H'
section
variable {P:Program} {w:World} {K:ua} {mg:Str->Option Value} {base:Heap} {N:List Str} {qual:Str} {scope:Scope} {f:Addr} {cd:Value} {A:Around} {outer:List Env} {s:Shared} {H:Hp} {E:XK}
theorem vz {pins:List (Addr × Obj)} {σ:St} {u:Value} {s':Shared} (h:Air (cxOf (CXf P w) P w K mg base N qual scope f cd A outer s H E) pins σ E u s'):(cxOf (CXf P w) P w K mg base N qual scope f cd A outer s H E).xe u s':=by
 obtain ⟨e,C,dx,H',n,rfl,I,ne,hn,he,hp,st,hE⟩:=h
 have fin:∀ (h2:Heap) (T:Addr) (xs:List Addr),Tr h2 e C dx T .none->Mv (frs (cxOf (CXf P w) P w K mg base N qual scope f cd A outer s H E).stack) xs s'.heap h2->(∀ b∈xs,H' b=none/\s.heap.objs.size<=b)->H' T=none->s.heap.objs.size<=T ->
   CXf P w outer H s E (.ref e) { s' with heap:=h2 }:=by
  intro h2 T xs t m hx nT sT
  have nst:∀ (b:Addr) (o:Obj),s.heap.get? b=some o->b ∉ frs outer->b ∉ frs (cxOf (CXf P w) P w K mg base N qual scope f cd A outer s H E).stack:=fun b o q nb z=>by
   rcases uq.mp (I.stkSub b z) with r | r
   ·exact absurd (show b=(cxOf (CXf P w) P w K mg base N qual scope f cd A outer s H E).env.locals from r) (uQ (ux (um q) I.ok.above))
   ·exact nb r
  have nx:∀ (b:Addr) (o:Obj),s.heap.get? b=some o->b ∉ xs:=fun b o q z=>absurd (ux (um q) (hx b z).2) (Us _)
  have B:Un (frs outer) [] H H' s.heap s'.heap:=I.base
  refine ⟨e,T,C,dx,H',rfl,I.os,I.bare,⟨fun b o q n hb hx=>?_,fun b o q n hb hx=>?_,B.free,fun b o q hx=>?_,B.tups,B.frzs,B.tbls⟩,I.hok.moved m I.stkFree fun b hb=>(hx b hb).1,t,⟨uX hn he,sT⟩,⟨ne,nT⟩,hE⟩
  ·exact m.keep b o (B.keep b o q n hb hx) (nst b o q hb) (nx b o q)
  ·obtain ⟨sl,q1⟩:=B.slot b o q n hb hx
   obtain ⟨sl2,q2⟩:=m.slot b _ q1 (nx b o q)
   exact ⟨sl2,q2⟩
  ·obtain ⟨o1,q1⟩:=B.there b o q hx
   exact m.there b o1 q1
 show wpAny (model P w) _ (leaving _ (.ref e)) _ _ s'
 unfold leaving
 rcases st with ⟨oe,vs,h1,rfl,rfl,h4,h5,h6⟩ | ⟨T0,t0,n0,s0⟩
 ·refine wpAny_bind (vy I.ok.frames I.stack rfl h1 h4 h5 h6 fun h' T hs t m=>wz t fun h2 t2 m2=>?_)
  refine fin h2 T [e,T] t2 ((m.mono (fun _ z=>z) fun b z=>?_).trans (m2.mono (fun b z=>nomatch z) fun b z=>?_)) (fun b hb=>?_) (I.hok.fresh hs) (uX I.sz hs)
  ·simp at z
   simp [z]
  ·simp at z
   simp [z]
  ·rcases uq.mp hb with r | hb
   ·rw [r]
    exact ⟨ne,uX hn he⟩
   ·rw [uh.mp hb]
    exact ⟨I.hok.fresh hs,uX I.sz hs⟩
 ·refine wpAny_bind (jU I.ok.frames I.stack rfl t0 fun h' T hs t m=>wz t fun h2 t2 m2=>?_)
  refine fin h2 T [e,T0,T] t2 ((m.mono (fun _ z=>z) fun b z=>?_).trans (m2.mono (fun b z=>nomatch z) fun b z=>?_)) (fun b hb=>?_) (I.hok.fresh hs) (uX I.sz hs)
  ·simp at z
   rcases z with z | z <;> simp [z]
  ·simp at z
   simp [z]
  ·rcases uq.mp hb with r | hb
   ·rw [r]
    exact ⟨ne,uX hn he⟩
   ·rcases uq.mp hb with r | hb
    ·rw [r]
     exact ⟨n0,uX hn s0⟩
    ·rw [uh.mp hb]
     exact ⟨I.hok.fresh hs,uX I.sz hs⟩
theorem Ws {X:Cx} {pins:List (Addr × Obj)} {σ:St} {H1:Hp} {s1 s2:Shared} {u:Value} {E':XK} (hP:X.prog=P) (hw:X.w=w) (I:Inv X pins σ H1 s1) (h:CXf P w X.stack H1 s1 E' u s2):Air X pins σ E' u s2:=by
 obtain ⟨e,T,C,dx,H',rfl,os,bare,un,hok,t,⟨se,sT⟩,⟨ne,nT⟩,hE⟩:=h
 have I2:Inv X pins σ H' s2:=I.call' (ch:=[]) os un (by rw [hP,hw]; exact hok) bare (fun b z=>absurd z (by simp))
 exact ⟨e,C,dx,H',s1.heap.objs.size,rfl,I2,ne,I.sz,se,fun p hp=>um (I.pin p hp).1,.inr ⟨T,t,nT,sT⟩,hE⟩
theorem yb:yo (CXf P w) (cxOf (CXf P w) P w K mg base N qual scope f cd A outer s H E) E:=fun pins σ H1 s1 u s2 I h=>vz (Ws rfl rfl I h)
theorem ownx:PassesOwn (model P w) (cxOf (CXf P w) P w K mg base N qual scope f cd A outer s H E).A (cxOf (CXf P w) P w K mg base N qual scope f cd A outer s H E).env (cxOf (CXf P w) P w K mg base N qual scope f cd A outer s H E).xe:=PassesOwn.leaving
theorem FnOk.upx {k:Nat} {fd:FuncData} {ps:List Str} {sp:Sp} {CX:CXT} (F:FnOk P w K mg base CX0 k f fd ps sp):FnOk P w K mg base CX k f fd ps sp :=
 ⟨F.len,fun A outer s H args us vs Q E hr he hb hv hs=>codeAny_mono (F.run A outer s H args us vs Q E hr he hb hv hs) fun r s' q=>by
  cases r with
  | error e=>exact False.elim q
  | ok fl =>
   cases fl with
   | ret u=>exact q
   | next=>exact False.elim q
   | brk=>exact False.elim q
   | cont=>exact False.elim q⟩
theorem Fun.byx {x:Str} {st:Stmt} {fd:FuncData} {ps:List Str} {k:Nat} {sp:Sp} (F:Fun K x qual st f fd) (S:FnScope N ps (zp st)) (len:∀ vs H Q E,sp vs H Q E->vs.length=ps.length)
  (hbody:∀ (cdv:Value) (A:Around) (outer:List Env) (s:Shared) (H:Hp) (vs:List V) (Q:VK) (E:XK),Room k (A.deeper (envOfC qual (zp st) s.heap.objs.size f cdv))->sp vs H Q E ->
   ∃ t,jSs (cxOf (CXf P w) P w K mg base N qual (zp st) f cdv A outer s H E) (zN st) t/\t { nx:=fun _ H'=>Q .non H',rt:=Q } (start N vs) H):FnOk P w K mg base (CXf P w) (k + 1) f fd ps sp:=by
 obtain ⟨oc,od,kV,doc,pm,an,cdv,ct,osl,rfl,lk,hcd⟩:=F.ex
 refine Wc lk hcd S len fun A outer s H vs Q E hr hsp=>?_
 obtain ⟨t,h,q⟩:=hbody cdv A outer s H vs Q E hr hsp
 exact ⟨t,h.out,q⟩
end
end L2
namespace L2
open PySem
section
variable {M:Model} {A:Around} {E:Value->Shared->Prop} {env:Env} {nm q:Str} {C N:Addr} {bs bm:List Value} {hdct:Bool} {sn:List Str} {sub:List Value} {ab:Bool} {col:Option Bool} {dd:Option Addr} {k0 k1 k2 k3 k5:Option Value} {newId:String}
theorem Yr {s:Shared} {x:Sem Value} {Q:Flow->Shared->Prop} (hb:bm.contains (.type "BaseException")=true) (hh:A.handled=none)
  (h:wpAny M A x (fun v s1=>∃ e oe vs,v=.ref e/\s1.heap.get? C=some (excClassObj nm q C N bs bm hdct sn sub ab col dd k0 k1 k2 k3 k5 newId)/\s1.heap.get? e=some oe/\oe.cls=.ref C/\oe.data=.fields vs/\vs[1]?=some .none/\E (.ref e) s1) E s) :
  wpAny M A (raiseStmt env (some x) none) Q E s:=by
 have cB:(Value.ref C :: bm).contains (.type "BaseException")=true:=by rw [List.contains_cons,hb,Bool.or_true]
 unfold raiseStmt
 refine wpAny_bind (wpAny_mono h (fun v s1 h1=>?_) fun _ _ x=>x)
 obtain ⟨e,⟨c,d0,dt,sl⟩,vs,rfl,hC,he,hc,hd,hv,hE⟩:=h1
 dsimp only at hc hd
 subst hc hd
 obtain ⟨hp,g,d,tk,os⟩:=s1
 repeat (first | (with_reducible refine wpAny_field he rfl hv ?_) | with_reducible refine wpAny_loadPart_at he ?_ | with_reducible refine wpAny_loadPart_at hC ?_ | (with_reducible refine wpAny_isSubtype_exc hC ?_; rw [cB]) | wp_step)
 exact wpAny_raiseNew_none hh hE
end
theorem Jy {M:Model} {A:Around} {E:Value->Shared->Prop} {s:Shared} {f:Addr} {ob:Obj} {self:Value} {Q:Value × List Value->Shared->Prop} (h1:s.heap.get? f=some ob) (h2:ob.cls=.type "function") (q:Q (.ref f,[self]) s):wpAny M A (bindSpecial (.ref f) self) Q E s:=by
 unfold bindSpecial
 refine wpAny_bind (wpAny_typeOf (T:="function") ⟨ob,h1,h2⟩ ?_)
 exact wpAny_pure q
abbrev yB (rest:List Value):Obj:={ cls:=.type "tuple",data:=.seq rest.toArray }
abbrev yC (C t:Addr):Obj:={ cls:=.ref C,data:=.fields #[.ref t,.none,.none,.none,.bool false,.none] }
section
variable {prog:Program} {w:World} {A:Around} {E:Value->Shared->Prop} {h:Heap} {g:Array GenState} {d:Drawn} {t:Nat} {os:OsState}
variable {nm q:Str} {C N f:Addr} {bs bm bmB:List Value} {hdct:Bool} {sn:List Str} {sub:List Value} {ab:Bool} {col:Option Bool} {dd:Option Addr} {k0 k1 k2 k3 k5:Option Value} {B Bn newId nid initId inN:String} {bmN:List Value}
theorem jV (Fn:ExcBaseFacts Bn newId inN bmN) (hBn:bmB.contains (.type Bn)=true) (F:ExcBaseFacts B nid initId bmB) (T:OwnTail h bmB bm) {mN:Str->Option Value} {rest:List Value} {Q:Fin->Shared->Prop} {ob:Obj}
  (hC:h.get? C=some (excClassObj nm q C N bs bm hdct sn sub ab col dd k0 k1 k2 k3 k5 newId)) (hn:h.Ns N mN) (hi:mN "__init__"=some (.ref f)) (hf:h.get? f=some ob) (hfc:ob.cls=.type "function") (hrest:rest.length<=sizeLine)
  (hq:wpAny (model prog w) A (call (.ref f) (.ref (h.objs.size + 1) :: rest)) (fun v s'=>v=.none/\Q (.done (.ret (.ref (h.objs.size + 1)))) s') E ⟨(h.push (yB rest)).push (yC C h.objs.size),g,d,t,os⟩) :
  wpAny (model prog w) A (Builtin.«type.__call__» ⟨.ref C :: rest,[]⟩) Q E ⟨h,g,d,t,os⟩:=by
 repeat (first | with_reducible refine wpAny_madeBy_exc hC ?_ | with_reducible refine wpAny_loadPart_at hC ?_ | wp_step)
 refine codeAny_call_builtin_code (Code.quiet_builtin _ Fn.quiet) (wpAny_check_new_subU Fn hBn T hC (codeAny_exc_new_subU Fn hBn F T hC ?_ hrest))
 show wpAny _ _ _ _ _ _
 have k:∀ b o,h.get? b=some o->((h.push (yB rest)).push (yC C h.objs.size)).get? b=some o:=fun b o e=>uc _ (uc _ e)
 have C1:=k _ _ hC
 have e1:((h.push (yB rest)).push (yC C h.objs.size)).get? (h.objs.size + 1)=some (yC C h.objs.size):=Heap.get?_push_at (by simp only [Ui]) rfl
 have cC:(Value.ref C :: bm).contains (.ref C)=true:=by simp
 unfold isInstance
 repeat (first | with_reducible refine wpAny_loadPart_at e1 ?_ | (with_reducible refine wpAny_isSubtype_exc C1 ?_; rw [cC]) | wp_step)
 show wpAny _ _ (typeLookup (.ref C) _) _ _ _
 refine wpAny_typeLookup_tail C1 (hn.keeps k) (T.keeps k) F.mroIs F.init.lookup ?_
 rw [hi]
 refine wpAny_holding (wpAny_bind (Jy (k _ _ hf) hfc ?_))
 refine wpAny_bind (wpAny_mono hq (fun v s' hv=>?_) fun _ _ x=>x)
 obtain ⟨rfl,hv⟩:=hv
 exact wpAny_pure (wpAny_pure hv)
theorem Jz (Fn:ExcBaseFacts Bn newId inN bmN) (hBn:bmB.contains (.type Bn)=true) (F:ExcBaseFacts B nid initId bmB) (T:OwnTail h bmB bm) {mN:Str->Option Value} {rest:List Value} {Q:Value->Shared->Prop} {ob:Obj}
  (hC:h.get? C=some (excClassObj nm q C N bs bm hdct sn sub ab col dd k0 k1 k2 k3 k5 newId)) (hn:h.Ns N mN) (hi:mN "__init__"=some (.ref f)) (hf:h.get? f=some ob) (hfc:ob.cls=.type "function") (hrest:rest.length<=sizeLine)
  (hq:wpAny (model prog w) (A.under (.builtin "type.__call__" ⟨.ref C :: rest,[]⟩)) (call (.ref f) (.ref (h.objs.size + 1) :: rest)) (fun v s'=>v=.none/\Q (.ref (h.objs.size + 1)) s') E ⟨(h.push (yB rest)).push (yC C h.objs.size),g,d,t,os⟩) :
  wpAny (model prog w) A (call (.ref C) rest) Q E ⟨h,g,d,t,os⟩:=by
 have f1:=tc_lookup
 have f2:=tc_bind (.ref C)
 have hT:(⟨h,g,d,t,os⟩:Shared).TypeIs (.ref C) "type":=⟨_,hC,rfl⟩
 refine wpAny_call (codeAny_of_tree ?_)
 show wpAny _ _ (callAny (.ref C) ⟨rest,[]⟩) _ _ _
 repeat (any_goals (first | assumption | (with_reducible refine wpAny_loadPart_at hC ?_) | wp_step))
 refine ⟨rfl,codeAny_call_builtin_at (Code.quiet_builtin _ (by decide +kernel)) entry_typeCall (wpAny_check_type_call_sub hC ?_)⟩
 exact jV Fn hBn F T hC hn hi hf hfc hrest hq
theorem Ys (F:ExcBaseFacts B nid initId bmB) (T:OwnTail h bmB bm) {e t0:Addr} {oe:Obj} {vs:Array Value} {rest:List Value} {Q:Value->Shared->Prop}
  (hC:h.get? C=some (excClassObj nm q C N bs bm hdct sn sub ab col dd k0 k1 k2 k3 k5 newId)) (he:h.get? e=some oe) (hc:oe.cls=.ref C) (hd:oe.data=.fields vs) (h0:vs[0]?=some (.ref t0)) (hrest:rest.length<=sizeLine)
  (hq:Q .none ⟨(h.push (yB rest)).update e (Obj.mapFields (·.setIfInBounds 0 (.ref h.objs.size))),g,d,t,os⟩) :
  wpAny (model prog w) A (call (.builtin initId) (.ref e :: rest)) Q E ⟨h,g,d,t,os⟩:=by
 refine wpAny_call (codeAny_call_builtin F.init.plain F.initEntry (wpAny_check_init_subU F T hC he hc ?_))
 unfold Builtin.«BaseException.__init__»
 dsimp only
 rw [if_neg (by simp:¬ ((!List.isEmpty ([]:List (Str × Value)))=true))]
 unfold newTuple Builtin.BaseException.bexcPut
 have e1:=uc (h:=h) (yB rest) he
 refine wpAny_bind (wpAny_newObj_type ?_ (by show rest.toArray.size<=sizeLine; rw [uz]; exact hrest))
 refine wpAny_bind (wpAny_bind (wpAny_field e1 hd h0 (wpAny_bind (wpAny_setField e1 hd (Array.getElem?_eq_some_iff.mp h0).1 ?_))))
 exact wpAny_letGo (wpAny_pure hq)
end
end L2
namespace L2
open PySem PySem.W PySem.Calls PyProof.Rows Builtin Builtin.ObjectAttr
def bmV:List Value:=[.type "ValueError",.type "Exception",.type "BaseException",.type "object"]
theorem Wu (self:Value):refuseLoop self "__setattr__" bmV=pure ():=by kernel_rfl
def vA:List Value->Bool
 | []=>false
 | v :: r=>(v :: r) == bmV || (match v with
  | .ref _=>vA r
  | _=>false)
theorem wn (self:Value):∀ {l:List Value},vA l=true->refuseLoop self "__setattr__" l=pure ()
 | [],e=>by cases e
 | v :: r,e=>by
  unfold vA at e
  rcases Bool.or_eq_true_iff.mp e with q | q
  ·rw [beq_iff_eq.mp q]
   exact Wu self
  ·split at q
   ·rw [refuseLoop_ref]
    exact wn self q
   ·cases q
theorem wO:∀ {l:List Value},vA l=true->l.contains (.type "object")=true/\l.isEmpty=false
 | [],e=>by cases e
 | v :: r,e=>by
  unfold vA at e
  rcases Bool.or_eq_true_iff.mp e with q | q
  ·rw [beq_iff_eq.mp q]
   exact ⟨by decide,rfl⟩
  ·split at q
   ·exact ⟨by rw [List.contains_cons,(wO q).1,Bool.or_true],rfl⟩
   ·cases q
def vX (K:Frag) (C:Addr):Bool:=(clsIn K C).any fun cd=>vA cd.mro
section
variable {prog:Program} {w:World} {A:Around} {E:Value->Shared->Prop} {K:Frag} {C e:Addr} {s:Shared} {ox:Obj} {od:Option Obj} {name:Str} {R:Result->Shared->Prop}
theorem JA {tk:Tok} {v:Value} (X:K.In s.heap) (I:InstAt s.heap e ox C od) (hp:vX K C=true) (ht:takerIn K C name=some none)
  (h:∀ b,wpAny (model prog w) A.in1 (storeInOwnDict (.ref e) (.ref C) (.str name tk) name v b) (fun fin s'=>match fin with | .done f=>R (.ok f) s' | .again c'=>c'.quiet=true/\codeAny (model prog w) A c' R s') (fun u s'=>R (.error u) s') s) :
  codeAny (model prog w) A (.call (.builtin "object.__setattr__") ⟨[.ref e,.str name tk,v],[]⟩) R s:=by
 have SF:=PySem.F.store_object
 obtain ⟨cd,hc,ho⟩:=any_some hp
 have hm:Looks (model prog w) s.heap (mroOf (.ref C)) cd.mro:=(looks_clsIn X hc).andThen .now
 have sub:Looks (model prog w) s.heap (isInstance (.ref e) (.type "object")) true:=I.type.andThen (looks_mroIn X (by unfold mroIn; rw [hc,Option.bind_some,if_neg (by rw [(wO ho).2]; decide),(wO ho).1]))
 obtain ⟨attr,ha,hr⟩:=Option.bind_eq_some_iff.mp ht
 have tk3:Looks (model prog w) s.heap (storeTaker? attr) none:=by
  cases attr with
  | none=>exact .now
  | some a =>
   obtain ⟨b,hb,hn⟩:=uk.mp hr
   refine (looks_takesIn X hb).andThen ?_
   cases b
   ·exact .now
   ·cases hn
 refine codeAny_call_builtin SF.slot.plain SF.entry (@check_slot (model prog w) _ _ s "object.__setattr__" "object" "__setattr__" (.ref e) [.str name tk,v] [] _ SF.kind SF.split sub (SF.args (.ref e) (.str name tk) v) ?_)
 rw [osa_eq,refuse_eq]
 refine wpAny_bind (wpAny_bind (I.type.here (wpAny_bind (hm.here ?_))))
 rw [wn _ ho]
 exact wpAny_pure (wpAny_bind (I.type.here (wpAny_bind ((looks_findIn X ha).here (wpAny_bind (tk3.here (h _)))))))
theorem QW {oe:Obj} {vs:Array Value} {v:Value} {Q:Unit->Shared->Prop} (X:K.In s.heap) (he:s.heap.get? e=some oe) (hc:oe.cls=.ref C) (hx:oe.dict=none) (hd:oe.data=.fields vs)
  (hs:findIn K (.ref C) "__setattr__"=some (some (.builtin "object.__setattr__"))) (hp:vX K C=true) (ht:takerIn K C name=some none) (hh:(clsIn K C).any (·.hasDict)=true)
  (h:∀ h',h'.Ns1 s.heap.objs.size (fun y=>if y=name then some v else none)->h'.get? e=some { oe with dict:=some s.heap.objs.size }->(∀ b o,b≠e->s.heap.get? b=some o->h'.get? b=some o)->Q () { s with heap:=h',toks:=s.toks + 2 }) :
  wpAny (model prog w) A (setAttr (.ref e) name v) Q E s:=by
 have J:InstAt s.heap e oe C none:=⟨he,hc,by unfold notCls; rw [hd],by rw [hx]; trivial⟩
 refine set_plain X J hs (JA (s:={ s with toks:=s.toks + 1 }) X J hp ht fun b=>?_)
 obtain ⟨cd,hcd,hdd⟩:=any_some hh
 obtain ⟨oc,odi,oda,osl⟩:=oe
 dsimp only at hc hx hd
 subst hc hx hd
 refine wpAny_bind (wpAny_pure (wpAny_bind (wpAny_bind (wpAny_loadPart he (wpAny_bind (Looks.here (s:={ s with toks:=s.toks + 1 }) (looks_clsIn X hcd) ?_))))))
 rw [hdd]
 have e1:=uc (h:=s.heap) uT he
 have ne:s.heap.objs.size≠e:=UI (um he)
 have d1:(s.heap.push uT).get? s.heap.objs.size=some uT:=uw _ rfl
 have d2:((s.heap.push uT).update e fun o=>{ o with dict:=some s.heap.objs.size }).get? s.heap.objs.size=some uT:=(uI _ _ (Ne.symm ne)).trans d1
 have e2:=u0 (fun o=>{ o with dict:=some s.heap.objs.size }) e1 rfl
 have n2:((s.heap.push uT).update e fun o=>{ o with dict:=some s.heap.objs.size }).Ns s.heap.objs.size (fun _=>none):=⟨uT,#[],_,d2,rfl,(fun z hz=>absurd hz (by simp)),fun _=>rfl⟩
 show wpAny _ _ (alloc uT >>= _) _ _ _
 refine wpAny_bind (wpAny_alloc (wpAny_bind (wpAny_update e1 ?_)))
 refine wpAny_pure (a:=some s.heap.objs.size) (wpAny_bind (wpAny_pure (wpAny_bind ?_)))
 refine wpAny_nsSet1 (Heap.Ns1.of_empty n2) fun h' hn hsb=>?_
 obtain ⟨oD,esD,epD,hoD,hdD,hcD⟩:=hn.count (PySem.Within.cons name v PySem.Within.nil)
 refine wpAny_bind (wpAny_lookBehind hoD (by rw [hdD]; exact pastItsLine_dict (uX hcD (by show 1<=sizeLine + 1; lia))) (wpAny_pure ?_))
 refine h h' hn ((hsb.2 _ (Ne.symm ne)).trans e2) fun b o nb q=>?_
 rw [hsb.2 b (uQ (um q)),uI _ _ (Ne.symm nb)]
 exact uc _ q
theorem xg_slot:Slot "ValueError" "__getattribute__" "BaseException.__getattribute__":=PySem.F.attr_ValueError.ga
theorem QX {v:Value} {expr:Bool} {Q:Value->Shared->Prop} (X:K.In s.heap) (I:InstAt s.heap e ox C od) (hga:findIn K (.ref C) "__getattribute__"=some (some (.builtin "BaseException.__getattribute__"))) (hk:findIn K (.ref C) "__getattr__"=some none)
  (hb:subIn K (.ref C) (.type "BaseException")=some true) (hf:findObj K C od name=some (.value v)) (hh:handedIn v=true) (h:Q v { s with toks:=s.toks + 1 }):wpAny (model prog w) A (getAttr (.ref e) name expr) Q E s:=by
 have ty:=I.type (M:=model prog w)
 have fd:=looks_find (M:=model prog w) X I hf
 refine wpAny_bind (wpAny_mkText (wpAny_holding (wpAny_bind (ty _ _ _ _ (fun _ _ q=>q) (wpAny_bind (looks_findIn X hga _ _ _ _ (fun _ _ q=>q) ?_))))))
 dsimp only
 rw [show (onTheHeap (Value.ref C) && Value.builtin "BaseException.__getattribute__" == Value.builtin "object.__getattribute__")=false from by rw [show (Value.builtin "BaseException.__getattribute__" == Value.builtin "object.__getattribute__")=false from by decide +kernel,Bool.and_false],if_neg (by decide:¬ (false=true))]
 refine wpAny_bind ((looks_hook (mc:=.ref C) X (by rw [if_pos (show onTheHeap (.ref C)=true from rfl)]; exact hk)) _ _ _ _ (fun _ _ q=>q) (wpAny_bind (wpAny_attempt (wpAny_holding ?_))))
 unfold callGetattribute
 rw [show (expr && onTheHeap (Value.builtin "BaseException.__getattribute__"))=false from Bool.and_false _,if_neg (by decide:¬ (false=true))]
 unfold boundAndCalled
 rw [xg_slot.bind]
 refine wpAny_bind (wpAny_pure (wpAny_call (codeAny_call_builtin xg_slot.plain PySem.F.entry_bexc_ga ?_)))
 refine @check_slot (model prog w) _ _ { s with toks:=s.toks + 1 } "BaseException.__getattribute__" "BaseException" "__getattribute__" (.ref e) [.str name s.toks] [] _ (by decide +kernel) (by decide +kernel) (ty.andThen (looks_subIn X hb)) (PySem.F.args_bexc_ga (.ref e) (.str name s.toks)) ?_
 refine wpAny_bind (wpAny_pure (wpAny_bind (wpAny_pure (wpAny_bind (ty _ _ _ _ (fun _ _ q=>q) (wpAny_bind (fd _ _ _ _ (fun _ _ q=>q) ?_)))))))
 refine wpAny_pure ?_
 show wpAny _ _ (handedOut v) _ _ _
 rw [handedOut_of hh]
 exact wpAny_pure h
end
end L2
namespace L2
open PySem PySem.Spec PyProof.Rows
def XO (e C:Addr) (dx:Option Addr):HO:=.ext fun h=>∃ oe vs t0,h.get? e=some oe/\oe.cls=.ref C/\oe.dict=dx/\oe.data=.fields vs/\vs[0]?=some (.ref t0)/\vs[1]?=some .none/\vs[2]?=some .none
theorem XO.ok {P:Program} {w:World} {H:Hp} {h:Heap} {e C:Addr} {dx:Option Addr} (p:∃ oe vs t0,h.get? e=some oe/\oe.cls=.ref C/\oe.dict=dx/\oe.data=.fields vs/\vs[0]?=some (.ref t0)/\vs[1]?=some .none/\vs[2]?=some .none):ObjOk P w H h e (XO e C dx) :=
 ⟨p,let ⟨oe,_,_,q,_⟩:=p; ⟨oe,q⟩,fun _ _ ⟨oe,vs,t0,a,r⟩ k=>⟨oe,vs,t0,k oe a,r⟩⟩
theorem XO.get {P:Program} {w:World} {H:Hp} {h:Heap} {e C:Addr} {dx:Option Addr} (x:HOk P w H h) (q:H e=some (XO e C dx)):∃ oe vs t0,h.get? e=some oe/\oe.cls=.ref C/\oe.dict=dx/\oe.data=.fields vs/\vs[0]?=some (.ref t0)/\vs[1]?=some .none/\vs[2]?=some .none :=
 (show ObjOk P w H h e (.ext _) from x e _ q).1
def XD (d:Addr) (fs:List (Str × V)):HO:=.ext fun h=>∃ mA,h.Ns1 d mA/\(∀ f,RelO (fs.lookup f) (mA f))/\PySem.Within mA (fs.map (·.1))/\fs.length<=1000
theorem XD.ok {P:Program} {w:World} {H:Hp} {h:Heap} {d:Addr} {fs:List (Str × V)} (p:∃ mA,h.Ns1 d mA/\(∀ f,RelO (fs.lookup f) (mA f))/\PySem.Within mA (fs.map (·.1))/\fs.length<=1000):ObjOk P w H h d (XD d fs) :=
 ⟨p,let ⟨_,⟨o,_,_,q,_⟩,_⟩:=p; ⟨o,q⟩,fun _ _ ⟨mA,n,r⟩ k=>⟨mA,n.at k,r⟩⟩
theorem XD.get {P:Program} {w:World} {H:Hp} {h:Heap} {d:Addr} {fs:List (Str × V)} (x:HOk P w H h) (q:H d=some (XD d fs)):∃ mA,h.Ns1 d mA/\(∀ f,RelO (fs.lookup f) (mA f))/\PySem.Within mA (fs.map (·.1))/\fs.length<=1000 :=
 (show ObjOk P w H h d (.ext _) from x d _ q).1
def xIn (K:ua) (C f:Addr):Bool:=match K.lookup C with
 | some ⟨.type "type",_,.cls cd,sl⟩=>(match cd.mro,sl.toList with
  | .ref C' :: bm,[_,_,_,_,some (.builtin n),_]=>C' == C && n == "ValueError.__new__" && !cd.hasDel && PySem.W.tailIn K bmV bm && PySem.W.nsOkIn K cd.ns && uY K cd.ns "__init__" == some (some (.ref f)) && bm.contains (.type "BaseException")
  | _,_=>false)
 | _=>false
structure XCl (K:ua) (C f:Addr):Prop where
 cls:xIn K C f=true
 fn:PySem.W.typeIn K (.ref f)=some (.type "function")
 kp:uU K (.ref C)=true
 over:vX K C=true
 sa:uy K (.ref C) "__setattr__"=some (some (.builtin "object.__setattr__"))
 hd:(PySem.W.clsIn K C).any (·.hasDict)=true
 ga:uy K (.ref C) "__getattribute__"=some (some (.builtin "BaseException.__getattribute__"))
 ha:uy K (.ref C) "__getattr__"=some none
 sb:PySem.W.subIn K (.ref C) (.type "BaseException")=some true
theorem JB {K:ua} {h:Heap} {N:Addr} {mg:Str->Option Value} {n:Str} {v:Value} (X:K.In h) (G:h.Ns N mg) (e:uY K N n=some (some v)):mg n=some v:=by
 obtain ⟨o,es,ep,ho,hd,_,hf⟩:=G
 unfold uY at e
 split at e
 ·rename_i c d es' n' sl q
  have:=X _ _ q
  rw [ho] at this
  cases this
  cases hd
  split at e
  ·rename_i en he
   cases e
   rw [<- hf]
   unfold nsFind findBy
   rw [<- Array.find?_toList,he]
   rfl
  ·split at e <;> cases e
 ·cases e
theorem XCl.at {K:ua} {C f:Addr} (c:XCl K C f) {h:Heap} (X:K.In h):∃ nm q N bs bm hdct sn sub ab col dd k0 k1 k2 k3 k5 mN,h.get? C=some (excClassObj nm q C N bs bm hdct sn sub ab col dd k0 k1 k2 k3 k5 "ValueError.__new__") /\
  OwnTail h bmV bm/\h.Ns N mN/\mN "__init__"=some (.ref f)/\bm.contains (.type "BaseException")=true:=by
 have q:=c.cls
 unfold xIn at q
 split at q
 ·rename_i dd cd sl ho
  split at q
  ·rename_i C' bm k0 k1 k2 k3 n k5 hm hs
   simp only [UU,beq_iff_eq,Bool.not_eq_true'] at q
   obtain ⟨⟨⟨⟨⟨⟨rfl,rfl⟩,hdel⟩,ht⟩,hok⟩,hi⟩,hb⟩:=q
   obtain ⟨nm,bs,mro,ns,qn,hd,sn,sub,ab,col,del⟩:=cd
   dsimp only at hm hdel hok hi
   subst hm hdel
   have es:sl=#[k0,k1,k2,k3,some (.builtin "ValueError.__new__"),k5]:=by
    obtain ⟨l⟩:=sl
    simp only at hs
    rw [hs]
   subst es
   have nN:=PySem.Heap.Ns.of_isNs (PySem.W.isNs_of_in X hok)
   exact ⟨nm,qn,ns,bs,bm,hd,sn,sub,ab,col,dd,k0,k1,k2,k3,k5,_,X _ _ ho,PySem.W.tail_of_in X ht,nN,JB X nN hi,hb⟩
  ·cases q
 ·cases q
def drp (H:Hp) (e:Addr):Hp:=fun b=>if b=e then none else H b
theorem wP {H:Hp} {e:Addr}:drp H e e=none:=if_pos rfl
theorem wQ {H:Hp} {e b:Addr} (h:b≠e):drp H e b=H b:=if_neg h
theorem Inv.drop {X:Cx} {pins:List (Addr × Obj)} {σ:St} {H:Hp} {s:Shared} {e:Addr} {φ:Heap->Prop} (I:Inv X pins σ H s) (he:H e=some (.ext φ)):Inv X pins σ (drp H e) s:=by
 have no:∀ b,H b=none->drp H e b=none:=fun b h=>by
  by_cases q:b=e
  ·rw [q]
   exact wP
  ·rw [wQ q]
   exact h
 have nx:∀ (b:Addr) (o:HO),H b=some o->(∀ ψ,o≠.ext ψ)->drp H e b=some o:=fun b o h n=>by
  have q:b≠e:=fun z=>by
   rw [z,he] at h
   cases h
   exact n _ rfl
  rw [wQ q]
  exact h
 refine ⟨I.ok,I.os,I.bare,⟨I.base.keep,I.base.slot,fun b o q n x=>no b (I.base.free b o q n x),I.base.there,fun b xs q=>nx _ _ (I.base.tups b xs q) (by intro ψ z; cases z),fun b o u q=>nx _ _ (I.base.frzs b o u q) (by intro ψ z; cases z),fun b ps q=>?_⟩,I.loc,I.cell,no _ I.free,fun x c q=>no _ (I.freeC x c q),fun p hp=>?_,fun a o q=>?_,I.len⟩
 ·obtain ⟨m,r⟩:=I.base.tbls b ps q
  exact ⟨m,nx _ _ r (by intro ψ z; cases z)⟩
 ·obtain ⟨a,b,c⟩:=I.pin p hp
  exact ⟨a,no _ b,c⟩
 ·have na:a≠e:=fun z=>by
   rw [z,wP] at q
   cases q
  rw [wQ na] at q
  exact (I.hok a o q).stay (fun _ _ _ z=>z) (fun b z=>nx b _ z (by intro ψ y; cases y)) fun b xs z=>nx b _ z (by intro ψ y; cases y)
def wR (X:Cx) (E:XK):Prop:=∀ (pins:List (Addr × Obj)) (σ:St) (u:Value) (s':Shared),Air X pins σ E u s'->X.xe u s'
theorem yL {P:Program} {w:World} {K:ua} {mg:Str->Option Value} {base:Heap} {N:List Str} {qual:Str} {scope:Scope} {f:Addr} {cd:Value} {A:Around} {outer:List Env} {s:Shared} {H:Hp} {E:XK} :
  wR (cxOf (CXf P w) P w K mg base N qual scope f cd A outer s H E) E:=fun _ _ _ _ h=>vz h
def ZN (C:Addr) (sp:Sp) (E:XK) (t:TA):TS:=fun _ σ H=>t σ H fun vs H1=>vs.length<=sizeLine/\∀ e,H1 e=none->sp (.ref e :: vs) (upd H1 e (XO e C none)) (fun v H2=>v=.non/\∃ dx,H2 e=some (XO e C dx)/\E (.ref C) dx (drp H2 e)) E0
section
variable {X:Cx} {k:Nat} {f C:Addr} {fd:FuncData} {ps:List Str} {sp:Sp} {E:XK} {x:Str} {np cpos pos:Pos} {a:Expr} {as:List Expr} {t:TA}
theorem Wv (M:XCl X.K C f) (F:FnOk X.prog X.w X.K X.mg X.base CX0 k f fd ps sp) (hr:Room (k + 1) X.A) (hg:Gl X x) (hm:X.mg x=some (.ref C)) (hb:Binds X.K fd ps []) (hx:wR X E)
  (ha:PA X (a :: as) t) (hdb:(x == ("__debug__":Str))=false:=by decide) (h1:zJ a=false:=by rfl) (h2:as.all (fun e=>!zJ e)=true:=by rfl) :
  PS X (.Raise (some (.Call (.Name x np) (a :: as) [] cpos)) none pos) (ZN C sp E t):=by
 intro pins s σ H D I h
 obtain ⟨nm,q,N,bs,bm,hdct,sn,sub,ab,col,dd,k0,k1,k2,k3,k5,mN,hC0,T0,n0,i0,hB⟩:=M.at I.mod.kin
 rw [arm_exec_Raise]
 simp only [evalOpt,Option.map]
 refine wpAny_bind (wpAny_standAt (Yr (C:=C) (nm:=nm) (q:=q) (N:=N) (bs:=bs) (hdct:=hdct) (sn:=sn) (sub:=sub) (ab:=ab) (col:=col) (dd:=dd) (k0:=k0) (k1:=k1) (k2:=k2) (k3:=k3) (k5:=k5) (newId:="ValueError.__new__") hB hr.hd (wpAny_bind ?_)))
 refine wpAny_Call_Name_kw (xt I hg hm ?_ hdb)
 refine U9 (h₀:=X.base) I.ok.mod.kin M.kp (thn (ha cpos pins s σ H _ I h) fun us s1 ⟨vs,H1,I1,r,hl,q1⟩=>⟨I1.kIn,?_⟩) (zK h1) (yw h2)
 obtain ⟨hh,g,d,tk,os⟩:=s1
 have kb:∀ b o,X.base.get? b=some o->hh.get? b=some o:=I1.bk
 have e0:H1 (hh.objs.size + 1)=none:=I1.hok.fresh (Nat.le_succ _)
 obtain ⟨of,hof,hofc⟩:=uk.mp M.fn
 have hof':hh.get? f=some of:=I1.kIn _ _ hof
 refine Jz Uw (by decide +kernel) Uw (T0.keeps kb) (kb _ _ hC0) (n0.keeps kb) i0 hof' hofc (show us.length<=sizeLine by rw [<- r.length]; exact hl) ?_
 have ex:((hh.push (yB us)).push (yC C hh.objs.size)).get? (hh.objs.size + 1)=some (yC C hh.objs.size):=Heap.get?_push_at (by simp only [Ui]) rfl
 have I2:Inv X pins σ (upd H1 (hh.objs.size + 1) (XO (hh.objs.size + 1) C none)) ⟨(hh.push (yB us)).push (yC C hh.objs.size),g,d,tk,os⟩ :=
  I1.laid (a:=hh.objs.size + 1) (o:=XO (hh.objs.size + 1) C none) (t':=tk) (fun b u q=>uc _ (uc _ q)) (Nat.le_succ _) (XO.ok ⟨yC C hh.objs.size,_,hh.objs.size,ex,rfl,rfl,rfl,rfl,rfl,rfl⟩)
 have hq:=q1 _ e0
 have r2:Vals (V.ref (hh.objs.size + 1) :: vs) (Value.ref (hh.objs.size + 1) :: us):=.cons rfl r
 have hlen:(Value.ref (hh.objs.size + 1) :: us).length=ps.length:=by rw [<- r2.length]; exact F.len _ _ _ _ hq
 have bd:=hb ⟨(hh.push (yB us)).push (yC C hh.objs.size),g,d,tk,os⟩ (Value.ref (hh.objs.size + 1) :: us) I2.kIn (by rw [uO]; exact hlen)
 rw [uO] at bd
 refine wpAny_call (codeAny_mono (F.run _ X.stack _ _ ⟨Value.ref (hh.objs.size + 1) :: us,[]⟩ (Value.ref (hh.objs.size + 1) :: us) _ _ E0 (hr.make C us []) (I2.env0.make C us []) bd r2 hq) fun r s' hq'=>?_)
 cases r with
 | error u=>exact False.elim hq'
 | ok fl =>
  cases fl with
  | ret u =>
   obtain ⟨v,H',I3,rv,ev,dx,hH,hE⟩:=I2.after hq'
   subst ev
   obtain ⟨oe,ws,t0,g1,g2,g3,g4,g5,g6⟩:=XO.get I3.hok hH
   exact ⟨rv,wpAny_bind (wpAny_standAt (wpAny_pure ⟨_,oe,ws,rfl,I3.bk _ _ hC0,g1,g2,g4,g6.1,hx pins σ _ s' ⟨_,.ref C,dx,drp H' (hh.objs.size + 1),hh.objs.size,rfl,I3.drop hH,wP,I1.sz,Nat.le_succ _,fun p hp=>um (I1.pin p hp).1,.inl ⟨oe,ws,g1,g2,g3,g4,g6⟩,hE⟩⟩))⟩
  | next=>exact False.elim hq'
  | brk=>exact False.elim hq'
  | cont=>exact False.elim hq'
end
structure XBase (K:ua) (R:Addr):Prop where
 sp:PySem.W.specialIn K (.ref R) "__getattribute__"=some (some (.builtin "type.__getattribute__"))
 rd:PySem.W.readsIn K R (.type "type")=true
 fi:PySem.W.findCls K (.ref R) (.type "type") "__init__"=some (.val (.builtin "ValueError.__init__"))
def QY (C:Addr) (t:TA):TE:=fun σ H Q=>t σ H fun vs H1=>∃ e rest dx,vs=.ref e :: rest/\rest.length<=sizeLine/\H1 e=some (XO e C dx)/\Q .non H1
theorem QZ {H:Hp} {e:Addr} {o:HO} (h:H e=some o):upd H e o=H:=by
 funext b
 unfold upd
 split
 ·rename_i q
  rw [q,h]
 ·rfl
section
variable {X:Cx} {f C R:Addr} {x m:Str} {np apos pos pos':Pos} {a o e value:Expr} {as:List Expr} {t:TA} {ta tv te:TE}
theorem Ww {pl:Sem Bool} (M:XCl X.K C f) (B:XBase X.K R) (hg:Gl X x) (hm:X.mg x=some (.ref R)) (ha:PA X (a :: as) t) (hdb:(x == ("__debug__":Str))=false:=by decide) (h1:zJ a=false:=by rfl) (h2:as.all (fun e=>!zJ e)=true:=by rfl)
  (ht:eval (.Call (.Attribute (.Name x np) "__init__" apos) (a :: as) [] pos) X.env=(do
   let ov <- eval (.Name x np) X.env
   standAt apos.atName
   let (f,first) <- holding [ov] (getMethod ov "__init__" pl)
   callWith pos f first (backTo pos (starEach (a :: as) X.env)) (backToKw pos (keywordEach [] X.env))):=by rfl) :
  PE X (.Call (.Attribute (.Name x np) "__init__" apos) (a :: as) [] pos) (QY C t):=by
 intro pins s σ H Q I h
 refine PySem.W.methodCall_KW (pl:=pl) (xt I hg hm ?_ hdb) ht
 refine PySem.W.method_cls I.kIn B.sp (PySem.W.cls_value I.kIn B.rd B.fi (by decide +kernel) ?_)
 have I0:Inv X pins σ H { s with toks:=s.toks + 1 }:=I.tok _
 refine PyProof.Rows.callWith_builtin1 (thn (ha pos pins _ σ H _ I0 h) fun us s1 ⟨vs,H1,I1,r,e,rest,dx,ev,hl,hH,q⟩=>?_) (zK h1) (yw h2)
 subst ev
 obtain ⟨ue,ur,rfl,re,rr⟩:∃ ue ur,us=ue :: ur/\RelV (.ref e) ue/\Vals rest ur:=by
  cases r with
  | cons p q=>exact ⟨_,_,rfl,p,q⟩
 obtain rfl:ue=Value.ref e:=re
 obtain ⟨oe,ws,t0,g1,g2,g3,g4,g5,g6⟩:=XO.get I1.hok hH
 obtain ⟨nm,q',N,bs,bm,hdct,sn,sub,ab,col,dd,k0,k1,k2,k3,k5,mN,hC,T,_,_,_⟩:=M.at I1.kIn
 obtain ⟨hh,g,d,tk,os⟩:=s1
 refine Ys Uw T hC g1 g2 g4 g5 (by rw [<- rr.length]; exact hl) ?_
 have e1:=uc (h:=hh) (yB ur) g1
 have up:=u0 (Obj.mapFields (·.setIfInBounds 0 (.ref hh.objs.size))) e1 (Obj.isFreed_of_fields (Obj.data_mapFields g4 _))
 have sz:0 < ws.size:=(Array.getElem?_eq_some_iff.mp g5).1
 have I2:=I1.write (x:=e) (e:=e) (o:=XO e C dx) (h':=(hh.push (yB ur)).update e (Obj.mapFields (·.setIfInBounds 0 (.ref hh.objs.size)))) (t':=tk) (by rw [hH]; exact True.intro) (.inl rfl)
  (fun b u nb q=>(uI _ _ (Ne.symm nb)).trans (uc _ q)) ⟨_,up⟩
  (XO.ok ⟨_,_,hh.objs.size,up,(Obj.cls_mapFields _ _).trans g2,(xm _ _).trans g3,Obj.data_mapFields g4 _,by simp [sz],by rw [Array.getElem?_setIfInBounds_ne (by decide)]; exact g6.1,by rw [Array.getElem?_setIfInBounds_ne (by decide)]; exact g6.2⟩)
 rw [QZ hH] at I2
 exact ⟨.non,H1,I2,rfl,q⟩
def zaY (K:ua) (C:Addr) (ta tv:TE) (m:Str):TS:=fun D σ H=>tv σ H fun y H1=>ta σ H1 fun x H2=>∃ e,x=.ref e/\H2 e=some (XO e C none)/\UY K C m=some none/\∀ d,H2 d=none->d≠e->D.nx σ (upd (upd H2 d (XD d [(m,y)])) e (XO e C (some d)))
theorem JC (M:XCl X.K C f) (ha:PE X o ta) (hv:PE X value tv) (hs:swapsWith value (some (.Attribute o m pos')) pos.line X.env=pure false:=by rfl):PS X (.Assign [.Attribute o m pos'] value pos) (zaY X.K C ta tv m):=by
 intro pins s σ H D I h
 refine plainObj_wpAny_Assign_Attribute (thn (hv pins s σ H _ I h) fun u s1 ⟨y,H1,I1,ry,q⟩=>thn (ha pins s1 σ H1 _ I1 q) fun ov s2 ⟨x,H2,I2,rx,e,ex,hH,hk,q2⟩=>?_) hs
 subst ex
 obtain rfl:ov=Value.ref e:=rx
 obtain ⟨oe,ws,t0,g1,g2,g3,g4,g5,g6⟩:=XO.get I2.hok hH
 refine QW I2.kIn g1 g2 g3 g4 M.sa M.over hk M.hd fun h' hn he kp=>?_
 have nd:s2.heap.objs.size≠e:=UI (um g1)
 have fd:H2 s2.heap.objs.size=none:=I2.hok.fresh (ui _)
 have ns:∀ (b:Addr) (u:HO),H2 b=some u->(∀ ψ,u≠.ext ψ)->upd (upd H2 s2.heap.objs.size (XD s2.heap.objs.size [(m,y)])) e (XO e C (some s2.heap.objs.size)) b=some u:=fun b u q nx=>by
  have n1:b≠e:=fun z=>by
   rw [z,hH] at q
   cases q
   exact nx _ rfl
  rw [zm n1,zm (zo q fd)]
  exact q
 have ne':∀ b,H2 b=none->b≠e:=fun b q z=>by
  rw [z,hH] at q
  cases q
 refine ⟨σ,_,I2.un (H':=upd (upd H2 s2.heap.objs.size (XD s2.heap.objs.size [(m,y)])) e (XO e C (some s2.heap.objs.size))) (h':=h') (t':=s2.toks + 2) ⟨fun b o q n _ _=>kp b o (ne' b n) q,fun b o q n _ _=>⟨o.slots,kp b o (ne' b n) q⟩,fun b o q n _=>?_,fun b o q _=>?_,fun b xs q=>ns b _ q (by intro ψ z; cases z),fun b o u q=>ns b _ q (by intro ψ z; cases z),fun b ps q=>⟨#[],by rw [ns b _ q (by intro ψ z; cases z)]; simp⟩⟩ fun b u q=>?_,q2 _ fd nd⟩
 ·rw [zm (ne' b n),zm (uQ (um q))]
  exact n
 ·by_cases z:b=e
  ·rw [z]
   exact ⟨_,he⟩
  ·exact ⟨o,kp b o z q⟩
 ·by_cases z:b=e
  ·subst z
   rw [zf] at q
   cases q
   exact XO.ok ⟨_,ws,t0,he,g2,rfl,g4,g5,g6⟩
  ·rw [zm z] at q
   by_cases z2:b=s2.heap.objs.size
   ·subst z2
    rw [zf] at q
    cases q
    refine XD.ok ⟨_,hn,fun f=>?_,fun f hf=>?_,show 1<=1000 by decide⟩
    ·rw [Ur]
     by_cases w:f=m
     ·rw [if_pos w,w,beq_self_eq_true]
      exact ry
     ·rw [if_neg w,beq_eq_false_iff_ne.mpr w]
      exact True.intro
    ·by_cases w:f=m
     ·rw [w]
      exact uo
     ·exact absurd (if_neg w) hf
   ·rw [zm z2] at q
    refine (I2.hok b u q).stay (fun c v hc r=>kp c v (fun w=>?_) r) (fun c r=>ns c _ r (by intro ψ z; cases z)) fun c xs r=>ns c _ r (by intro ψ z; cases z)
    rcases hc with hc | hc
    ·exact z (hc.symm.trans w)
    ·rw [w,hH] at hc
     cases hc
end
end L2
namespace L2
open PySem PySem.Spec PyProof.Rows
section
variable {X:Cx} {pins:List (Addr × Obj)} {σ:St} {H:Hp} {s:Shared} {h':Heap} {xs:List Addr}
theorem Inv.moved (I:Inv X pins σ H s) (m:Mv (frs X.stack) xs s.heap h')
  (hx:∀ b∈xs,H b=none/\(b∈X.ex\/X.s₀.heap.objs.size<=b)/\b≠X.env.locals/\(∀ x c,X.env.cells.lookup x=some c->c≠b)/\∀ p∈X.pn ++ pins,p.1≠b):Inv X pins σ H { s with heap:=h' } :=
 I.call (g':=s.gens) (d':=s.drawn) (t':=s.toks) (ch:=xs) ⟨fun b o q _ f x=>m.keep b o q f x,fun b o q _ _ x=>m.slot b o q x,fun _ _ _ n _=>n,fun b o q _=>m.there b o q,fun _ _ q=>q,fun _ _ _ q=>q,fun _ ps q=>⟨#[],by rw [q]; simp⟩⟩
  (I.hok.moved m I.stkFree fun b hb=>(hx b hb).1) I.bare fun b hb=>(hx b hb).2
theorem Inv.apart (I:Inv X pins σ H s) {b:Addr} {o:Obj} {vs:Array Value} (q:s.heap.get? b=some o) (d:o.data=.fields vs):b≠X.env.locals/\∀ x c,X.env.cells.lookup x=some c->c≠b:=by
 refine ⟨fun z=>?_,fun x c e z=>?_⟩
 ·obtain ⟨m,⟨o',es,ep,ho,hd,_⟩,_⟩:=I.loc
  rw [z,ho] at q
  cases q
  rw [hd] at d
  cases d
 ·obtain ⟨v,o',ho,hd⟩:=I.cell x c e
  rw [z,q] at ho
  cases ho
  rw [d] at hd
  cases hd
abbrev Cx.inEx (X:Cx) (u:Value) (p:List (Addr × Obj)):Cx:={ X with A:=X.A.mark (some u),calm:=false,pn:=p ++ X.pn,xe:=fun _ _=>False }
theorem Inv.inEx (I:Inv X pins σ H s) (u:Value) {p:List (Addr × Obj)} (hp:∀ q∈p,s.heap.get? q.1=some q.2/\H q.1=none/\q.1≠X.env.locals/\q.1 ∉ X.fs/\∀ v,q.2.data≠.cell v):Inv (X.inEx u p) pins σ H s :=
 ⟨⟨I.ok.mod,I.ok.kind,I.ok.glob,I.ok.blt,I.ok.above,I.ok.inj,I.ok.has,I.ok.cab,(fun z=>nomatch z),I.ok.frames,I.ok.stk,I.ok.exf,I.ok.bs,I.ok.bsz,I.ok.noex,I.ok.exfs,I.ok.funs,I.ok.frf⟩,I.os,I.bare,I.base,I.loc,I.cell,I.free,I.freeC,fun q hq=>by
  have hq':q∈(p ++ X.pn) ++ pins:=hq
  rw [uG] at hq'
  rcases uN.mp hq' with z | z
  ·exact hp q z
  ·exact I.pin q z,I.hok,I.len⟩
theorem Inv.outEx {u:Value} {p:List (Addr × Obj)} (ok:X.Ok) (I:Inv (X.inEx u p) pins σ H s):Inv X pins σ H s :=
 ⟨ok,I.os,I.bare,I.base,I.loc,I.cell,I.free,I.freeC,fun q hq=>I.pin q (by
  show q∈(p ++ X.pn) ++ pins
  rw [uG]
  exact uM _ hq),I.hok,I.len⟩
theorem xv {A:Around} {E:Value->Shared->Prop} {i:Nat} {n:Str} {pos:Pos} {Q:Unit->Shared->Prop} (I:Inv X pins σ H s) (hN:X.N.Nodup) (hi:X.N[i]?=some n) (hl:X.env.scope.names.lookup n=some .local)
  (h:∀ s',Inv X pins (σ.set i none) H s'->Q () s'):wpAny (model X.prog X.w) A (do bindName X.env n .none; unbindBehindTheSuite X.env n pos) Q E s:=by
 obtain ⟨m,hn,hlk⟩:=id I.loc
 have iσ:i < σ.length:=by rw [I.len]; exact (ud.mp hi).1
 refine wpAny_nameGoes_keeps (env:=X.env) hl hn (by rw [I.ok.kind]; rfl) fun h' v hn' hs=>h _ ?_
 have nl:∀ (b:Addr) (o:Obj),X.s₀.heap.get? b=some o->b≠X.env.locals:=fun b o q=>uQ (ux (um q) I.ok.above)
 refine ⟨I.ok,I.os,I.bare,⟨fun b o q n hb hx=>(hs.2 b (nl b o q)).trans (I.base.keep b o q n hb hx),fun b o q n hb hx=>?_,I.base.free,fun b o q hx=>?_,I.base.tups,I.base.frzs,I.base.tbls⟩,⟨_,hn',fun j y v' e1 e2 e3=>?_⟩,fun y c q=>?_,I.free,I.freeC,fun p hp=>?_,fun b u q=>?_,by rw [List.length_set]; exact I.len⟩
 ·obtain ⟨sl,q1⟩:=I.base.slot b o q n hb hx
  exact ⟨sl,(hs.2 b (nl b o q)).trans q1⟩
 ·obtain ⟨o1,q1⟩:=I.base.there b o q hx
  exact ⟨o1,(hs.2 b (nl b o q)).trans q1⟩
 ·have hj:j≠i:=fun z=>by
   rw [z,UW iσ] at e2
   cases e2
  rw [List.getElem?_set_ne (Ne.symm hj)] at e2
  obtain ⟨u,r,q⟩:=hlk j y v' e1 e2 e3
  refine ⟨u,r,?_⟩
  rcases q with ⟨k,e⟩ | ⟨k,c,e,z⟩
  ·have ny:y≠n:=fun z=>hj (xg hN e1 (z ▸ hi))
   exact .inl ⟨k,by simp [ny,e]⟩
  ·exact .inr ⟨k,c,e,z.sameBut hs (I.cne y c e)⟩
 ·obtain ⟨w,z⟩:=I.cell y c q
  exact ⟨w,z.sameBut hs (I.cne y c q)⟩
 ·obtain ⟨a,b,c,d⟩:=I.pin p hp
  exact ⟨(hs.2 p.1 c).trans a,b,c,d⟩
 ·refine (I.hok b u q).stay (fun c v hc r=>(hs.2 c fun z=>?_).trans r) (fun _ r=>r) fun _ _ r=>r
  rcases hc with hc | hc
  ·rw [<- hc,z,I.free] at q
   cases q
  ·rw [z,I.free] at hc
   cases hc
end
abbrev Ends.behind (D:Ends) (i:Nat):Ends:={ nx:=fun σ H=>D.nx (σ.set i none) H,rt:=D.rt,bk:=fun σ H=>D.bk (σ.set i none) H,ct:=fun σ H=>D.ct (σ.set i none) H }
section
variable {X:Cx} {Ch:Addr} {x n:Str} {i:Nat} {np hpos tpos:Pos} {b0:Stmt} {suite:List Stmt} {th:Addr->Obj->TS}
variable {k:Nat} {f:Addr} {fd:FuncData} {ps:List Str} {sp:Sp} {y:Str} {p cpos epos:Pos} {a:Expr} {as:List Expr} {t:TA}
end
end L2
namespace L2
open PySem PySem.Spec PyProof.Rows
section
variable {X:Cx} {pins:List (Addr × Obj)} {σ:St} {H:Hp} {s:Shared} {h':Heap}
theorem Inv.turns {t':Nat} {ch:List Addr} (I:Inv X pins σ H s) (k:∀ b o,b ∉ ch->s.heap.get? b=some o->h'.get? b=some o) (hf:∀ b∈ch,FpOk X pins H b):Inv X pins σ H { s with heap:=h',toks:=t' }:=by
 have nit:∀ b u,H b=some u->b ∉ ch:=fun b u e z=>by rw [(hf b z).1] at e; cases e
 refine I.call (g':=s.gens) (d':=s.drawn) (t':=t') (ch:=ch) ⟨fun b o q _ _ x=>k b o x q,fun b o q _ _ x=>⟨o.slots,k b o x q⟩,fun _ _ _ n _=>n,fun b o q x=>⟨o,k b o x q⟩,fun _ _ q=>q,fun _ _ _ q=>q,fun _ ps q=>⟨#[],by rw [q]; simp⟩⟩
  (fun b u e=>(I.hok b u e).stay (fun c v hc q=>k c v ?_ q) (fun _ q=>q) fun _ _ q=>q) I.bare fun b hb=>?_
 ·rcases hc with z | z
  ·rw [z]; exact nit b u e
  ·exact nit c _ z
 ·obtain ⟨f0,f1,f2,f3,f4,f5⟩:=hf b hb
  exact ⟨f3,f1,f4,f5⟩
theorem Inv.turnsLaid {t':Nat} {ch:List Addr} {a:Addr} {o:HO} (I:Inv X pins σ H s) (k:∀ b o,b ∉ ch->s.heap.get? b=some o->h'.get? b=some o) (hf:∀ b∈ch,FpOk X pins H b) (hp:s.heap.objs.size<=a) (new:ObjOk X.prog X.w (upd H a o) h' a o) :
  Inv X pins σ (upd H a o) { s with heap:=h',toks:=t' }:=by
 have hn:=I.hok.fresh hp
 have nit:∀ b u,H b=some u->b ∉ ch:=fun b u e z=>by rw [(hf b z).1] at e; cases e
 refine I.call (g':=s.gens) (d':=s.drawn) (t':=t') (ch:=ch) ⟨fun b o q _ _ x=>k b o x q,fun b o q _ _ x=>⟨o.slots,k b o x q⟩,fun b u q n _=>by rw [zm (uQ (ux (um q) hp))]; exact n,fun b o q x=>⟨o,k b o x q⟩,
   fun b xs q=>by rw [zm (zo q hn)]; exact q,fun b u xs q=>by rw [zm (zo q hn)]; exact q,fun b ps q=>⟨#[],by rw [zm (zo q hn),q]; simp⟩⟩
  (fun b u e=>?_) I.bare fun b hb=>?_
 ·by_cases hb:b=a
  ·subst hb
   rw [zf] at e
   cases e
   exact new
  ·rw [zm hb] at e
   refine (I.hok b u e).stay (fun c v hc q=>k c v ?_ q) (fun c q=>by rw [zm (zo q hn)]; exact q) fun c xs q=>by rw [zm (zo q hn)]; exact q
   rcases hc with z | z
   ·rw [z]; exact nit b u e
   ·exact nit c _ z
 ·obtain ⟨f0,f1,f2,f3,f4,f5⟩:=hf b hb
  exact ⟨f3,f1,f4,f5⟩
end
section
variable {X:Cx} {elts:List Expr} {k:Nat} {tpos:Pos}
end
end L2
namespace L2
open PySem PySem.Spec PyProof.Rows Builtin Builtin.Str
section
variable {X:Cx}
theorem xS:∀ {zs:List Str} {us:List Value},Vals (zs.map V.str) us->∃ l:List (Str × Tok),us=strValues l/\l.map (·.1)=zs
 | [],_,.nil=>⟨[],rfl,rfl⟩
 | z :: zs,_,.cons ⟨t,e⟩ r=>by
  obtain ⟨l,rfl,h⟩:=xS r
  exact ⟨(z,t) :: l,by rw [e]; rfl,by rw [uP,h]⟩
theorem jX (sep:Str):∀ (zs:List Str) (a:Nat),zs.foldl (· + ·.length + sep.length) a=a + ((zs.map (·.length)).sum + zs.length * sep.length)
 | [],a=>by simp
 | z :: zs,a=>by
  rw [List.foldl_cons,jX sep zs]
  simp only [uP,List.sum_cons,uD,Nat.add_mul,Nat.one_mul]
  lia
def wide (sep:Str) (zs:List Str):Nat:=(zs.map (·.length)).sum + zs.length * sep.length
def qX (K:ua):V->List V->Hp->VK->Prop:=fun x vs H Q=>∃ sep p zs,x=.str sep/\vs=[.ref p]/\SqL K H p (zs.map V.str)/\wide sep zs<=sizeLine/\Q (.str (Str.join sep zs)) H
theorem JD:MtR X "str.join" (qX X.K):=by
 intro pins s σ H x vs v us Q I rx rv h
 obtain ⟨sep,p,zs,rfl,rfl,hq,hw,q⟩:=h
 obtain ⟨t,rfl⟩:=rx
 obtain ⟨u,rfl,ru⟩:=rv.one
 cases ru
 obtain ⟨its,r,pl,hz⟩:=I.list hq
 obtain ⟨l,rfl,hl⟩:=xS r
 have big:tooLong ((l.map (·.1)).toArray.foldl (· + ·.length + sep.length) 0)=false:=by
  rw [hl,List.foldl_toArray,jX]
  unfold tooLong
  rw [decide_eq_false_iff_not]
  unfold wide at hw
  lia
 have hg:=size_glued sep zs
 have hle:(glued sep zs).length<=sizeLine:=by
  rw [hg]
  unfold wide at hw
  have:(zs.length - 1) * sep.length<=zs.length * sep.length:=Nat.mul_le_mul_right _ (Nat.sub_le _ _)
  lia
 refine call_meets F.slot_str_join (typeIs_str _ _ _) F.entry_str_join (F.args_str_join_2 _ _) (meets_str_join_list sep t p l big) ⟨pl.isList,?_⟩
 rw [<- StrLaws.glued_eq_join] at q
 match l,hl with
 | [],hl=>exact ⟨by rw [hl]; exact hle,.str _,H,I.tok _,⟨_,rfl⟩,by rw [hl]; exact q⟩
 | [(z,tz)],hl =>
  have e:glued sep zs=z:=by
   rw [<- hl]
   rfl
  rw [e] at q
  exact ⟨.str z,H,I,⟨tz,rfl⟩,q⟩
 | a :: b :: r,hl=>exact ⟨by rw [hl]; exact hle,.str _,H,I.tok _,⟨_,rfl⟩,by rw [hl]; exact q⟩
theorem JE:jMt X "str.join" (qX X.K):=⟨JD⟩
def rEqE (K:ua) (neg:Bool):R2:=fun x y H Q=>∃ p p' xs,x=.ref p/\y=.ref p'/\SqL K H p xs/\SqL K H p' []/\Q (.bl (if neg then !xs.isEmpty else xs.isEmpty)) H
theorem Q0 (hu:X.A.units < cLine):OpR X (compareOp .Eq) (rEqE X.K false):=by
 intro pins s σ H x y v u Q I rx ry h
 obtain ⟨p,p',xs,rfl,rfl,h1,h2,q⟩:=h
 cases rx
 cases ry
 obtain ⟨its,r,pl,_⟩:=I.list h1
 obtain ⟨its',r',pl',_⟩:=I.list h2
 cases r'
 cases r with
 | nil=>exact SeqAt.eq_listAt (e:=fun _=>true) pl.isList pl'.isList rfl hu (fun j h=>absurd h (Nat.not_lt_zero _)) ⟨.bl true,H,I,rfl,q⟩
 | cons a b=>exact SeqAt.eq_list_lengthsAt pl.isList pl'.isList rfl hu ⟨.bl false,H,I,rfl,q⟩
theorem Q1 (hu:X.A.units < cLine):OpR X (compareOp .NotEq) (rEqE X.K true):=by
 intro pins s σ H x y v u Q I rx ry h
 obtain ⟨p,p',xs,rfl,rfl,h1,h2,q⟩:=h
 cases rx
 cases ry
 obtain ⟨its,r,pl,_⟩:=I.list h1
 obtain ⟨its',r',pl',_⟩:=I.list h2
 cases r'
 cases r with
 | nil=>exact SeqAt.RcNeAt.lists (e:=fun _=>true) pl.isList pl'.isList rfl hu (fun j h=>absurd h (Nat.not_lt_zero _)) _ _ _ _ ⟨.bl false,H,I,rfl,q⟩
 | cons a b=>exact SeqAt.RcNeAt.lists_lengths pl.isList pl'.isList rfl hu _ _ _ _ ⟨.bl true,H,I,rfl,q⟩
theorem ZO {k:Nat} (hr:Room k X.A):jOp X (compareOp .Eq) (rEqE X.K false):=⟨Q0 hr.units0⟩
theorem Q2 {k:Nat} (hr:Room k X.A):jOp X (compareOp .NotEq) (rEqE X.K true):=⟨Q1 hr.units0⟩
end
end L2
namespace L2
open PySem PySem.Spec PyProof.Rows
def Sq (k:Bool) (h:Heap) (l:Addr) (xs:Array Value):Prop:=match k with
 | true=>h.IsList l xs
 | false=>h.IsTuple l xs
def SqI (k:Bool) (h:Heap) (j l:Addr) (n:Nat):Prop:=match k with
 | true=>h.IsListIter j l n
 | false=>h.IsTupleIter j l n
def SqN (k:Bool):String:=if k then "list_iterator" else "tuple_iterator"
theorem Sq.at {k:Bool} {h h':Heap} {l:Addr} {xs:Array Value} (x:Sq k h l xs) (e:∀ o,h.get? l=some o->h'.get? l=some o):Sq k h' l xs:=by
 cases k <;> obtain ⟨o,ho,r⟩:=x <;> exact ⟨o,e _ ho,r⟩
theorem SqI.at {k:Bool} {h h':Heap} {j l:Addr} {n:Nat} (x:SqI k h j l n) (e:∀ o,h.get? j=some o->h'.get? j=some o):SqI k h' j l n:=by
 cases k <;> obtain ⟨o,ho,r⟩:=x <;> exact ⟨o,e _ ho,r⟩
theorem SqI.ex {k:Bool} {h:Heap} {j l:Addr} {n:Nat} (x:SqI k h j l n):∃ o,h.get? j=some o/\o.cls=.type (SqN k)/\o.data=.fields #[.ref l,.int n 0]:=by
 cases k <;> exact x
theorem SqI.of {k:Bool} {h:Heap} {j l:Addr} {n:Nat} (x:∃ o,h.get? j=some o/\o.cls=.type (SqN k)/\o.data=.fields #[.ref l,.int n 0]):SqI k h j l n:=by
 cases k <;> exact x
section
variable {P:Program} {w:World} {A:Around} {E:Value->Shared->Prop} {s:Shared}
theorem Wx {j l:Addr} {n:Nat} {xs:Array Value} {x:Value} {Q:Value->Shared->Prop} (hj:s.heap.IsTupleIter j l n) (hl:s.heap.IsTuple l xs) (hx:xs[n]?=some x)
  (q:∀ h',h'.IsTupleIter j l (n + 1)->Heap.SameBut j s.heap h'->Q x { s with heap:=h' }):wpAny (model P w) A (uK (.ref j)) Q E s:=by
 have ⟨oj,hoj,cj,dj⟩:=hj
 have ⟨ol,hol,_,m,dl⟩:=hl
 unfold uK
 refine wpAny_bind (wpAny_callSpecial?_slot hj.typeIs F.slot_tuple_iterator_next (wpAny_call_entry F.slot_tuple_iterator_next hj.typeIs F.entry_tuple_iterator_next ?_ (F.args_tuple_iterator_next_1 (.ref j))))
 refine wpAny_bind (m:=field (.ref j) 0) (wpAny_field hoj dj (x:=.ref l) rfl ?_)
 have nn:¬ ((Value.ref l == Value.none)=true):=uB
 show wpAny _ _ (ite ((Value.ref l == Value.none)=true) _ _) _ _ _
 rw [if_neg nn]
 refine wpAny_bind (m:=field (.ref j) 1) (wpAny_field hoj dj (x:=.int n 0) rfl ?_)
 refine wpAny_bind (m:=seqItems? (.ref l)) (wpAny_seqItems hol dl ?_)
 simp only [Int.toNat_natCast,hx]
 refine wpAny_bind (wpAny_setField hoj dj (by simp) (wpAny_pure ⟨x,rfl,wpAny_pure (q _ ⟨_,u0 _ hoj (Obj.isFreed_of_fields (Obj.data_mapFields dj _)),(Obj.cls_mapFields ..).trans cj,?_⟩ (Heap.SameBut.update ..))⟩))
 rw [Obj.data_mapFields dj]
 simp [rawInt]
theorem JF {j l:Addr} {n:Nat} {xs:Array Value} {Q:Value->Shared->Prop} (hA:A.handled=none) (hj:s.heap.IsTupleIter j l n) (hl:s.heap.IsTuple l xs) (hx:xs[n]?=none)
  (q:∀ h' e,Heap.ExtBut j s.heap h'->(∃ o,h'.get? e=some o/\o.cls=.type "StopIteration")->E (.ref e) { s with heap:=h' }):wpAny (model P w) A (uK (.ref j)) Q E s:=by
 have ⟨oj,hoj,cj,dj⟩:=hj
 have ⟨ol,hol,_,m,dl⟩:=hl
 unfold uK
 refine wpAny_bind (wpAny_callSpecial?_slot hj.typeIs F.slot_tuple_iterator_next (wpAny_call_entry F.slot_tuple_iterator_next hj.typeIs F.entry_tuple_iterator_next ?_ (F.args_tuple_iterator_next_1 (.ref j))))
 refine wpAny_bind (m:=field (.ref j) 0) (wpAny_field hoj dj (x:=.ref l) rfl ?_)
 have nn:¬ ((Value.ref l == Value.none)=true):=uB
 show wpAny _ _ (ite ((Value.ref l == Value.none)=true) _ _) _ _ _
 rw [if_neg nn]
 refine wpAny_bind (m:=field (.ref j) 1) (wpAny_field hoj dj (x:=.int n 0) rfl ?_)
 refine wpAny_bind (m:=seqItems? (.ref l)) (wpAny_seqItems hol dl ?_)
 simp only [Int.toNat_natCast,hx]
 refine wpAny_bind (wpAny_rule (wpAny_bind (wpAny_setField hoj dj (by simp) ?_)))
 refine wpAny_bind (m:=newExc (.type "StopIteration") []) ?_
 unfold newExc newTuple
 refine wpAny_bind (wpAny_newObj_type (wpAny_bind (m:=firstArgMember _ _) (wpAny_of_eq (a:=Value.none) (by first | rfl | (simp only [firstArgMember]; rfl)) (wpAny_newObj_type ?_ (by size_fits)))) (by size_fits))
 unfold raiseNew
 refine wpAny_bind (wpAny_handled ?_)
 rw [show A.in1.handled=none from hA]
 exact wpAny_bind (wpAny_pure (wpAny_throw (q _ _ (((Heap.SameBut.update ..).extBut.push _).push _) ⟨_,uw _ rfl,rfl⟩)))
theorem xx {k:Bool} {j l:Addr} {n:Nat} {xs:Array Value} {x:Value} {Q:Value->Shared->Prop} (hj:SqI k s.heap j l n) (hl:Sq k s.heap l xs) (hx:xs[n]?=some x)
  (q:∀ h',SqI k h' j l (n + 1)->Heap.SameBut j s.heap h'->Q x { s with heap:=h' }):wpAny (model P w) A (uK (.ref j)) Q E s:=by
 cases k with
 | true=>exact wpAny_nextOf_list_item hj hl hx q
 | false=>exact Wx hj hl hx q
theorem vY {k:Bool} {j l:Addr} {n:Nat} {xs:Array Value} {Q:Value->Shared->Prop} (hA:A.handled=none) (hj:SqI k s.heap j l n) (hl:Sq k s.heap l xs) (hx:xs[n]?=none)
  (q:∀ h' e,Heap.ExtBut j s.heap h'->(∃ o,h'.get? e=some o/\o.cls=.type "StopIteration")->E (.ref e) { s with heap:=h' }):wpAny (model P w) A (uK (.ref j)) Q E s:=by
 cases k with
 | true=>exact wpAny_nextOf_list_end hA hj hl hx q
 | false=>exact JF hA hj hl hx q
theorem Yt {k:Bool} {l:Addr} {xs:Array Value} {Q:Value->Shared->Prop} (hl:Sq k s.heap l xs) (q:Q (.ref s.heap.objs.size) { s with heap:=s.heap.push { cls:=.type (SqN k),data:=.fields #[.ref l,.int 0 0] } }) :
  wpAny (model P w) A (pyIter (.ref l)) Q E s:=by
 cases k with
 | true=>exact wpAny_pyIter_list hl q
 | false=>exact wpAny_pyIter_tuple hl q
end
abbrev za (k:Bool) (h:Heap) (l:Addr):Heap:=h.push { cls:=.type (SqN k),data:=.fields #[.ref l,.int 0 0] }
abbrev zb (k m:Bool) (h:Heap) (l r:Addr):Heap:=za m (za k h l) r
abbrev zc (k m:Bool) (h:Heap) (l r:Addr):Heap:=(zb k m h l r).push { cls:=.type "tuple",data:=.seq #[.ref h.objs.size,.ref (za k h l).objs.size] }
abbrev zd (k m:Bool) (h:Heap) (l r:Addr):Heap:=(zc k m h l r).push { cls:=.type "tuple",data:=.seq #[.none,.none] }
abbrev ze (k m:Bool) (h:Heap) (l r:Addr):Heap:=(zd k m h l r).push { cls:=.type "zip",data:=.fields #[.none,.bool false,.bool false,.ref (zb k m h l r).objs.size,.ref (zc k m h l r).objs.size] }
theorem Wy (k m:Bool) (l r:Addr) (xs ys:Array Value):Meets (Builtin.«zip.__new__» ⟨[.type "zip",.ref l,.ref r],[]⟩)
  (fun _ R s=>Sq k s.heap l xs/\Sq m s.heap r ys/\R (.ok (.ret (.ref (zd k m s.heap l r).objs.size))) { s with heap:=ze k m s.heap l r }) :=
 .of_wp fun prog w A R s h=>by
  obtain ⟨hp,g,d,tk,os⟩:=s
  obtain ⟨h1,h2,h⟩:=h
  have hs:=sub_zip
  have q1:Sq k (Shared.heap ⟨hp,g,d,tk,os⟩) l xs:=h1
  have q2:Sq m (Shared.heap ⟨za k hp l,g,d,tk,os⟩) r ys:=h2.at fun o e=>uc _ e
  wp_walk using Yt q1,Yt q2
  exact ⟨_,rfl,h⟩
structure ZS (k m:Bool) (h:Heap) (B l r:Nat) (n:Nat) (f g:Value):Prop where
 z:h.get? (B + 4)=some { cls:=.type "zip",data:=.fields #[f,g,.bool false,.ref (B + 2),.ref (B + 3)] }
 ti:IsPair h (B + 2) (.ref B) (.ref (B + 1))
 to:∃ a b,IsPair h (B + 3) a b
 i:SqI k h B l n
 j:SqI m h (B + 1) r n
theorem ZS.at {k m:Bool} {h h':Heap} {B l r:Nat} {n:Nat} {f g:Value} (x:ZS k m h B l r n f g) (e:∀ (b:Nat) o,B<=b->b<=B + 4->h.get? b=some o->h'.get? b=some o):ZS k m h' B l r n f g where
 z:=e _ _ (by lia) (by lia) x.z
 ti:=e _ _ (by lia) (by lia) x.ti
 to:=let ⟨a,b,y⟩:=x.to; ⟨a,b,e _ _ (by lia) (by lia) y⟩
 i:=x.i.at fun o=>e _ o (by lia) (by lia)
 j:=x.j.at fun o=>e _ o (by lia) (by lia)
def KeptZ (B:Nat) (h h':Heap):Prop:=∀ (c:Nat) o,(c < B\/B + 4 < c)->h.get? c=some o->h'.get? c=some o
section
variable {P:Program} {w:World} {A:Around} {E:Value->Shared->Prop} {s:Shared} {k m:Bool} {B l r:Nat} {n:Nat} {xs ys:Array Value} {x y f g:Value}
theorem jY {Q:Value->Shared->Prop} (hl:Sq k s.heap l xs) (hr:Sq m s.heap r ys)
  (q:∀ h',ZS k m h' s.heap.objs.size l r 0 .none (.bool false)->h'.objs.size=s.heap.objs.size + 5->(∀ c o,s.heap.get? c=some o->h'.get? c=some o)->Q (.ref (s.heap.objs.size + 4)) { s with heap:=h' }) :
  wpAny (model P w) A (call (.type "zip") [.ref l,.ref r]) Q E s:=by
 apply callType_new F.called_zip (by decide) (F.typeCall_zip_2 _ _) (F.newCall_zip_2 _ _) (fun obj=>F.args_object_init_3 obj _ _) F.entry_zip_new (Wy k m l r xs ys)
 refine ⟨hl,hr,?_⟩
 have s1:(za k s.heap l).objs.size=s.heap.objs.size + 1:=Ui ..
 have s2:(zb k m s.heap l r).objs.size=s.heap.objs.size + 2:=by rw [Ui,s1]
 have s3:(zc k m s.heap l r).objs.size=s.heap.objs.size + 3:=by rw [Ui,s2]
 have s4:(zd k m s.heap l r).objs.size=s.heap.objs.size + 4:=by rw [Ui,s3]
 have s5:(ze k m s.heap l r).objs.size=s.heap.objs.size + 5:=by rw [Ui,s4]
 have up:∀ {c o},(zd k m s.heap l r).get? c=some o->(ze k m s.heap l r).get? c=some o:=fun e=>uc _ e
 have p5:(ze k m s.heap l r).get? (zd k m s.heap l r).objs.size=some _:=uw _ rfl
 have p4:(ze k m s.heap l r).get? (zc k m s.heap l r).objs.size=some _:=up (uw _ rfl)
 have p3:(ze k m s.heap l r).get? (zb k m s.heap l r).objs.size=some _:=up (uc _ (uw _ rfl))
 have p2:(ze k m s.heap l r).get? (za k s.heap l).objs.size=some _:=up (uc _ (uc _ (uw _ rfl)))
 have p1:(ze k m s.heap l r).get? s.heap.objs.size=some _:=up (uc _ (uc _ (uc _ (uw _ rfl))))
 rw [s4,s2,s3] at p5
 rw [s3] at p4
 rw [s2,s1] at p3
 rw [s1] at p2
 show _/\_
 rw [s4]
 exact ⟨⟨_,p5,rfl⟩,q _ ⟨p5,p3,⟨_,_,p4⟩,.of ⟨_,p1,rfl,rfl⟩,.of ⟨_,p2,rfl,rfl⟩⟩ s5 fun c o e=>up (uc _ (uc _ (uc _ (uc _ e))))⟩
theorem jZ {Q:Value->Shared->Prop} (Z:ZS k m s.heap B l r n .none g) (hl:Sq k s.heap l xs) (hr:Sq m s.heap r ys) (ll:l < B) (rl:r < B) (hx:xs[n]?=some x) (hy:ys[n]?=some y)
  (q:∀ h',ZS k m h' B l r (n + 1) (rawInt s.heap.objs.size) (.bool false)->IsPair h' s.heap.objs.size x y->h'.objs.size=s.heap.objs.size + 1->KeptZ B s.heap h'->Q (.ref s.heap.objs.size) { s with heap:=h' }) :
  wpAny (model P w) A (Builtin.«zip.__next__» ⟨[.ref (B + 4)],[]⟩) (fun fin s'=>∃ v,fin=.done (.ret v)/\Q v s') E s:=by
 obtain ⟨a,b,hto⟩:=Z.to
 refine wpAny_bind (m:=field (.ref (B + 4)) 2) (wpAny_field Z.z rfl (x:=.bool false) rfl ?_)
 refine wpAny_bind (m:=field (.ref (B + 4)) 3) (wpAny_field Z.z rfl (x:=.ref (B + 2)) rfl (wpAny_bind (wpAny_seqItems Z.ti rfl ?_)))
 refine wpAny_bind (m:=uS (.ref (B + 4))) ?_
 unfold uS
 refine wpAny_bind (wpAny_field Z.z rfl (x:=.none) rfl (wpAny_pure ?_))
 rw [if_pos rfl]
 refine wpAny_bind (wpAny_rule (wpAny_bind (wpAny_field Z.z rfl (x:=.ref (B + 3)) rfl (wpAny_bind (wpAny_setField_rec Z.z (by simp) fun h1 z1 u1=>wpAny_bind ?_)))))
 replace z1:h1.get? (B + 4)=some { cls:=.type "zip",data:=.fields #[.ellipsis,g,.bool false,.ref (B + 2),.ref (B + 3)] }:=z1
 have k1:∀ (c:Nat) o,c≠B + 4->s.heap.get? c=some o->h1.get? c=some o:=fun c o n e=>(u1.2 c n).trans e
 simp only [List.zipIdx_cons,List.zipIdx_nil,List.forIn_cons,List.forIn_nil]
 refine wpAny_bind (wpAny_bind (wpAny_onRaise (wpAny_bind (m:=uK (.ref B)) ?_)))
 refine xx (Z.i.at fun o=>k1 _ o (by lia)) (hl.at fun o=>k1 _ o (by lia)) hx fun h2 i2 u2=>wpAny_pure ?_
 have k2:∀ (c:Nat) o,c≠B->h1.get? c=some o->h2.get? c=some o:=fun c o n e=>(u2.2 c n).trans e
 have to2:IsPair h2 (B + 3) a b:=k2 _ _ (by lia) (k1 _ _ (by lia) hto)
 refine wpAny_bind (wpAny_seqItems to2 rfl (wpAny_bind (wpAny_updateSeq_pair to2 fun h3 to3 u3=>?_)))
 replace to3:IsPair h3 (B + 3) x b:=to3
 have k3:∀ (c:Nat) o,c≠B + 3->h2.get? c=some o->h3.get? c=some o:=fun c o n e=>(u3.2 c n).trans e
 refine wpAny_bind (wpAny_letGo (wpAny_pure (wpAny_bind (wpAny_bind (wpAny_onRaise (wpAny_bind (m:=uK (.ref (B + 1))) ?_))))))
 refine xx (Z.j.at fun o e=>k3 _ o (by lia) (k2 _ o (by lia) (k1 _ o (by lia) e))) (hr.at fun o e=>k3 _ o (by lia) (k2 _ o (by lia) (k1 _ o (by lia) e))) hy fun h4 i4 u4=>wpAny_pure ?_
 have k4:∀ (c:Nat) o,c≠B + 1->h3.get? c=some o->h4.get? c=some o:=fun c o n e=>(u4.2 c n).trans e
 have to4:IsPair h4 (B + 3) x b:=k4 _ _ (by lia) to3
 refine wpAny_bind (wpAny_seqItems to4 rfl (wpAny_bind (wpAny_updateSeq_pair to4 fun h5 to5 u5=>?_)))
 replace to5:IsPair h5 (B + 3) x y:=to5
 have k5:∀ (c:Nat) o,c≠B + 3->h4.get? c=some o->h5.get? c=some o:=fun c o n e=>(u5.2 c n).trans e
 refine wpAny_bind (wpAny_letGo (wpAny_pure (wpAny_pure (wpAny_bind (wpAny_seqItems to5 rfl (wpAny_bind (wpAny_newTuple ?_)))))))
 have sz:h5.objs.size=s.heap.objs.size:=by rw [u5.1,u4.1,u3.1,u2.1,u1.1]
 have z5:h5.get? (B + 4)=some { cls:=.type "zip",data:=.fields #[.ellipsis,g,.bool false,.ref (B + 2),.ref (B + 3)] }:=k5 _ _ (by lia) (k4 _ _ (by lia) (k3 _ _ (by lia) (k2 _ _ (by lia) z1)))
 have lt4:B + 4 < h5.objs.size:=um z5
 refine wpAny_bind (m:=U7 (.ref (B + 4)) (.ref h5.objs.size)) ?_
 unfold U7
 refine wpAny_bind (wpAny_setField_rec (uc { cls:=.type "tuple",data:=.seq #[x,y] } z5) (by simp) fun h7 z7 u7=>?_)
 refine wpAny_setField_rec z7 (by simp) fun h8 z8 u8=>wpAny_pure ⟨.ref h5.objs.size,rfl,?_⟩
 have k8:∀ (c:Nat) o,c≠B + 4->h5.get? c=some o->h8.get? c=some o:=fun c o n e=>(u8.2 c n).trans ((u7.2 c n).trans (uc _ e))
 have p8:IsPair h8 h5.objs.size x y:=(u8.2 _ (UI lt4)).trans ((u7.2 _ (UI lt4)).trans (uw _ rfl))
 have s8:h8.objs.size=h5.objs.size + 1:=by rw [u8.1,u7.1,Ui]
 rw [sz] at p8 s8 ⊢
 refine q h8 ⟨?_,k8 _ _ (by lia) (k5 _ _ (by lia) (k4 _ _ (by lia) (k3 _ _ (by lia) (k2 _ _ (by lia) (k1 _ _ (by lia) Z.ti))))),⟨x,y,k8 _ _ (by lia) to5⟩,
  i2.at fun o e=>k8 _ _ (by lia) (k5 _ _ (by lia) (k4 _ _ (by lia) (k3 _ _ (by lia) e))),i4.at fun o e=>k8 _ _ (by lia) (k5 _ _ (by lia) e)⟩ p8 s8
  fun c o hc e=>k8 _ _ (by lia) (k5 _ _ (by lia) (k4 _ _ (by lia) (k3 _ _ (by lia) (k2 _ _ (by lia) (k1 _ _ (by lia) e)))))
 rw [<- sz]
 exact z8
theorem Wz {a:Addr} {o:Obj} {Q:Option Obj->Shared->Prop} (ho:s.heap.get? a=some o) (h:Q (some o) s):wpAny (model P w) A (loadIfAlive a) Q E s:=fun Γ p _=>by
 unfold loadIfAlive
 rw [Sem.wp_loadIfAlive,ho]
 simpa using h
theorem j1 {Q:Bool->Shared->Prop} {T:Nat} {ot:Obj} {c:Bool} (hz:s.heap.get? (B + 4)=some { cls:=.type "zip",data:=.fields #[rawInt T,.bool c,.bool false,.ref (B + 2),.ref (B + 3)] }) (hT:s.heap.get? T=some ot)
  (q:∀ h1,h1.get? (B + 4)=some { cls:=.type "zip",data:=.fields #[rawInt T,.bool true,.bool false,.ref (B + 2),.ref (B + 3)] }->h1.objs.size=s.heap.objs.size->(∀ (d:Nat) o,d≠B + 4->s.heap.get? d=some o->h1.get? d=some o)->Q false { s with heap:=h1 }) :
  wpAny (model P w) A (uS (.ref (B + 4))) Q E s:=by
 unfold uS
 refine wpAny_bind (wpAny_field hz rfl (x:=rawInt T) rfl ?_)
 refine wpAny_bind (m:=loadIfAlive ((T:Int).toNat)) (Wz (o:=ot) (by rw [Int.toNat_natCast]; exact hT) ?_)
 rw [if_neg (by simp)]
 refine wpAny_bind (wpAny_field hz rfl (x:=.bool c) rfl ?_)
 cases c with
 | true =>
  rw [if_neg (by decide)]
  exact wpAny_pure (q _ hz rfl fun d o _ e=>e)
 | false =>
  rw [if_pos (by decide)]
  exact wpAny_bind (wpAny_setField_rec hz (by simp) fun h1 z1 u1=>wpAny_pure (q h1 z1 u1.1 fun d o n e=>(u1.2 d n).trans e))
theorem WA {Q:Value->Shared->Prop} {T:Nat} {ot:Obj} {c:Bool} (Z:ZS k m s.heap B l r n (rawInt T) (.bool c)) (hT:s.heap.get? T=some ot) (hl:Sq k s.heap l xs) (hr:Sq m s.heap r ys) (ll:l < B) (rl:r < B) (hx:xs[n]?=some x) (hy:ys[n]?=some y)
  (q:∀ h',ZS k m h' B l r (n + 1) (rawInt T) (.bool true)->IsPair h' s.heap.objs.size x y->h'.objs.size=s.heap.objs.size + 1->KeptZ B s.heap h'->Q (.ref s.heap.objs.size) { s with heap:=h' }) :
  wpAny (model P w) A (Builtin.«zip.__next__» ⟨[.ref (B + 4)],[]⟩) (fun fin s'=>∃ v,fin=.done (.ret v)/\Q v s') E s:=by
 obtain ⟨a,b,hto⟩:=Z.to
 refine wpAny_bind (m:=field (.ref (B + 4)) 2) (wpAny_field Z.z rfl (x:=.bool false) rfl ?_)
 refine wpAny_bind (m:=field (.ref (B + 4)) 3) (wpAny_field Z.z rfl (x:=.ref (B + 2)) rfl (wpAny_bind (wpAny_seqItems Z.ti rfl ?_)))
 refine wpAny_bind (m:=uS (.ref (B + 4))) (j1 Z.z hT fun h1 z1 s1 k1=>?_)
 rw [if_neg uB]
 refine wpAny_bind ?_
 rw [<- Array.forIn_toList]
 simp only [List.forIn_cons,List.forIn_nil]
 refine wpAny_bind (wpAny_bind (wpAny_holding (wpAny_bind (m:=uK (.ref B)) ?_)))
 refine xx (Z.i.at fun o=>k1 _ o (by lia)) (hl.at fun o=>k1 _ o (by lia)) hx fun h2 i2 u2=>wpAny_pure (wpAny_pure ?_)
 have k2:∀ (c:Nat) o,c≠B->h1.get? c=some o->h2.get? c=some o:=fun c o n e=>(u2.2 c n).trans e
 refine wpAny_bind (wpAny_bind (wpAny_holding (wpAny_bind (m:=uK (.ref (B + 1))) ?_)))
 refine xx (Z.j.at fun o e=>k2 _ o (by lia) (k1 _ o (by lia) e)) (hr.at fun o e=>k2 _ o (by lia) (k1 _ o (by lia) e)) hy fun h4 i4 u4=>wpAny_pure (wpAny_pure (wpAny_pure ?_))
 have k4:∀ (c:Nat) o,c≠B + 1->h2.get? c=some o->h4.get? c=some o:=fun c o n e=>(u4.2 c n).trans e
 have sz:h4.objs.size=s.heap.objs.size:=by rw [u4.1,u2.1]; exact s1
 refine wpAny_bind (wpAny_newTuple (hsz:=by show 2<=sizeLine; decide) (wpAny_pure ⟨.ref h4.objs.size,rfl,?_⟩))
 have p5:IsPair (h4.push { cls:=.type "tuple",data:=.seq #[x,y] }) h4.objs.size x y:=uw _ rfl
 have s5:(h4.push { cls:=.type "tuple",data:=.seq #[x,y] }).objs.size=h4.objs.size + 1:=Ui ..
 rw [sz] at p5 s5 ⊢
 have k5:∀ (c:Nat) o,h4.get? c=some o->(h4.push { cls:=.type "tuple",data:=.seq #[x,y] }).get? c=some o:=fun c o e=>uc _ e
 exact q _ ⟨k5 _ _ (k4 _ _ (by lia) (k2 _ _ (by lia) z1)),k5 _ _ (k4 _ _ (by lia) (k2 _ _ (by lia) (k1 _ _ (by lia) Z.ti))),⟨a,b,k5 _ _ (k4 _ _ (by lia) (k2 _ _ (by lia) (k1 _ _ (by lia) hto)))⟩,
  i2.at fun o e=>k5 _ _ (k4 _ _ (by lia) e),i4.at fun o e=>k5 _ _ e⟩ p5 s5 fun c o hc e=>k5 _ _ (k4 _ _ (by lia) (k2 _ _ (by lia) (k1 _ _ (by lia) e)))
theorem JG {Q:PySem.Fin->Shared->Prop} (hA:A.handled=none) (Z:ZS k m s.heap B l r n .none g) (hl:Sq k s.heap l xs) (hr:Sq m s.heap r ys) (ll:l < B) (rl:r < B) (hx:xs[n]?=none\/ys[n]?=none)
  (q:∀ h' e,KeptZ B s.heap h'->(∃ o,h'.get? e=some o/\o.cls=.type "StopIteration")->E (.ref e) { s with heap:=h' }):wpAny (model P w) A (Builtin.«zip.__next__» ⟨[.ref (B + 4)],[]⟩) Q E s:=by
 obtain ⟨a,b,hto⟩:=Z.to
 refine wpAny_bind (m:=field (.ref (B + 4)) 2) (wpAny_field Z.z rfl (x:=.bool false) rfl ?_)
 refine wpAny_bind (m:=field (.ref (B + 4)) 3) (wpAny_field Z.z rfl (x:=.ref (B + 2)) rfl (wpAny_bind (wpAny_seqItems Z.ti rfl ?_)))
 refine wpAny_bind (m:=uS (.ref (B + 4))) ?_
 unfold uS
 refine wpAny_bind (wpAny_field Z.z rfl (x:=.none) rfl (wpAny_pure ?_))
 rw [if_pos rfl]
 refine wpAny_bind (wpAny_rule (wpAny_bind (wpAny_field Z.z rfl (x:=.ref (B + 3)) rfl (wpAny_bind (wpAny_setField_rec Z.z (by simp) fun h1 z1 u1=>wpAny_bind ?_)))))
 replace z1:h1.get? (B + 4)=some { cls:=.type "zip",data:=.fields #[.ellipsis,g,.bool false,.ref (B + 2),.ref (B + 3)] }:=z1
 have k1:∀ (c:Nat) o,c≠B + 4->s.heap.get? c=some o->h1.get? c=some o:=fun c o n e=>(u1.2 c n).trans e
 have nz:∀ {h:Heap} {e:Nat} {v:Value} {o:Obj},h.get? (B + 4)=some { cls:=.type "zip",data:=.fields #[v,g,.bool false,.ref (B + 2),.ref (B + 3)] }->h.get? e=some o->o.cls=.type "StopIteration"->e≠B + 4:=fun h1 h2 h3 e=>by
  rw [e,h1] at h2
  cases h2
  simp at h3
 simp only [List.zipIdx_cons,List.zipIdx_nil,List.forIn_cons,List.forIn_nil]
 refine wpAny_bind (wpAny_bind (wpAny_onRaise (wpAny_bind (m:=uK (.ref B)) ?_)))
 cases e1:xs[n]? with
 | none =>
  refine vY hA (Z.i.at fun o=>k1 _ o (by lia)) (hl.at fun o=>k1 _ o (by lia)) e1 fun h2 e u2 he=>?_
  obtain ⟨oe,he,ce⟩:=he
  have k2:∀ (c:Nat) o,c≠B->h1.get? c=some o->h2.get? c=some o:=fun c o n e=>u2 c o n e
  have z2:=k2 _ _ (show B + 4≠B by lia) z1
  refine wpAny_setField_rec z2 (by simp) fun h3 z3 u3=>q h3 e (fun c o hc x=>(u3.2 c (show (c:Nat)≠B + 4 by lia)).trans (k2 _ _ (by lia) (k1 _ _ (by lia) x))) ⟨oe,(u3.2 e (nz z2 he ce)).trans he,ce⟩
 | some x =>
  have hy:ys[n]?=none:=hx.resolve_left (by rw [e1]; simp)
  refine xx (Z.i.at fun o=>k1 _ o (by lia)) (hl.at fun o=>k1 _ o (by lia)) e1 fun h2 i2 u2=>wpAny_pure ?_
  have k2:∀ (c:Nat) o,c≠B->h1.get? c=some o->h2.get? c=some o:=fun c o n e=>(u2.2 c n).trans e
  have to2:IsPair h2 (B + 3) a b:=k2 _ _ (by lia) (k1 _ _ (by lia) hto)
  refine wpAny_bind (wpAny_seqItems to2 rfl (wpAny_bind (wpAny_updateSeq_pair to2 fun h3 to3 u3=>?_)))
  have k3:∀ (c:Nat) o,c≠B + 3->h2.get? c=some o->h3.get? c=some o:=fun c o n e=>(u3.2 c n).trans e
  refine wpAny_bind (wpAny_letGo (wpAny_pure (wpAny_bind (wpAny_bind (wpAny_onRaise (wpAny_bind (m:=uK (.ref (B + 1))) ?_))))))
  refine vY hA (Z.j.at fun o e=>k3 _ o (by lia) (k2 _ o (by lia) (k1 _ o (by lia) e))) (hr.at fun o e=>k3 _ o (by lia) (k2 _ o (by lia) (k1 _ o (by lia) e))) hy fun h4 e u4 he=>?_
  obtain ⟨oe,he,ce⟩:=he
  have k4:∀ (c:Nat) o,c≠B + 1->h3.get? c=some o->h4.get? c=some o:=fun c o n e=>u4 c o n e
  have z4:=k4 _ _ (show B + 4≠B + 1 by lia) (k3 _ _ (by lia) (k2 _ _ (by lia) z1))
  refine wpAny_setField_rec z4 (by simp) fun h5 z5 u5=>q h5 e (fun c o hc x=>(u5.2 c (show (c:Nat)≠B + 4 by lia)).trans (k4 _ _ (by lia) (k3 _ _ (by lia) (k2 _ _ (by lia) (k1 _ _ (by lia) x))))) ⟨oe,(u5.2 e (nz z4 he ce)).trans he,ce⟩
theorem vZ {Q:PySem.Fin->Shared->Prop} {T:Nat} {ot:Obj} {c:Bool} (hA:A.handled=none) (Z:ZS k m s.heap B l r n (rawInt T) (.bool c)) (hT:s.heap.get? T=some ot) (hl:Sq k s.heap l xs) (hr:Sq m s.heap r ys) (ll:l < B) (rl:r < B) (hx:xs[n]?=none\/ys[n]?=none)
  (q:∀ h' e,KeptZ B s.heap h'->(∃ o,h'.get? e=some o/\o.cls=.type "StopIteration")->E (.ref e) { s with heap:=h' }):wpAny (model P w) A (Builtin.«zip.__next__» ⟨[.ref (B + 4)],[]⟩) Q E s:=by
 refine wpAny_bind (m:=field (.ref (B + 4)) 2) (wpAny_field Z.z rfl (x:=.bool false) rfl ?_)
 refine wpAny_bind (m:=field (.ref (B + 4)) 3) (wpAny_field Z.z rfl (x:=.ref (B + 2)) rfl (wpAny_bind (wpAny_seqItems Z.ti rfl ?_)))
 refine wpAny_bind (m:=uS (.ref (B + 4))) (j1 Z.z hT fun h1 z1 s1 k1=>?_)
 rw [if_neg uB]
 refine wpAny_bind ?_
 rw [<- Array.forIn_toList]
 simp only [List.forIn_cons,List.forIn_nil]
 refine wpAny_bind (wpAny_bind (wpAny_holding (wpAny_bind (m:=uK (.ref B)) ?_)))
 cases e1:xs[n]? with
 | none=>exact vY hA (Z.i.at fun o=>k1 _ o (by lia)) (hl.at fun o=>k1 _ o (by lia)) e1 fun h2 e u2 he=>q h2 e (fun c o hc x=>u2 _ _ (show (c:Nat)≠B by lia) (k1 _ _ (by lia) x)) he
 | some x =>
  have hy:ys[n]?=none:=hx.resolve_left (by rw [e1]; simp)
  refine xx (Z.i.at fun o=>k1 _ o (by lia)) (hl.at fun o=>k1 _ o (by lia)) e1 fun h2 i2 u2=>wpAny_pure (wpAny_pure ?_)
  have k2:∀ (c:Nat) o,c≠B->h1.get? c=some o->h2.get? c=some o:=fun c o n e=>(u2.2 c n).trans e
  refine wpAny_bind (wpAny_bind (wpAny_holding (wpAny_bind (m:=uK (.ref (B + 1))) ?_)))
  exact vY hA (Z.j.at fun o e=>k2 _ o (by lia) (k1 _ o (by lia) e)) (hr.at fun o e=>k2 _ o (by lia) (k1 _ o (by lia) e)) hy fun h4 e u4 he=>q h4 e (fun c o hc x=>u4 _ _ (show (c:Nat)≠B + 1 by lia) (k2 _ _ (by lia) (k1 _ _ (by lia) x))) he
end
end L2
namespace L2
open PySem PySem.Spec PyProof.Rows
def ZF (B:Nat) (h:Heap) (f g:Value):Prop:=f=.none\/∃ (T:Nat) (c:Bool) (o:Obj),f=rawInt T/\g=.bool c/\h.get? T=some o/\B + 5 < T
section
variable {P:Program} {w:World} {A:Around} {E:Value->Shared->Prop} {s:Shared} {k m:Bool} {B l r:Nat} {n:Nat} {xs ys:Array Value} {x y f g:Value}
theorem WB {Q:Option Value->Shared->Prop} (Z:ZS k m s.heap B l r n f g) (hf:ZF B s.heap f g) (hl:Sq k s.heap l xs) (hr:Sq m s.heap r ys) (ll:l < B) (rl:r < B) (hx:xs[n]?=some x) (hy:ys[n]?=some y)
  (q:∀ h' (T:Nat) (c:Bool),ZS k m h' B l r (n + 1) (rawInt T) (.bool c)->(T=s.heap.objs.size\/B + 5 < T/\∃ o,s.heap.get? T=some o)->IsPair h' s.heap.objs.size x y->h'.objs.size=s.heap.objs.size + 1->KeptZ B s.heap h'->Q (some (.ref s.heap.objs.size)) { s with heap:=h' }) :
  wpAny (model P w) A (pyNext (.ref (B + 4))) Q E s:=by
 have ty:s.TypeIs (.ref (B + 4)) "zip":=⟨_,Z.z,rfl⟩
 unfold pyNext
 refine wpAny_bind (wpAny_attempt (wpAny_callSpecial?_slot ty F.slot_zip_next (wpAny_call_entry F.slot_zip_next ty F.entry_zip_next ?_ (F.args_zip_next_1 (.ref (B + 4))))))
 rcases hf with rfl | ⟨T,c,o,rfl,rfl,hT,lT⟩
 ·exact jZ Z hl hr ll rl hx hy fun h' z p sz kz=>wpAny_pure (q h' _ _ z (.inl rfl) p sz kz)
 ·exact WA Z hT hl hr ll rl hx hy fun h' z p sz kz=>wpAny_pure (q h' _ _ z (.inr ⟨lT,o,hT⟩) p sz kz)
theorem j2 {Q:Option Value->Shared->Prop} (hA:A.handled=none) (Z:ZS k m s.heap B l r n f g) (hf:ZF B s.heap f g) (hl:Sq k s.heap l xs) (hr:Sq m s.heap r ys) (ll:l < B) (rl:r < B) (hx:xs[n]?=none\/ys[n]?=none)
  (q:∀ h',KeptZ B s.heap h'->Q none { s with heap:=h' }):wpAny (model P w) A (pyNext (.ref (B + 4))) Q E s:=by
 have ty:s.TypeIs (.ref (B + 4)) "zip":=⟨_,Z.z,rfl⟩
 unfold pyNext
 refine wpAny_bind (wpAny_attempt (wpAny_callSpecial?_slot ty F.slot_zip_next (wpAny_call_entry F.slot_zip_next ty F.entry_zip_next ?_ (F.args_zip_next_1 (.ref (B + 4))))))
 have fin:∀ h' e,KeptZ B s.heap h'->(∃ o,h'.get? e=some o/\o.cls=.type "StopIteration")->wpAny (model P w) A (do
   if <- isInstance (.ref e) (.type "StopIteration") then pure none else throw (.ref e)) Q E { s with heap:=h' }:=by
  intro h' e kz ⟨o,ho,hc⟩
  exact wpAny_bind (wpAny_isInstance (T:="StopIteration") (b:=true) ⟨o,ho,hc⟩ isSubtype_stop (wpAny_pure (q _ kz)))
 rcases hf with rfl | ⟨T,c,o,rfl,rfl,hT,lT⟩
 ·exact JG hA Z hl hr ll rl hx fun h' e kz he=>fin h' e kz he
 ·exact vZ hA Z hT hl hr ll rl hx fun h' e kz he=>fin h' e kz he
end
section
variable {P:Program} {w:World} {A:Around} {R:Result->Shared->Prop} {h0:Heap} {k m:Bool} {B l r N:Nat} {xs ys:Array Value} {res:Value}
end
end L2
namespace L2
open PySem PySem.Spec PyProof.Rows
section
variable {P:Program} {w:World} {A:Around} {E:Value->Shared->Prop} {s:Shared} {k m:Bool} {B l r N:Nat} {xs ys:Array Value}
end
theorem Inv.sq {X:Cx} {pins:List (Addr × Obj)} {σ:St} {H:Hp} {s:Shared} {a:Addr} {xs:List V} (I:Inv X pins σ H s) (h:SqL X.K H a xs\/SqT X.K H a xs):∃ (k:Bool) (its:List Value),Vals xs its/\Sq k s.heap a its.toArray/\xs.length<=sizeLine/\(a:Nat) < s.heap.objs.size:=by
 rcases h with h | h
 ·obtain ⟨its,r,p,z⟩:=I.list h
  have ⟨o,n,e,_⟩:=p
  exact ⟨true,its,r,p.isList,z,um e⟩
 ·obtain ⟨its,r,p,z⟩:=I.tuple h
  have ⟨o,e,_⟩:=p
  exact ⟨false,its,r,p,z,um e⟩
section
variable {X:Cx} {a b:Expr} {ta:TA} {p1 p2 pos1 pos2:Pos}
end
end L2
namespace L2
open PySem PySem.Spec PyProof.Rows
def SqK (k:Bool) (K:ua) (H:Hp) (a:Addr) (xs:List V):Prop:=match k with
 | true=>SqL K H a xs
 | false=>SqT K H a xs
theorem Inv.sqk {X:Cx} {pins:List (Addr × Obj)} {σ:St} {H:Hp} {s:Shared} {k:Bool} {a:Addr} {xs:List V} (I:Inv X pins σ H s) (h:SqK k X.K H a xs):∃ its:List Value,Vals xs its/\Sq k s.heap a its.toArray/\xs.length<=sizeLine/\(a:Nat) < s.heap.objs.size:=by
 cases k with
 | true =>
  obtain ⟨its,r,p,z⟩:=I.list h
  have ⟨o,n,e,_⟩:=p
  exact ⟨its,r,p.isList,z,um e⟩
 | false =>
  obtain ⟨its,r,p,z⟩:=I.tuple h
  have ⟨o,e,_⟩:=p
  exact ⟨its,r,p,z,um e⟩
theorem Inv.sqk_inj {X:Cx} {pins:List (Addr × Obj)} {σ:St} {H:Hp} {s:Shared} {k:Bool} {a:Addr} {xs ys:List V} (I:Inv X pins σ H s) (h:SqK k X.K H a xs) (h':SqK k X.K H a ys):xs=ys:=by
 cases k with
 | true=>exact I.list_inj h h'
 | false=>exact I.tuple_inj h h'
def Itz (K:ua) (k m:Bool) (a b:Addr):It :=
 ⟨fun i H=>∃ xs ys x y,SqK k K H a xs/\SqK m K H b ys/\xs[i]?=some x/\ys[i]?=some y,
   fun i H v H'=>∃ T x y,v=.ref T/\H T=none/\H'=upd H T (.tup [x,y])/\(∀ xs,SqK k K H a xs->xs[i]?=some x)/\∀ ys,SqK m K H b ys->ys[i]?=some y,
   fun i H=>∃ xs ys,SqK k K H a xs/\SqK m K H b ys/\(xs.length<=i\/ys.length<=i)⟩
theorem KeptZ.of {B:Nat} {h h':Heap} (z:KeptZ B h h'):∀ (b:Nat) o,b ∉ [B,B + 1,B + 2,B + 3,B + 4]->h.get? b=some o->h'.get? b=some o:=fun b o n e=>z b o (by simp only [uq,UC,or_false,not_or] at n; lia) e
theorem Yu {k m:Bool} {h:Heap} {B l r n:Nat} {f g:Value} (Z:ZS k m h B l r n f g):∀ b∈[B,B + 1,B + 2,B + 3,B + 4],∃ o,h.get? b=some o/\∀ v,o.data≠.cell v:=by
 intro b hb
 simp only [uq,UC,or_false] at hb
 rcases hb with rfl | rfl | rfl | rfl | rfl
 ·obtain ⟨o,e,_,d⟩:=Z.i.ex
  exact ⟨o,e,fun v z=>by rw [d] at z; cases z⟩
 ·obtain ⟨o,e,_,d⟩:=Z.j.ex
  exact ⟨o,e,fun v z=>by rw [d] at z; cases z⟩
 ·exact ⟨_,Z.ti,fun v z=>by cases z⟩
 ·obtain ⟨x,y,e⟩:=Z.to
  exact ⟨_,e,fun v z=>by cases z⟩
 ·exact ⟨_,Z.z,fun v z=>by cases z⟩
theorem WC {P:Program} {w:World} {K:ua} {elts:List Expr} {n:Nat} {pos:Pos} {k m:Bool} {a b:Addr} {B:Nat} (la:(a:Nat) < B) (lb:(b:Nat) < B) :
  Turn P w K (.Tuple elts n pos) (Itz K k m a b) [B,B + 1,B + 2,B + 3,B + 4] (B + 4) (fun i h=>ZS k m h B a b i .none (.bool false)) where
 mem:=by simp
 obj:=fun i h st=>Yu st
 keep:=fun i h h' st kp=>st.at fun c o h1 h2 e=>kp c (by
  have:c=B\/c=B + 1\/c=B + 2\/c=B + 3\/c=B + 4:=by lia
  simpa using this) o e
 item:=by
  intro X hP hw hK hc i pins s σ H E I hf st hg
  subst hP hw hK
  obtain ⟨xs,ys,x,y,h1,h2,hx,hy⟩:=hg
  obtain ⟨i1,v1,q1,z1,l1⟩:=I.sqk h1
  obtain ⟨i2,v2,q2,z2,l2⟩:=I.sqk h2
  obtain ⟨u,eu,ru⟩:=v1.get hx
  obtain ⟨v,ev,rv⟩:=v2.get hy
  have ty:s.TypeIs (.ref (B + 4)) "zip":=⟨_,st.z,rfl⟩
  unfold pyNext
  refine wpAny_bind (wpAny_attempt (wpAny_callSpecial?_slot ty F.slot_zip_next (wpAny_call_entry F.slot_zip_next ty F.entry_zip_next ?_ (F.args_zip_next_1 (.ref (B + 4))))))
  refine jZ st q1 q2 la lb (by simpa using eu) (by simpa using ev) fun h' z p sz kz=>wpAny_pure ⟨_,rfl,?_⟩
  have new:ObjOk X.prog X.w (upd H s.heap.objs.size (.tup [x,y])) h' s.heap.objs.size (.tup [x,y]):=⟨by show 2<=sizeLine; decide,[u,v],.cons ru (.cons rv .nil),⟨_,p,rfl,rfl,_,rfl⟩⟩
  have I1:Inv X pins σ (upd H s.heap.objs.size (.tup [x,y])) { s with heap:=h' }:=I.turnsLaid (t':=s.toks) (ch:=[B,B + 1,B + 2,B + 3,B + 4]) kz.of hf (ui _) new
  have hn:∀ c∈[B,B + 1,B + 2,B + 3,B + 4],upd H s.heap.objs.size (.tup [x,y]) c=none:=fun c hc=>by
   obtain ⟨o,e,_⟩:=Yu st c hc
   rw [zm (uQ (um e))]
   exact (hf c hc).1
  have hf1:∀ c∈[B,B + 1,B + 2,B + 3,B + 4],FpOk X pins (upd H s.heap.objs.size (.tup [x,y])) c:=fun c hc=>⟨hn c hc,(hf c hc).2⟩
  refine wpAny_letOwnedTupleGo_zip z.z fun h3 z2 u2=>?_
  have I2:Inv X pins σ (upd H s.heap.objs.size (.tup [x,y])) { s with heap:=h3 }:=Inv.turns (s:={ s with heap:=h' }) (t':=s.toks) (ch:=[B,B + 1,B + 2,B + 3,B + 4]) I1 (fun c o hc e=>(u2.2 c fun z=>hc (by simp [z])).trans e) hf1
  refine ⟨.ref s.heap.objs.size,_,I2,rfl,⟨_,x,y,rfl,I.fresh,rfl,fun zs hz=>by rw [I.sqk_inj hz h1]; exact hx,fun zs hz=>by rw [I.sqk_inj hz h2]; exact hy⟩,?_,hn⟩
  have up:∀ (c:Nat) o,c≠B + 4->h'.get? c=some o->h3.get? c=some o:=fun c o n e=>(u2.2 c n).trans e
  exact ⟨z2,up _ _ (by lia) z.ti,let ⟨c,d,e⟩:=z.to; ⟨c,d,up _ _ (by lia) e⟩,z.i.at fun o e=>up _ _ (by lia) e,z.j.at fun o e=>up _ _ (by lia) e⟩
 done:=by
  intro X hP hw hK hc i pins s σ H E I hf st hg
  subst hP hw hK
  obtain ⟨xs,ys,h1,h2,hl⟩:=hg
  obtain ⟨i1,v1,q1,z1,l1⟩:=I.sqk h1
  obtain ⟨i2,v2,q2,z2,l2⟩:=I.sqk h2
  have n1:=v1.length
  have n2:=v2.length
  refine j2 (I.ok.hd hc) st (.inl rfl) q1 q2 la lb ?_ fun h' kz=>⟨rfl,I.turns (t':=s.toks) (ch:=[B,B + 1,B + 2,B + 3,B + 4]) kz.of hf⟩
  rcases hl with hl | hl
  ·exact .inl (by simp; lia)
  ·exact .inr (by simp; lia)
 self:=fun _ _ _ _ _ st h=>by
  have ty:Shared.TypeIs _ (.ref (B + 4)) "zip":=⟨_,st.z,rfl⟩
  exact wpAny_pyIter_slot ty F.slot_zip_iter (wpAny_call_entry F.slot_zip_iter ty F.entry_zip_iter (wpAny_pure ⟨_,rfl,"zip",_,ty,F.slot_zip_next.lookup,h⟩) (F.args_zip_iter_1 (.ref (B + 4))))
section
variable {X:Cx} {elts:List Expr} {n:Nat} {tpos:Pos}
def iZip (K:ua) (ta:TA):TI:=fun σ H R=>ta σ H fun vs H1=>∃ a b k m xs ys,vs=[.ref a,.ref b]/\SqK k K H1 a xs/\SqK m K H1 b ys/\R (Itz K k m a b) H1
theorem Q3 {a b:Expr} {ta:TA} {p pos:Pos} (hg:Gl X "zip") (hm:X.mg "zip"=none) (ha:PA X [a,b] ta) (h1:starEach [a,b] X.env=[(false,eval a X.env),(false,eval b X.env)]:=by rfl) (h2:starEach [b] X.env=[(false,eval b X.env)]:=by rfl) :
  PI X (.Tuple elts n tpos) (.Call (.Name "zip" p) [a,b] [] pos) (iZip X.K ta):=by
 intro pins s σ H R I h
 refine Call_ (yZ I hg hm boot_zip (Uh (thn (ha pos pins s σ H _ I h) fun us s1 g=>?_) (by rw [h1,h2]) (by rw [h2]; rfl)))
 obtain ⟨vs,H1,I1,r1,a1,b1,k,m,xs,ys,rfl,g1,g2,q⟩:=g
 obtain ⟨u,u',rfl,e1,e2⟩:=X7 r1
 cases e1
 cases e2
 obtain ⟨i1,v1,q1,z1,l1⟩:=I1.sqk g1
 obtain ⟨i2,v2,q2,z2,l2⟩:=I1.sqk g2
 refine jY q1 q2 fun h' Z sz kp=>?_
 have tz:=WC (P:=X.prog) (w:=X.w) (K:=X.K) (elts:=elts) (n:=n) (pos:=tpos) (k:=k) (m:=m) l1 l2
 refine tz.self X.A 0 { s1 with heap:=h' } _ _ Z ⟨s1.heap.objs.size + 4,_,_,_,H1,rfl,I1.kept (t':=s1.toks) kp,tz,Z,fun c hc=>?_,q⟩
 have hc':c=s1.heap.objs.size\/c=s1.heap.objs.size + 1\/c=s1.heap.objs.size + 2\/c=s1.heap.objs.size + 3\/c=s1.heap.objs.size + 4:=by simpa using hc
 have le:s1.heap.objs.size<=c:=by
  rcases hc' with e | e | e | e | e <;> rw [e] <;> first | exact ui _ | exact U3 _ _
 exact I1.fpOk le (I1.hok.fresh le)
theorem Q4 {a b:Expr} {t:TA} {p pos:Pos} (hg:Gl X "zip") (hm:X.mg "zip"=none) (ha:jA X [a,b] t) (h1:zJ a=false:=by rfl) (h2:zJ b=false:=by rfl):jI X (.Tuple elts n tpos) (.Call (.Name "zip" p) [a,b] [] pos) (iZip X.K t) :=
 ⟨Q3 hg hm ha.out (by rw [zK h1,zK h2]; rfl) (by rw [zK h2]; rfl)⟩
end
end L2
namespace L2
open PySem PySem.Spec PyProof.Rows
structure Ca (P:Program) (w:World) (K:ua) (mg:Str->Option Value) (base:Heap) (CX:CXT) (k:Nat) (x:Str) (ps:List Str) (sp:Sp):Prop where
 ex:∃ f fd,FnOk P w K mg base CX k f fd ps sp/\Binds K fd ps []/\uU K (.ref f)=true/\mg x=some (.ref f)
structure Me (P:Program) (w:World) (K:ua) (mg:Str->Option Value) (base:Heap) (CX:CXT) (k:Nat) (C:Addr) (m:Str) (ps:List Str) (sp:Sp):Prop where
 ex:∃ f fd,FnOk P w K mg base CX k f fd ps sp/\Binds K fd ps []/\Meth K C m f
structure Ma (P:Program) (w:World) (K:ua) (mg:Str->Option Value) (base:Heap) (CX:CXT) (k:Nat) (x:Str) (C:Addr) (ps:List Str) (sp:Sp):Prop where
 ex:∃ f fd,Mk K C f/\FnOk P w K mg base CX k f fd ps sp/\Binds K fd ps []/\mg x=some (.ref C)
structure Xa (P:Program) (w:World) (K:ua) (mg:Str->Option Value) (base:Heap) (k:Nat) (x:Str) (C:Addr) (ps:List Str) (sp:Sp):Prop where
 ex:∃ f fd,XCl K C f/\FnOk P w K mg base CX0 k f fd ps sp/\Binds K fd ps []/\mg x=some (.ref C)
section
variable {P:Program} {w:World} {K:ua} {mg:Str->Option Value} {base:Heap} {CX:CXT} {k j:Nat} {x m:Str} {C:Addr} {ps:List Str} {sp sp':Sp}
theorem Ca.upx (h:Ca P w K mg base CX0 k x ps sp):Ca P w K mg base CX k x ps sp:=let ⟨f,fd,a,r⟩:=h.ex; ⟨f,fd,a.upx,r⟩
theorem Me.upx (h:Me P w K mg base CX0 k C m ps sp):Me P w K mg base CX k C m ps sp:=let ⟨f,fd,a,r⟩:=h.ex; ⟨f,fd,a.upx,r⟩
end
section
variable {X:Cx} {CX:CXT} {k i:Nat} {C:Addr} {ps:List Str} {sp:Sp} {E:XK} {x m n f:Str} {p pos apos cpos np pos' epos hpos tpos:Pos} {e o a value:Expr} {es as:List Expr} {ta te tv to t1 t2:TE} {t:TA}
theorem zy (F:Ca X.prog X.w X.K X.mg X.base CX k x ps sp) (hr:Room k X.A) (hg:Gl X x) (hx:yo CX X E) (ha:jA X (e :: es) t) (hdb:(x == ("__debug__":Str))=false:=by decide) (h1:zJ e=false:=by rfl) (h2:es.all (fun e=>!zJ e)=true:=by rfl) :
  jE X (.Call (.Name x p) (e :: es) [] pos) (jL sp [] E t):=let ⟨_,_,G,b,kp,mg⟩:=F.ex; qV G hr hg mg kp b .nil hx ha hdb h1 h2
theorem yQ {pl:Sem Bool} (he:jE X o ta) (c:Cls X.K C) (F:Me X.prog X.w X.K X.mg X.base CX k C m ps sp) (hr:Room k X.A) (hx:yo CX X E) (ha:jA X (e :: es) t) (h1:zJ e=false:=by rfl) (h2:es.all (fun e=>!zJ e)=true:=by rfl)
  (ht:eval (.Call (.Attribute o m apos) (e :: es) [] pos) X.env=(do
   let ov <- eval o X.env
   standAt apos.atName
   let (f,first) <- holding [ov] (getMethod ov m pl)
   callWith pos f first (backTo pos (starEach (e :: es) X.env)) (backToKw pos (keywordEach [] X.env))):=by rfl) :
  jE X (.Call (.Attribute o m apos) (e :: es) [] pos) (Yj C m sp [] E ta t):=let ⟨_,_,G,b,mt⟩:=F.ex; ⟨Jl he.out c mt G hr b .nil hx ha.out (zK h1) (yw h2) ht⟩
theorem Q5 {pl:Sem Bool} (he:jE X o ta) (c:Cls X.K C) (F:Me X.prog X.w X.K X.mg X.base CX k C m ps sp) (hr:Room k X.A) (hx:yo CX X E)
  (ht:eval (.Call (.Attribute o m apos) [] [] pos) X.env=(do
   let ov <- eval o X.env
   standAt apos.atName
   let (f,first) <- holding [ov] (getMethod ov m pl)
   callWith pos f first (backTo pos (starEach [] X.env)) (backToKw pos (keywordEach [] X.env))):=by rfl) :
  jE X (.Call (.Attribute o m apos) [] [] pos) (Yj C m sp [] E ta tNil):=let ⟨_,_,G,b,mt⟩:=F.ex; ⟨Wa he.out c mt G hr b .nil hx ht⟩
theorem WD (F:Ma X.prog X.w X.K X.mg X.base CX k x C ps sp) (hr:Room (k + 1) X.A) (hg:Gl X x) (hx:yo CX X E) (ha:jA X (e :: es) t) (hdb:(x == ("__debug__":Str))=false:=by decide) (h1:zJ e=false:=by rfl) (h2:es.all (fun e=>!zJ e)=true:=by rfl) :
  jE X (.Call (.Name x p) (e :: es) [] pos) (qP C sp [] E t):=let ⟨_,_,M,G,b,mg⟩:=F.ex; ⟨Jn M G hr hg mg b .nil hx ha.out hdb (zK h1) (yw h2)⟩
theorem zS (he:jE X e ta) (hb:attributeBase e f X.env (eval e X.env)=eval e X.env:=by rfl):jE X (.Attribute e f pos) (tFld X.K ta f):=⟨QL he.out hb⟩
theorem yf (ha:jE X o ta) (hv:jE X value tv) (hs:swapsWith value (some (.Attribute o f pos')) pos.line X.env=pure false:=by rfl):jS X (.Assign [.Attribute o f pos'] value pos) (sFld X.K ta tv f):=⟨QM ha.out hv.out hs⟩
theorem yM (F:Xa X.prog X.w X.K X.mg X.base k x C ps sp) (hr:Room (k + 1) X.A) (hg:Gl X x) (hx:wR X E) (ha:jA X (a :: as) t) (hdb:(x == ("__debug__":Str))=false:=by decide) (h1:zJ a=false:=by rfl) (h2:as.all (fun e=>!zJ e)=true:=by rfl) :
  jS X (.Raise (some (.Call (.Name x np) (a :: as) [] cpos)) none pos) (ZN C sp E t):=let ⟨_,_,M,G,b,mg⟩:=F.ex; ⟨Wv M G hr hg mg b hx ha.out hdb h1 h2⟩
theorem Q6 {j pos'} (ha:jE X a ta):jT X (.Compare a [.Is] [.Constant .none j pos'] pos) (tB (tIsN ta)):=⟨XY (Qs ha.out)⟩
end
end L2
namespace L2
open PySem PySem.Spec PySem.Calls PyProof.Rows
section
variable {P:Program} {w:World} {A:Around} {E:Value->Shared->Prop} {s:Shared} {K:ua}
end
section
variable {X:Cx} {e C:Addr} {oe:Obj} {ex:Expr} {te:TE} {name:Str} {pos:Pos} {f:Addr}
def qY (C e:Addr) (oe:Obj) (te:TE) (name:Str):TE:=fun σ H Q=>te σ H fun x H1=>x=.ref e/\oe.cls=.ref C/\(∃ vs,oe.data=.fields vs)/\∃ d fs v,oe.dict=some d/\H1 d=some (XD d fs)/\fs.lookup name=some v/\Q v H1
theorem JH (hp:(e,oe)∈X.pn) (M:XCl X.K C f) (hn:uy X.K (.ref C) name=some none) (hh:Uv X.K C=true) (he:PE X ex te) (hb:attributeBase ex name X.env (eval ex X.env)=eval ex X.env) :
  PE X (.Attribute ex name pos) (qY C e oe te name):=by
 intro pins s σ H Q I h
 refine Yh hb (thn (he pins s σ H _ I h) fun u s1 g=>?_)
 obtain ⟨x,H1,I1,rx,rfl,hc,⟨vs,hd⟩,d,fs,v,h1,h2,h3,q⟩:=g
 obtain rfl:u=Value.ref e:=rx
 obtain ⟨mA,ns,r,_⟩:=XD.get I1.hok h2
 obtain ⟨u',hu,ru⟩:=RelO.some_of (v:=v) (o:=mA name) (by rw [<- h3]; exact r name)
 obtain ⟨od,ho,hl⟩:=vi ns
 have J:PySem.W.InstAt s1.heap e oe C (some od):=⟨(I1.pin (e,oe) (Uj _ hp)).1,hc,by unfold PySem.W.notCls; rw [hd],by rw [h1]; exact ho⟩
 exact QX I1.kIn J M.ga M.ha M.sb (PySem.W.findObj_own hh hn rfl (by rw [hl,hu])) (vj ru) ⟨v,H1,I1.tok _,ru,q⟩
theorem JI (hp:(e,oe)∈X.pn) (M:XCl X.K C f) (hn:uy X.K (.ref C) name=some none) (hh:Uv X.K C=true) (he:jE X ex te) (hb:attributeBase ex name X.env (eval ex X.env)=eval ex X.env:=by rfl) :
  jE X (.Attribute ex name pos) (qY C e oe te name):=⟨JH hp M hn hh he.out hb⟩
end
section
variable {X:Cx} {Ch:Addr} {x n:Str} {i k:Nat} {np hpos tpos:Pos} {b0:Stmt} {suite:List Stmt} {th:Addr->Obj->TS} {ps:List Str} {sp:Sp} {y:Str} {p cpos epos:Pos} {a:Expr} {as:List Expr} {t:TA}
end
end L2
namespace L2
open PySem PySem.Spec PyProof.Rows
section
variable {P:Program} {w:World} {A:Around} {E:Value->Shared->Prop}
end
section
variable {X:Cx} {pos:Pos}
end
end L2
namespace L2
open PySem
theorem zQ:sizeLine=16777216:=by decide
theorem itD {c A B:Prop} [Decidable c] (e:c) (h:A):if decide c=true then A else B:=by
 rw [if_pos (decide_eq_true e)]; exact h
theorem itDN {c A B:Prop} [Decidable c] (e:¬ c) (h:B):if decide c=true then A else B:=by
 rw [if_neg (by rw [decide_eq_false e]; decide)]; exact h
def FnIn (K:ua) (x qual:Str) (st:Stmt) (f:Addr):Prop:=∃ (oc:Value) (od:Option Addr) (kV doc pm:Value) (an:Option Addr) (cdv ct:Value) (osl:Array (Option Value)),K.lookup f=some ⟨oc,od,.func (u9 x qual (zW st) (zN st) (zp st) .none kV doc pm an cdv ct),osl⟩/\UE K cdv qual=true/\uU K (.ref f)=true
theorem FnIn.fn {K:ua} {x qual:Str} {st:Stmt} {f:Addr} (h:FnIn K x qual st f):∃ fd,Fun K x qual st f fd/\uU K (.ref f)=true:=by
 obtain ⟨_,_,_,_,_,_,_,_,_,l,c,k⟩:=h
 exact ⟨_,Wk l c k,k⟩
def DfIn (K:ua) (x:Str) (st:Stmt):Prop:=∃ f,uY K mainGlobals x=some (some (.ref f))/\FnIn K x x st f
def MeIn (K:ua) (C:Addr) (x qual:Str) (st:Stmt):Prop:=∃ f,uy K (.ref C) x=some (some (.ref f))/\PySem.W.isFn K (.ref f)=true/\FnIn K x qual st f
theorem MeIn.me {P:Program} {w:World} {K:ua} {mg:Str->Option Value} {base:Heap} {CX:CXT} {k:Nat} {C:Addr} {x qual:Str} {st:Stmt} {ps:List Str} {sp:Sp} (h:MeIn K C x qual st) (hb:∀ (kV doc pm:Value) (an:Option Addr) (cdv ct:Value) (us:List Value),us.length=ps.length->bindArgs (u9 x qual (zW st) (zN st) (zp st) .none kV doc pm an cdv ct) ⟨us,[]⟩=pure (ps.zip us))
  (ok:∀ f fd,Fun K x qual st f fd->FnOk P w K mg base CX k f fd ps sp):Me P w K mg base CX k C x ps sp:=by
 obtain ⟨f,a,n,g⟩:=h
 obtain ⟨fd,F,kp⟩:=g.fn
 exact ⟨f,fd,ok f fd F,F.binds hb,a,n,kp⟩
theorem MeIn.ma {P:Program} {w:World} {K:ua} {mg:Str->Option Value} {base:Heap} {CX:CXT} {k:Nat} {C:Addr} {x qual:Str} {st:Stmt} {ps:List Str} {sp:Sp} (h:MeIn K C "__init__" qual st) (hb:∀ (kV doc pm:Value) (an:Option Addr) (cdv ct:Value) (us:List Value),us.length=ps.length->bindArgs (u9 "__init__" qual (zW st) (zN st) (zp st) .none kV doc pm an cdv ct) ⟨us,[]⟩=pure (ps.zip us))
  (mk:PySem.W.makesIn K C=true) (kp:uU K (.ref C)=true) (hm:mg x=some (.ref C)) (ok:∀ f fd,Fun K "__init__" qual st f fd->FnOk P w K mg base CX k f fd ps sp):Ma P w K mg base CX k x C ps sp:=by
 obtain ⟨f,a,n,g⟩:=h
 obtain ⟨fd,F,_⟩:=g.fn
 exact ⟨f,fd,⟨mk,a,n,kp⟩,ok f fd F,F.binds hb,hm⟩
theorem DfIn.ca {P:Program} {w:World} {K:ua} {mg:Str->Option Value} {base h:Heap} {CX:CXT} {k:Nat} {x:Str} {st:Stmt} {ps:List Str} {sp:Sp} (X:K.In h) (G:h.Ns mainGlobals mg) (d:DfIn K x st) (hb:∀ (kV doc pm:Value) (an:Option Addr) (cdv ct:Value) (us:List Value),us.length=ps.length->bindArgs (u9 x x (zW st) (zN st) (zp st) .none kV doc pm an cdv ct) ⟨us,[]⟩=pure (ps.zip us))
  (ok:∀ f fd,Fun K x x st f fd->FnOk P w K mg base CX k f fd ps sp):Ca P w K mg base CX k x ps sp:=by
 obtain ⟨f,a,g⟩:=d
 obtain ⟨fd,F,kp⟩:=g.fn
 exact ⟨f,fd,ok f fd F,F.binds hb,kp,UM X G a⟩
theorem DfIn.mk {K:ua} {x:Str} {st:Stmt} {f:Addr} {oc:Value} {od:Option Addr} {kV doc pm:Value} {an:Option Addr} {cdv ct:Value} {osl:Array (Option Value)} (a:uY K mainGlobals x=some (some (.ref f))) (l:K.lookup f=some ⟨oc,od,.func (u9 x x (zW st) (zN st) (zp st) .none kV doc pm an cdv ct),osl⟩) (c:UE K cdv x=true) (k:uU K (.ref f)=true):DfIn K x st:=⟨f,a,oc,od,kV,doc,pm,an,cdv,ct,osl,l,c,k⟩
theorem MeIn.mk {K:ua} {C:Addr} {x qual:Str} {st:Stmt} {f:Addr} {oc:Value} {od:Option Addr} {kV doc pm:Value} {an:Option Addr} {cdv ct:Value} {osl:Array (Option Value)} (a:uy K (.ref C) x=some (some (.ref f))) (l:K.lookup f=some ⟨oc,od,.func (u9 x qual (zW st) (zN st) (zp st) .none kV doc pm an cdv ct),osl⟩) (c:UE K cdv qual=true) (k:uU K (.ref f)=true) (n:PySem.W.isFn K (.ref f)=true):MeIn K C x qual st:=⟨f,a,n,oc,od,kV,doc,pm,an,cdv,ct,osl,l,c,k⟩
theorem XcIn.mk {K:ua} {C f:Addr} (a:uy K (.ref C) "__init__"=some (some (.ref f))) (b:xIn K C f=true) (c:PySem.W.typeIn K (.ref f)=some (.type "function")):∃ f,uy K (.ref C) "__init__"=some (some (.ref f))/\xIn K C f=true/\PySem.W.typeIn K (.ref f)=some (.type "function"):=⟨f,a,b,c⟩
structure OwnIn (K:ua) (x:Str) (C:Addr):Prop where
 n:uY K mainGlobals x=some (some (.ref C))
 pg:U2 K C Str.empty=true
 hd:Uv K C=true
 po:PySem.W.plainOver K C=true
 sa:uy K (.ref C) "__setattr__"=some (some (.builtin "object.__setattr__"))
 mks:PySem.W.makesIn K C=true
 kp:uU K (.ref C)=true
theorem OwnIn.cls {K:ua} {x:Str} {C:Addr} (o:OwnIn K x C):Cls K C:=⟨o.pg,o.hd,o.po,o.sa⟩
end L2
namespace L2
open PySem
theorem us1 {p:List Value->Prop} (h:∀ a,p [a]):∀ us:List Value,us.length=1->p us
 | [a],_=>h a
theorem us2 {p:List Value->Prop} (h:∀ a b,p [a,b]):∀ us:List Value,us.length=2->p us
 | [a,b],_=>h a b
theorem us3 {p:List Value->Prop} (h:∀ a b c,p [a,b,c]):∀ us:List Value,us.length=3->p us
 | [a,b,c],_=>h a b c
theorem us4 {p:List Value->Prop} (h:∀ a b c d,p [a,b,c,d]):∀ us:List Value,us.length=4->p us
 | [a,b,c,d],_=>h a b c d
end L2
namespace L2
open PySem
section
variable {a b c d e u:TS} {D:Ends} {σ:List (Option V)} {H:Hp}
theorem cut3 (h:∀ v:TS,u=v->(tSeq a (tSeq b (tSeq c v)):TS) D σ H):(tSeq a (tSeq b (tSeq c u)):TS) D σ H:=h u rfl
theorem cut4 (h:∀ v:TS,u=v->(tSeq a (tSeq b (tSeq c (tSeq d v))):TS) D σ H):(tSeq a (tSeq b (tSeq c (tSeq d u))):TS) D σ H:=h u rfl
theorem ixT {K:ua} {Q:VK} {p:Addr} {xs:List V} {i:Int} {v:V} (h:H p=some (.tup xs)) (a:atI xs i=some v) (q:Q v H):tC (.int i) σ H fun y H2=>rIxT K (.ref p) y H2 Q:=⟨p,xs,i,v,rfl,rfl,SqT.of h,a,q⟩
theorem ixL {K:ua} {Q:VK} {p:Addr} {xs:List V} {i:Int} {v:V} (h:H p=some (.lst xs)) (a:atI xs i=some v) (q:Q v H):tC (.int i) σ H fun y H2=>rIxL K (.ref p) y H2 Q:=⟨p,xs,i,v,rfl,rfl,SqL.of h,a,q⟩
end
end L2
namespace L2
open PySem PySem.Spec PyProof.Rows
def Itv (K:ua) (a:Addr) (n:Nat):It :=
 ⟨fun i H=>i < n/\∃ xs x,SqL K H a xs/\xs[n - 1 - i]?=some x,fun i H x H'=>H'=H/\∀ xs,SqL K H a xs->xs[n - 1 - i]?=some x,fun i _=>n<=i⟩
theorem WE {P:Program} {w:World} {K:ua} {tg:Expr} (a it:Addr) (n:Nat):Turn P w K tg (Itv K a n) [it] it (fun i h=>i<=n/\h.IsRevIter it a ((n:Int) - 1 - (i:Nat))) where
 mem:=by simp
 obj:=fun i h st b hb=>by
  have e:b=it:=by simpa using hb
  subst e
  obtain ⟨_,o,e,c,d⟩:=st
  exact ⟨o,e,fun v z=>by rw [d] at z; cases z⟩
 keep:=fun i h h' st k=>⟨st.1,st.2.at fun o e=>k it (by simp) o e⟩
 item:=by
  intro X hP hw hK hc i pins s σ H E I hf st hg
  subst hP hw hK
  obtain ⟨hi,xs,x,hq,hx⟩:=hg
  obtain ⟨its,rv,p,hz⟩:=I.list hq
  obtain ⟨u,hu,ru⟩:=rv.get hx
  obtain ⟨f0,f1,f2,f3,f4,f5⟩:=hf it (by simp)
  obtain ⟨_,st2⟩:=st
  have e1:(n:Int) - 1 - (i:Nat)=((n - 1 - i:Nat):Int):=by lia
  rw [e1] at st2
  refine wpAny_pyNext_rev_item st2 p.isList (x:=u) (by simpa using hu) fun h' st' sb=>?_
  have I1:Inv X pins σ H { s with heap:=h' }:=I.turned (t':=s.toks) (fun b o hb e=>(sb.2 b hb).trans e) f0 f1 f3 f4 f5
  obtain ⟨o,e,c,d⟩:=id st'
  refine ⟨u,rfl,jK (s:={ s with heap:=h' }) e c d (by decide) ⟨x,H,I1,ru,⟨rfl,fun ys hy=>by rw [I.list_inj hy hq]; exact hx⟩,⟨hi,?_⟩,fun b hb=>(hf b hb).1⟩⟩
  have e2:(n:Int) - 1 - ((i + 1:Nat):Int)=((n - 1 - i:Nat):Int) - 1:=by lia
  rw [e2]
  exact st'
 done:=by
  intro X hP hw hK hc i pins s σ H E I hf st hg
  subst hP hw hK
  obtain ⟨f0,f1,f2,f3,f4,f5⟩:=hf it (by simp)
  obtain ⟨h1,st2⟩:=st
  have h2:n<=i:=hg
  have e1:(n:Int) - 1 - (i:Nat)=-1:=by lia
  rw [e1] at st2
  exact wpAny_pyNext_rev_end (I.ok.hd hc) st2 fun h' eb=>⟨rfl,I.turned (t':=s.toks) (fun b o hb e=>eb b o hb e) f0 f1 f3 f4 f5⟩
 self:=fun _ _ _ _ _ st h=>wpAny_pyIter_revIter st.2 h
section
variable {X:Cx} {tg:Expr}
def iRev (K:ua) (ta:TA):TI:=fun σ H R=>ta σ H fun vs H1=>∃ a xs,vs=[.ref a]/\SqL K H1 a xs/\R (Itv K a xs.length) H1
theorem Q7 {a:Expr} {ta:TA} {p pos:Pos} (hg:Gl X "reversed") (hm:X.mg "reversed"=none) (ha:PA X [a] ta) (hs:starEach [a] X.env=[(false,eval a X.env)]:=by rfl):PI X tg (.Call (.Name "reversed" p) [a] [] pos) (iRev X.K ta):=by
 intro pins s σ H R I h
 refine Call_ (yZ I hg hm boot_reversed (Uh (thn (ha pos pins s σ H _ I h) fun us s1 ⟨vs,H1,I1,r1,q1⟩=>?_) hs rfl))
 obtain ⟨l,xs,e,hq,q⟩:=q1
 subst e
 obtain ⟨u,rfl,rx⟩:=wf r1
 cases rx
 obtain ⟨its,rv,pl,hz⟩:=I1.list hq
 have hl:=rv.length
 refine call_reversed_list pl.isList ?_
 have hr:(s1.heap.push (revObj l ((its.toArray.size:Int) - 1))).IsRevIter s1.heap.objs.size l ((its.toArray.size:Int) - 1):=⟨_,uw _ rfl,rfl,rfl⟩
 refine wpAny_pyIter_revIter (s:={ s1 with heap:=s1.heap.push (revObj l ((its.toArray.size:Int) - 1)) }) hr ?_
 refine ⟨s1.heap.objs.size,[s1.heap.objs.size],_,_,H1,rfl,I1.kept (t':=s1.toks) fun b o e=>uc _ e,WE l _ xs.length,⟨u6 _,?_⟩,fun b hb=>?_,q⟩
 ·have e:(xs.length:Int) - 1 - ((0:Nat):Int)=(its.toArray.size:Int) - 1:=by simp [hl]
  rw [e]
  exact hr
 have e:b=s1.heap.objs.size:=by simpa using hb
 subst e
 exact I1.fpOk (ui _) (I1.hok.fresh (ui _))
theorem WF {a:Expr} {t:TA} {p pos:Pos} (hg:Gl X "reversed") (hm:X.mg "reversed"=none) (ha:jA X [a] t) (h:zJ a=false:=by rfl):jI X tg (.Call (.Name "reversed" p) [a] [] pos) (iRev X.K t):=⟨Q7 hg hm ha.out (zK h)⟩
end
theorem Yv {K:ua} {a:Addr} {xs:List V} {g:TG} {tb:TS} {D:Ends} {σ:St} {H:Hp} (Pv:Nat->St->Hp->Prop) (h0:Pv 0 σ H) (hl:∀ i σ H,i<=xs.length->Pv i σ H->SqL K H a xs)
  (hs:∀ i x σ H,xs.reverse[i]?=some x->Pv i σ H->g x σ H fun σ2 H2=>tb { D with nx:=Pv (i + 1),ct:=Pv (i + 1),bk:=D.nx } σ2 H2) (hd:∀ σ H,Pv xs.length σ H->D.nx σ H) :
  ∃ W:Nat->Nat->St->Hp->Prop,(∃ m,W 0 m σ H)/\∀ i m σ H,W i m σ H ->
   ((Itv K a xs.length).stop i H/\D.nx σ H)\/((Itv K a xs.length).go i H/\∃ N:St->Hp->Prop,(∀ σ' H',N σ' H'->∃ m',m' < m/\W (i + 1) m' σ' H')/\∀ x H',(Itv K a xs.length).yld i H x H'->g x σ H' fun σ2 H2=>tb { D with nx:=N,ct:=N,bk:=D.nx } σ2 H2):=by
 refine ⟨fun i m σ H=>m=xs.length - i/\i<=xs.length/\Pv i σ H,⟨xs.length,by simp,u6 _,h0⟩,?_⟩
 rintro i m σ H ⟨rfl,hi,p⟩
 have q:=hl i σ H hi p
 by_cases hlt:i < xs.length
 ·refine .inr ⟨⟨hlt,xs,xs[xs.length - 1 - i],q,by rw [ug]⟩,Pv (i + 1),fun σ' H' p'=>⟨xs.length - (i + 1),by lia,rfl,hlt,p'⟩,fun x H' y=>?_⟩
  obtain ⟨e,y⟩:=y
  subst e
  refine hs i x σ _ ?_ p
  rw [U0 hlt]
  exact y xs q
 ·have e:i=xs.length:=by lia
  subst e
  exact .inl ⟨ui _,hd σ H p⟩
section
variable {g:TG} {tt:TT} {te:TE} {Q:VK} {σ:St} {H:Hp}
theorem ZP {K:ua} {a:Addr} {xs:List V} (Pv:Nat->St->List V->Hp->Prop) (h0:Pv 0 σ [] H) (hl:∀ i τ ys H,i<=xs.length->Pv i τ ys H->SqT K H a xs)
  (hs:∀ i x τ ys H,xs[i]?=some x->Pv i τ ys H->g x τ H fun τ2 H2=>tt τ2 H2 fun b H3=>if b=true then te τ2 H3 fun y H4=>ys.length < sizeLine/\Pv (i + 1) τ2 (ys ++ [y]) H4 else Pv (i + 1) τ2 ys H3)
  (hd:∀ τ ys H,Pv xs.length τ ys H->∀ p,H p=none->Q (.ref p) (upd H p (.lst ys))):∃ W,(∃ m,W 0 m σ [] H)/\lcBy (Itt K a) g tt te Q W:=by
 refine ⟨fun i m τ ys H=>m=xs.length - i/\i<=xs.length/\Pv i τ ys H,⟨xs.length,by simp,u6 _,h0⟩,?_⟩
 rintro i m τ ys H ⟨rfl,hi,p⟩
 have q:=hl i τ ys H hi p
 by_cases hlt:i < xs.length
 ·refine .inr ⟨⟨xs,xs[i],q,by simp [hlt]⟩,Pv (i + 1),fun τ' ys' H' p'=>⟨xs.length - (i + 1),by lia,rfl,hlt,p'⟩,fun x H' y=>?_⟩
  obtain ⟨e,y⟩:=y
  subst e
  exact hs i x τ ys _ (y xs q) p
 ·have e:i=xs.length:=by lia
  subst e
  exact .inl ⟨⟨xs,q,ui _⟩,hd τ ys H p⟩
end
theorem old {H:Hp} {p q:Addr} {o u:HO} (hp:H p=none) (h:H q=some u):upd H p o q=some u:=by rw [zm (zo h hp)]; exact h
theorem Same.new {H H1:Hp} {p:Addr} {o:HO} (s:Same H H1) (hp:H1 p=none):Same H (upd H1 p o):=fun b u q=>old hp (s b u q)
theorem Same.put {H H1:Hp} {p:Addr} {o:HO} (s:Same H H1) (hp:H p=none):Same H (upd H1 p o):=fun b u q=>by rw [zm (zo q hp)]; exact s b u q
end L2
namespace L2
open PySem PySem.Spec PyProof.Rows
theorem WG {x:V} (h:xc x=true):eqV x x=true:=by
 cases x <;> first
  | rfl
  | (show ((_:Bool) == _)=true; simp)
  | (show ((_:Int) == _)=true; simp)
  | (show ((_:Str) == _)=true; simp)
  | (cases h)
section
variable {X:Cx}
end
section
variable {X:Cx}
def Yw:V->List V->Hp->VK->Prop:=fun x vs H Q=>∃ l xs k kk y,x=.ref l/\vs=[.int kk,y]/\kk=((k:Nat):Int)/\H l=some (.lst xs)/\xs.length < sizeLine/\k<=xs.length/\Q .non (upd H l (.lst (xs.take k ++ y :: xs.drop k)))
theorem Xt:MtM X "list.insert" Yw:=by
 intro pins s σ H x vs v us Q I rx rv h
 obtain ⟨l,xs,k,kk,y,rfl,rfl,hkk,hH,hz,hk,q⟩:=h
 cases rx
 obtain ⟨u,u',rfl,ru,ru'⟩:=rv.two
 obtain ⟨t,rfl⟩:=ru
 obtain ⟨z,its,n,r,hl,e⟩:=I.lstM hH
 have sl:sizeLine=16777216:=by unfold sizeLine; rfl
 have hz2:its.toArray.size<=sizeLine:=by rw [uz]; lia
 have hf:Builtin.List.listFitsIndex kk=true:=by
  unfold Builtin.List.listFitsIndex
  simp
  lia
 have h0:¬(!Builtin.List.listFitsIndex kk)=true:=by rw [hf]; decide
 have g:=PySem.AutoSeq1.list_insert_list_int_val_1 l its.toArray n kk t u' h0 hz2
 refine call_meets F.slot_list_insert ⟨_,e,rfl⟩ F.entry_list_insert (F.args_list_insert_3 _ _ _) g ⟨e,?_⟩
 refine ⟨.non,_,I.lset (its':=its.take k ++ u' :: its.drop k) hH e ?_ ((r.take k).append (.cons ru' (r.drop k))) ?_,rfl,q⟩
 ·have e1:(if kk < 0 then (kk + ((its.toArray.size:Nat):Int)).toNat else min kk.toNat its.toArray.size)=k:=by
   rw [if_neg (by lia),uz]
   lia
  show (its.toArray.extract 0 (if kk < 0 then (kk + ((its.toArray.size:Nat):Int)).toNat else min kk.toNat its.toArray.size)).push u' ++ its.toArray.extract (if kk < 0 then (kk + ((its.toArray.size:Nat):Int)).toNat else min kk.toNat its.toArray.size)=_
  rw [e1]
  apply Array.toList_inj.mp
  simp [Array.toList_extract,List.extract,uE]
 ·rw [uf,uD,uR,UT]
  lia
theorem Xu:jMt X "list.insert" Yw:=⟨Xt⟩
end
end L2
namespace L2
open PySem PySem.Spec PyProof.Rows
end L2
namespace L2
open PySem PySem.Spec PyProof.Rows
section
variable (P:Program) (w:World)
end
section
variable {P:Program} {w:World} {H H':Hp} {h h':Heap} {a:Addr} {o:HO}
end
section
variable {P:Program} {w:World} {H:Hp} {h h':Heap} {x e:Addr} {o':HO}
end
section
variable {fs fs' ex ex':List Addr} {H H1 H2:Hp} {h h1 h2 h':Heap} {a x e:Addr} {o:HO}
end
end L2
namespace L2
open PySem PySem.Spec PyProof.Rows
section
variable {X:Cx} {pins:List (Addr × Obj)} {σ:List (Option V)} {H H':Hp} {s:Shared} {h':Heap}
end
end L2
namespace L2
open PySem PySem.Spec PyProof.Rows
section
variable {X:Cx}
variable {a b:Expr} {ta tb:TE} {pos:Pos}
variable {tA tB':TT} {rest:List Expr}
end
end L2
namespace L2
open PySem PySem.Spec PyProof.Rows
section
variable {X:Cx} {pins:List (Addr × Obj)} {σ:St} {H:Hp} {s:Shared} {a:Addr} {xs ys:List V}
end
section
variable {X:Cx} {pins:List (Addr × Obj)} {σ:St} {H:Hp} {s:Shared} {E:Value->Shared->Prop}
end
section
variable {X:Cx} {st:Stmt} {rest:List Stmt} {t u:TS} {e:Expr} {te:TE} {pos:Pos}
end
section
variable {X:Cx} {pos:Pos}
end
section
variable {X:Cx} {pos:Pos}
end
end L2
namespace L2
open PySem PySem.Spec PyProof.Rows
section
variable {X:Cx} {tg:Expr}
end
end L2
namespace L2
open PySem PySem.Spec PyProof.Rows
section
variable {X:Cx} {a b c:Expr} {ta tb tc:TE} {pos:Pos}
end
section
variable {X:Cx} {a b c:Expr} {ta tb tc:TE} {pos:Pos}
end
end L2
namespace L2
open PySem PySem.Spec PyProof.Rows
section
variable {prog:Program} {w:World} {A:Around} {E:Value->Shared->Prop} {s:Shared} {K:ua} {x dx C f:Addr} {mA:Str->Option Value} {name:Str} {v:Value}
end
section
variable {P:Program} {w:World} {H H':Hp} {h h':Heap} {a C dx:Addr} {fs fs':List (Str × V)}
end
section
variable {X:Cx} {pins:List (Addr × Obj)} {σ:St} {H:Hp} {s:Shared} {a C dx:Addr} {fs:List (Str × V)} {f:Str} {v:V} {A:Around} {E:Value->Shared->Prop}
end
section
variable {X:Cx} {o e value:Expr} {f:Str} {pos pos' tpos:Pos} {ta tv:TE}
end
section
variable {X:Cx} {pins:List (Addr × Obj)} {σ:St} {H:Hp} {s:Shared} {A:Around} {E:Value->Shared->Prop} {Q:Value->Shared->Prop} {c:Value} {b:Bool}
end
end L2
namespace L2
open PySem PySem.Spec PyProof.Rows
section
variable {X:Cx} {e:Expr} {es:List Expr} {te:TE} {t:TA} {pos:Pos}
end
section
variable {X:Cx} {pins:List (Addr × Obj)} {σ:St} {H:Hp} {s s':Shared}
end
section
variable {X:Cx} {CX:CXT} {k:Nat} {f C:Addr} {fd:FuncData} {ps:List Str} {sp:Sp} {dvs:List V} {ds:List Value} {E:XK} {x m:Str} {p pos apos:Pos} {e o:Expr} {es:List Expr} {ta:TE} {t:TA}
end
section
variable {X:Cx} {CX:CXT} {k:Nat} {f C:Addr} {fd:FuncData} {ps ks:List Str} {sp:Sp} {E:XK} {x m:Str} {p pos apos kpos:Pos} {e o:Expr} {es:List Expr} {kws:List Keyword} {te ta:TE} {t tk:TA} {nm:Option Str}
variable {g:List Value->List Value->List Value} {gV:List V->List V->List V}
end
end L2
namespace L2
open PySem PySem.Spec PyProof.Rows
section
variable {X:Cx} {x:Str} {p pos:Pos} {e:Expr} {es:List Expr} {t:TA} {id T:String} {r:List V->Hp->VK->Prop}
end
end L2
namespace L2
open PySem PySem.Spec PyProof.Rows
section
variable {κ:Type} [DecidableEq κ]
def valV (kvs:List (κ × V)) (k:κ):Option V:=(kvs.find? fun kv=>decide (kv.1=k)).map (·.2)
def putK (kvs:List (κ × V)) (k:κ) (v:V):List (κ × V) :=
 if (kvs.any fun kv=>decide (kv.1=k))=true then kvs.map (fun kv=>if kv.1=k then (kv.1,v) else kv) else kvs ++ [(k,v)]
theorem yk {p:κ × V} {r:List (κ × V)} {k:κ} (e:p.1=k):valV (p :: r) k=some p.2:=by simp [valV,Uk,e]
theorem ym {p:κ × V} {r:List (κ × V)} {k:κ} (e:¬ p.1=k):valV (p :: r) k=valV r k:=by simp [valV,Uk,e]
theorem xT (k:κ):∀ kvs:List (κ × V),(kvs.any fun kv=>decide (kv.1=k))=(valV kvs k).isSome
 | []=>rfl
 | p :: r=>by
  rw [UL]
  by_cases e:p.1=k
  ·simp only [yk e,decide_eq_true e,Bool.true_or,Option.isSome_some]
  ·rw [ym e,decide_eq_false e,Bool.false_or]; exact xT k r
theorem j3 (k j:κ) (y:V):∀ kvs:List (κ × V),valV (kvs.map fun kv=>if kv.1=k then (kv.1,y) else kv) j=(valV kvs j).map fun x=>if j=k then y else x
 | []=>rfl
 | p :: r=>by
  have ih:=j3 k j y r
  rw [uP]
  by_cases h:p.1=k
  ·rw [if_pos h]
   by_cases e:p.1=j
   ·rw [yk (p:=(p.1,y)) e,yk e,UO,if_pos (e.symm.trans h)]
   ·rw [ym (p:=(p.1,y)) e,ym e,ih]
  ·rw [if_neg h]
   by_cases e:p.1=j
   ·rw [yk (p:=p) e,yk e,UO,if_neg (fun z=>h (e.trans z))]
   ·rw [ym (p:=p) e,ym e,ih]
theorem vB (k j:κ) (y:V):∀ kvs:List (κ × V),valV kvs k=none->valV (kvs ++ [(k,y)]) j=if j=k then some y else valV kvs j
 | [],_=>by
  by_cases e:k=j
  ·rw [if_pos e.symm]; exact yk (p:=(k,y)) e
  ·rw [if_neg (fun z=>e z.symm)]; exact ym (p:=(k,y)) e
 | p :: r,hn=>by
  rw [Uc]
  have hk:¬ p.1=k:=fun z=>by rw [yk z] at hn; cases hn
  rw [ym hk] at hn
  have ih:=vB k j y r hn
  by_cases e:p.1=j
  ·rw [yk e,yk e,if_neg (fun z=>hk (e.trans z))]
  ·rw [ym e,ym e,ih]
theorem yV (kvs:List (κ × V)) (k j:κ) (y:V):valV (putK kvs k y) j=if j=k then some y else valV kvs j:=by
 unfold putK
 by_cases a:(kvs.any fun kv=>decide (kv.1=k))=true
 ·rw [if_pos a,j3]
  rw [xT] at a
  by_cases e:j=k
  ·obtain ⟨x,hx⟩:=UD.mp a
   rw [if_pos e,e,hx,UO,if_pos rfl]
  ·rw [if_neg e]
   cases valV kvs j with
   | none=>rfl
   | some x=>rw [UO,if_neg e]
 ·rw [if_neg a]
  refine vB k j y kvs ?_
  rw [xT] at a
  cases q:valV kvs k with
  | none=>rfl
  | some x=>rw [q] at a; exact (a rfl).elim
theorem wq (kvs:List (κ × V)) (k:κ) (v:V):(putK kvs k v).length<=kvs.length + 1:=by
 unfold putK
 split
 ·rw [ub]; lia
 ·rw [uf,uD,List.length_nil]; lia
theorem RelO.isSome_eq {o:Option V} {u:Option Value} (r:RelO o u):o.isSome=u.isSome:=by
 cases o with
 | none=>cases u with
  | none=>rfl
  | some _=>exact (show False from r).elim
 | some _=>cases u with
  | none=>exact (show False from r).elim
  | some _=>rfl
theorem KV.val {kvs:List (κ × V)} {vs:List (κ × Value)} (r:KV kvs vs) (k:κ):RelO (valV kvs k) (valueAt vs k):=by
 unfold KV at r
 induction r with
 | nil=>exact True.intro
 | @cons p q ps qs h t ih =>
  obtain ⟨h1,h2⟩:=h
  by_cases e:p.1=k
  ·have e':q.1=k:=h1.symm.trans e
   have b:valueAt (q :: qs) k=some q.2:=by simp [valueAt,Uk,e']
   rw [yk e,b]; exact h2
  ·have e':¬ q.1=k:=fun z=>e (h1.trans z)
   have b:valueAt (q :: qs) k=valueAt qs k:=by simp [valueAt,Uk,e']
   rw [ym e,b]; exact ih
theorem KV.any {kvs:List (κ × V)} {vs:List (κ × Value)} (r:KV kvs vs) (k:κ):(kvs.any fun kv=>decide (kv.1=k))=vs.any fun kv=>decide (kv.1=k):=by
 unfold KV at r
 induction r with
 | nil=>rfl
 | cons h t ih=>rw [UL,UL,ih,h.1]
theorem KV.repl {kvs:List (κ × V)} {vs:List (κ × Value)} (r:KV kvs vs) (k:κ) {y:V} {u:Value} (ry:RelV y u) :
  KV (kvs.map fun kv=>if kv.1=k then (kv.1,y) else kv) (vs.map fun kv=>if kv.1=k then (kv.1,u) else kv):=by
 unfold KV at r ⊢
 induction r with
 | nil=>exact .nil
 | @cons p q ps qs h t ih =>
  rw [uP,uP]
  refine .cons ?_ ih
  obtain ⟨h1,h2⟩:=h
  by_cases e:p.1=k
  ·rw [if_pos e,if_pos (h1.symm.trans e)]; exact ⟨h1,ry⟩
  ·rw [if_neg e,if_neg (fun z=>e (h1.trans z))]; exact ⟨h1,h2⟩
theorem KV.put {kvs:List (κ × V)} {vs:List (κ × Value)} (r:KV kvs vs) (k:κ) {y:V} {u:Value} (ry:RelV y u):KV (putK kvs k y) (stored vs k u):=by
 unfold putK stored
 rw [r.any k]
 by_cases e:(vs.any fun kv=>decide (kv.1=k))=true
 ·rw [if_pos e,if_pos e]; exact r.repl k ry
 ·rw [if_neg e,if_neg e]; exact Paired.snoc r ⟨rfl,ry⟩
theorem KV.length {kvs:List (κ × V)} {vs:List (κ × Value)} (r:KV kvs vs):kvs.length=vs.length:=Paired.length r
end
theorem Yx {P:Program} {w:World} {k:Key} {u:Value} (r:RelV (kV k) u):(yd P w).is k u=true:=by
 cases k with
 | inl i=>obtain ⟨t,e⟩:=(show ∃ t,u=Value.int i t from r); subst e; exact jJ P w i t
 | inr x=>obtain ⟨t,e⟩:=(show ∃ t,u=Value.str x t from r); subst e; exact we P w x t
theorem vC {P:Program} {w:World}:∀ {ks:List Key} {us:List Value},Vals (ks.map kV) us->ItemsAre (yd P w) ks us
 | [],_,r=>by rw [List.map_nil] at r; cases r; exact .nil
 | k :: ks,_,r=>by
  rw [uP] at r
  cases r with
  | cons h t=>exact .cons (Yx h) (vC t)
abbrev KT (H:Hp):List (List Key × V)->List (List Key × Addr × Value)->Prop:=Paired fun p q=>p.1=q.1/\H q.2.1=some (.tup (p.1.map kV))/\RelV p.2 q.2.2
theorem KT.val {H:Hp} {kvs:List (List Key × V)} {xs:List (List Key × Addr × Value)} (r:KT H kvs xs) (k:List Key):RelO (valV kvs k) ((atKey xs k).map (·.2)):=by
 induction r with
 | nil=>exact True.intro
 | @cons p q ps qs h t ih =>
  obtain ⟨h1,_,h2⟩:=h
  by_cases e:p.1=k
  ·have e':q.1=k:=h1.symm.trans e
   have b:atKey (q :: qs) k=some q.2:=by simp [atKey,Uk,e']
   rw [yk e,b]; exact h2
  ·have e':¬ q.1=k:=fun z=>e (h1.trans z)
   have b:atKey (q :: qs) k=atKey qs k:=by simp [atKey,Uk,e']
   rw [ym e,b]; exact ih
theorem KT.repl {H:Hp} {kvs:List (List Key × V)} {xs:List (List Key × Addr × Value)} (r:KT H kvs xs) (k:List Key) {y:V} {u:Value} (ry:RelV y u) :
  KT H (kvs.map fun kv=>if kv.1=k then (kv.1,y) else kv) (xs.map (putAt k u)):=by
 induction r with
 | nil=>exact .nil
 | @cons p q ps qs h t ih =>
  rw [uP,uP]
  refine .cons ?_ ih
  obtain ⟨h1,h2,h3⟩:=h
  unfold putAt
  by_cases e:p.1=k
  ·rw [if_pos e,if_pos (h1.symm.trans e)]; exact ⟨h1,h2,ry⟩
  ·rw [if_neg e,if_neg (fun z=>e (h1.trans z))]; exact ⟨h1,h2,h3⟩
theorem KT.put {H:Hp} {kvs:List (List Key × V)} {xs:List (List Key × Addr × Value)} (r:KT H kvs xs) (k:List Key) {b:Addr} {y:V} {u:Value} (hb:H b=some (.tup (k.map kV))) (ry:RelV y u) :
  KT H (putK kvs k y) (storedH xs k b u):=by
 have e:(kvs.any fun kv=>decide (kv.1=k))=(atKey xs k).isSome:=by
  rw [xT,(r.val k).isSome_eq,Option.isSome_map]
 unfold putK storedH
 rw [e]
 by_cases q:(atKey xs k).isSome=true
 ·rw [if_pos q,if_pos q]; exact r.repl k ry
 ·rw [if_neg q,if_neg q]; exact Paired.snoc r ⟨rfl,hb,ry⟩
theorem KT.keeps {H H':Hp} {kvs:List (List Key × V)} {xs:List (List Key × Addr × Value)} (r:KT H kvs xs) (ht:∀ b ys,H b=some (.tup ys)->H' b=some (.tup ys)):KT H' kvs xs :=
 Paired.mapP r fun _ _ z=>⟨z.1,ht _ _ z.2.1,z.2.2⟩
section
variable {P:Program} {w:World} {H:Hp} {h:Heap} {a:Addr}
theorem qZ {u:HO} (ok:HOk P w H h) (e:Rd H a u):ObjOk P w H h a u:=e.ok ok
theorem Yy {kvs:List (Key × V)} (ok:HOk P w H h) (e:Rd H a (.dK kvs)):kvs.length<=sizeLine/\(a == sysModules)=false/\∃ vs,KV kvs vs/\h.DictOf (yd P w) a vs :=
 show ObjOk P w H h a (.dK kvs) from qZ ok e
theorem zaZ {kvs:List (Key × V)} (ok:HOk P w H h) (e:H a=some (.dK kvs)):kvs.length<=sizeLine/\(a == sysModules)=false/\∃ vs,KV kvs vs/\h.DictOf (yd P w) a vs:=Yy ok (.inl e)
theorem ja {ks:List Key} (ok:HOk P w H h) (e:H a=some (.tup (ks.map kV))):(tupleKind (yd P w)).is h ks a:=by
 obtain ⟨_,its,r,o,h1,h2,_,n,h3⟩:=(show ObjOk P w H h a (.tup (ks.map kV)) from ok a _ e)
 exact ⟨o,its.toArray,n,h1,h2,h3,by simpa using vC r⟩
theorem Yz {kvs:List (List Key × V)} (ok:HOk P w H h) (e:Rd H a (.dT kvs)):kvs.length<=sizeLine/\(a == sysModules)=false /\
  ∃ xs,KT H kvs xs/\h.DictOfH (tupleKind (yd P w)) a xs:=by
 obtain ⟨z,y,xs,r,o,es,ep,h1,h2,h3,h4,h5⟩:=(show ObjOk P w H h a (.dT kvs) from qZ ok e)
 refine ⟨z,y,xs,r,o,es,ep,h1,h2,h3,h4,fun x hx=>?_,h5⟩
 have all:∀ {l:List (List Key × V)} {m:List (List Key × Addr × Value)},KT H l m->∀ x∈m,(tupleKind (yd P w)).is h x.1 x.2.1:=by
  intro l m q
  induction q with
  | nil=>intro x hx; exact nomatch hx
  | @cons p q ps qs hq t ih =>
   intro x hx
   rcases uq.mp hx with e | hx
   ·subst e
    exact ja ok (by rw [<- hq.1]; exact hq.2.1)
   ·exact ih x hx
 exact all r x hx
theorem za0 {kvs:List (List Key × V)} (ok:HOk P w H h) (e:H a=some (.dT kvs)):kvs.length<=sizeLine/\(a == sysModules)=false /\
  ∃ xs,KT H kvs xs/\h.DictOfH (tupleKind (yd P w)) a xs:=Yz ok (.inl e)
end
def DGet (H:Hp) (a:Addr) (y:V) (r:Option V):Prop :=
 (∃ kvs k,Rd H a (.dK kvs)/\y=kV k/\r=valV kvs k)\/∃ kvs k b,Rd H a (.dT kvs)/\y=.ref b/\H b=some (.tup (k.map kV))/\r=valV kvs k
def DPut (H:Hp) (a:Addr) (y v:V) (H':Hp):Prop :=
 (∃ kvs k,H a=some (.dK kvs)/\y=kV k/\kvs.length < sizeLine/\H'=upd H a (.dK (putK kvs k v))) \/
 ∃ kvs k b,H a=some (.dT kvs)/\y=.ref b/\H b=some (.tup (k.map kV))/\kvs.length < sizeLine/\H'=upd H a (.dT (putK kvs k v))
theorem DGet.k {H:Hp} {a:Addr} {kvs:List (Key × V)} {k:Key} (e:H a=some (.dK kvs)):DGet H a (kV k) (valV kvs k):=.inl ⟨kvs,k,.inl e,rfl,rfl⟩
theorem DPut.k {H:Hp} {a:Addr} {kvs:List (Key × V)} {k:Key} {v:V} (e:H a=some (.dK kvs)) (hl:kvs.length < sizeLine):DPut H a (kV k) v (upd H a (.dK (putK kvs k v))):=.inl ⟨kvs,k,e,rfl,hl,rfl⟩
section
variable {X:Cx} {pins:List (Addr × Obj)} {σ:St} {H:Hp} {s:Shared} {a:Addr} {y v:V} {u r:Value} {o:Option V} {A:Around} {E:Value->Shared->Prop}
theorem Inv.big (I:Inv X pins σ H s):sysModules < s.heap.objs.size:=by
 have h:mainGlobals < s.heap.objs.size:=(I.mod.glob.keeps I.bk).lt
 exact Nat.lt_trans (by decide) h
theorem Xv {Q:Value->Shared->Prop} (hu:A.units + 1 < cLine) (I:Inv X pins σ H s) (g:DGet H a y (some v)) (ry:RelV y u) (h:∀ w' s',Inv X pins σ H s'->RelV v w'->Q w' s') :
  wpAny (model X.prog X.w) A (getItem (.ref a) u) Q E s:=by
 rcases g with ⟨kvs,k,e,ey,l⟩ | ⟨kvs,k,b,e,ey,eb,l⟩
 ·subst ey
  obtain ⟨z,hd,vs,rel,dd⟩:=Yy I.hok e
  obtain ⟨w',hw,rw'⟩:=RelO.some_of (v:=v) (o:=valueAt vs k) (by rw [l]; exact rel.val k)
  exact wpAny_getItem_of (Yx ry) dd.mapOf hw (h w' _ (I.tok _) rw')
 ·subst ey
  cases (show u=Value.ref b from ry)
  obtain ⟨z,hd,xs,rel,dd⟩:=Yz I.hok e
  obtain ⟨w',hw,rw'⟩:=RelO.some_of (v:=v) (o:=(atKey xs k).map (·.2)) (by rw [l]; exact rel.val k)
  obtain ⟨p,hp,hp2⟩:=uk.mp hw
  refine wpAny_getItem_heap (tupleKind_room_in1 hu) (ja I.hok eb) dd hp ?_
  rw [hp2]
  exact h w' _ (I.tok _) rw'
theorem JJ {Q:Value->Shared->Prop} (hu:A.units + 1 < cLine) (I:Inv X pins σ H s) (g:DGet H a y o) (ry:RelV y u) (h:∀ s',Inv X pins σ H s'->Q (.bool (!o.isSome)) s') :
  wpAny (model X.prog X.w) A (compareOp .NotIn u (.ref a)) Q E s:=by
 rcases g with ⟨kvs,k,e,ey,l⟩ | ⟨kvs,k,b,e,ey,eb,l⟩
 ·subst ey
  obtain ⟨z,hd,vs,rel,dd⟩:=Yy I.hok e
  refine wpAny_notIn_of (Yx ry) hd dd.mapOf ?_
  rw [<- (rel.val k).isSome_eq,<- l]
  exact h _ (I.tok _)
 ·subst ey
  cases (show u=Value.ref b from ry)
  obtain ⟨z,hd,xs,rel,dd⟩:=Yz I.hok e
  refine wpAny_notIn_heap (tupleKind_room_in1 hu) (ja I.hok eb) hd dd ?_
  have q:=(rel.val k).isSome_eq
  rw [Option.isSome_map] at q
  rw [<- q,<- l]
  exact h _ (I.tok _)
theorem YA {h':Heap} {t':Nat} {ob:HO} (I:Inv X pins σ H s) (mu:Mut (H a)) (hs:Heap.SameBut a s.heap h') (he:∃ q,h'.get? a=some q) (new:ObjOk X.prog X.w (upd H a ob) h' a ob) :
  Inv X pins σ (upd H a ob) { s with heap:=h',toks:=t' } :=
 I.write (x:=a) (e:=a) mu (.inl rfl) (fun b q hb z=>(hs.2 b hb).trans z) he new
theorem Q8 {P:Program} {w:World} {H':Hp} {h':Heap} {kvs:List (Key × V)} {vs:List (Key × Value)} (z:kvs.length<=sizeLine) (hd:(a == sysModules)=false) (rel:KV kvs vs) (dd:h'.DictOf (yd P w) a vs) :
  ObjOk P w H' h' a (.dK kvs):=⟨z,hd,vs,rel,dd⟩
theorem Xw {H':Hp} {Q:Unit->Shared->Prop} (hu:A.units + 1 < cLine) (I:Inv X pins σ H s) (g:DPut H a y v H') (ry:RelV y u) (rv:RelV v r) (h:∀ s',Inv X pins σ H' s'->Q () s') :
  wpAny (model X.prog X.w) A (setItem (.ref a) u r) Q E s:=by
 rcases g with ⟨kvs,k,e,ey,l,eH⟩ | ⟨kvs,k,b,e,ey,eb,l,eH⟩
 ·subst ey eH
  obtain ⟨z,hd,vs,rel,dd⟩:=zaZ I.hok e
  have hz:vs.length<=sizeLine:=by rw [<- rel.length]; exact z
  have hl:(putK kvs k v).length<=sizeLine:=by have:=wq kvs k v; lia
  refine wpAny_setItem_pairs (hsz:=hz) (Yx ry) dd fun h' dd' hs=>h _ ?_
  have he:∃ q,h'.get? a=some q:=let ⟨q,_,_,hq,_⟩:=dd'; ⟨q,hq⟩
  exact YA I (by rw [e]; exact True.intro) hs he (Q8 hl hd (rel.put k rv) dd')
 ·subst ey eH
  cases (show u=Value.ref b from ry)
  obtain ⟨z,hd,xs,rel,dd⟩:=za0 I.hok e
  have hz:xs.length<=sizeLine:=by rw [<- Paired.length rel]; exact z
  have hl:(putK kvs k v).length<=sizeLine:=by have:=wq kvs k v; lia
  refine wpAny_setItem_heap (hsz:=hz) (tupleKind_room_in1 hu) (ja I.hok eb) dd fun h' dd' hs=>h _ ?_
  obtain ⟨q,es,ep,hq,h2,h3,h4,_,h5⟩:=dd'
  refine YA I (by rw [e]; exact True.intro) hs ⟨q,hq⟩ ⟨hl,hd,_,(rel.put k eb rv).keeps fun c ys ec=>?_,q,es,ep,hq,h2,h3,h4,h5⟩
  rw [zm (z9 ec e (fun z=>nomatch z))]
  exact ec
end
section
variable {X:Cx} {pins:List (Addr × Obj)} {σ:St} {H:Hp} {s:Shared} {a:Addr} {kvs:List (Key × V)} {k:Key} {u:Value} {A:Around} {E:Value->Shared->Prop}
end
def NoSl (i:Expr):Prop:=∀ ov iv,subscripted i false ov iv=operate [ov,iv] (getItem ov iv)
theorem JK {prog:Program} {w:World} {A:Around} {E:Value->Shared->Prop} {s:Shared} {env:Env} {value slice:Expr} {pos:Pos} {T id:String} {Q:Value->Shared->Prop}
  (hl:typeLookup (.type T) "__getitem__"=pure (some (.builtin id))) (hs:NoSl slice)
  (h:wpAny (model prog w) A (eval value env) (fun o s₁=>wpAny (model prog w) A (eval slice env) (fun i s₂=>s₂.TypeIs o T/\wpAny (model prog w) A (getItem o i) Q E s₂) E s₁) E s) :
  wpAny (model prog w) A (eval (.Subscript value slice pos) env) Q E s:=by
 refine Subscript_ (wpAny_mono h (fun o s₁ h₁=>wpAny_mono h₁ (fun i s₂ h₂=>?_) fun _ _ x=>x) fun _ _ x=>x)
 obtain ⟨hT,h₂⟩:=h₂
 unfold subscriptTail
 refine wpAny_bind ?_
 rw [getitemInPython_of_ne hT.not_modules]
 refine wpAny_bind (wpAny_specialOf hT hl ?_)
 have fin:wpAny (model prog w) A (subscripted slice false o i) (fun r s₃=>wpAny (model prog w) A (letTemporaryGo value o r >>= fun _=>pure r) Q E s₃) E s₂:=by
  rw [hs o i]
  exact wpAny_operating (wpAny_mono h₂ (fun r s₃ h₃=>wpAny_bind (wpAny_letTemporaryGo (wpAny_pure h₃))) fun _ _ x=>x)
 first
  | exact wpAny_pure (wpAny_bind fin)
  | exact wpAny_bind (wpAny_pure (wpAny_bind fin))
  | exact wpAny_bind fin
theorem j4 {X:Cx} {pins:List (Addr × Obj)} {σ:St} {H:Hp} {s:Shared} {a:Addr} {y:V} {o:Option V} (I:Inv X pins σ H s) (g:DGet H a y o):s.TypeIs (.ref a) "dict":=by
 rcases g with ⟨kvs,k,e,_,_⟩ | ⟨kvs,k,b,e,_,_,_⟩
 ·obtain ⟨_,_,vs,_,dd⟩:=Yy I.hok e
  exact dd.typeIs
 ·obtain ⟨_,_,xs,_,dd⟩:=Yz I.hok e
  exact dd.typeIs
def q5 (td ty:TE):TE:=fun σ H Q=>td σ H fun x H1=>ty σ H1 fun y H2=>∃ a v,x=.ref a/\DGet H2 a y (some v)/\Q v H2
def YB (ty td:TE):TE:=fun σ H Q=>ty σ H fun y H1=>td σ H1 fun x H2=>∃ a o,x=.ref a/\DGet H2 a y o/\Q (.bl (!o.isSome)) H2
def q8 (td ty tv:TE):TS:=fun D σ H=>tv σ H fun v H1=>td σ H1 fun x H2=>ty σ H2 fun y H3=>∃ a H4,x=.ref a/\DPut H3 a y v H4/\D.nx σ H4
section
variable {X:Cx} {o i e value:Expr} {pos pos' tpos:Pos} {td ty tv:TE}
theorem JL (hu:X.A.units + 1 < cLine) (ho:PE X o td) (hi:PE X i ty) (hs:NoSl i):PE X (.Subscript o i pos) (q5 td ty):=by
 intro pins s σ H Q I h
 refine JK PySem.F.slot_dict_getitem.lookup hs (thn (ho pins s σ H _ I h) fun u s1 ⟨x,H1,I1,rx,q1⟩=>thn (hi pins s1 σ H1 _ I1 q1) fun iv s2 ⟨y,H2,I2,ry,a,v,ex,g,q2⟩=>?_)
 subst ex
 obtain rfl:u=Value.ref a:=rx
 exact ⟨j4 I2 g,Xv hu I2 g ry fun w' s3 I3 rw'=>⟨v,H2,I3,rw',q2⟩⟩
theorem Xx (hu:X.A.units + 1 < cLine) (hi:PE X i ty) (ho:PE X o td):PC X .NotIn i o (YB ty td):=by
 intro pins s σ H Q I h
 refine thn (hi pins s σ H _ I h) fun iv s1 ⟨y,H1,I1,ry,q1⟩=>thn (ho pins s1 σ H1 _ I1 q1) fun u s2 ⟨x,H2,I2,rx,a,ov,ex,g,q2⟩=>?_
 subst ex
 obtain rfl:u=Value.ref a:=rx
 exact JJ hu I2 g ry fun s3 I3=>⟨.bl (!ov.isSome),H2,I3,rfl,q2⟩
theorem JM (hu:X.A.units + 1 < cLine) (ho:PE X o td) (hi:PE X i ty) (hv:PE X value tv) (hs:swapsWith value (some (.Subscript o i pos')) pos.line X.env=pure false) :
  PS X (.Assign [.Subscript o i pos'] value pos) (q8 td ty tv):=by
 intro pins s σ H D I h
 refine wpAny_Assign_Subscript (thn (hv pins s σ H _ I h) fun r s1 ⟨v,H1,I1,rv,q1⟩=>thn (ho pins s1 σ H1 _ I1 q1) fun u s2 ⟨x,H2,I2,rx,q2⟩=>thn (hi pins s2 σ H2 _ I2 q2) fun iv s3 ⟨y,H3,I3,ry,a,H4,ex,g,q3⟩=>?_) hs
 subst ex
 obtain rfl:u=Value.ref a:=rx
 exact Xw hu I3 g ry rv fun s4 I4=>⟨σ,H4,I4,q3⟩
end
theorem WH {P:Program} {w:World} {H:Hp} (h:Heap) (hb:sysModules < h.objs.size):ObjOk P w H (h.push { cls:=.type "dict",data:=.dict #[] }) h.objs.size (.dK []) :=
 ⟨u6 _,beq_eq_false_iff_ne.mpr (Ne.symm (uQ hb)),[],.nil,Heap.DictOf.new h⟩
def WI:TE:=fun _ H Q=>∀ p,H p=none->Q (.ref p) (upd H p (.dK []))
section
variable {X:Cx} {pos:Pos}
theorem WJ:PE X (.Dict [] [] pos) WI:=fun pins s σ H Q I h =>
 wpAny_Dict_empty ⟨.ref s.heap.objs.size,_,I.laid (a:=s.heap.objs.size) (o:=.dK []) (t':=s.toks) (fun _ _ q=>uc _ q) (ui _) (WH s.heap I.big),rfl,h _ (I.hok.fresh (ui _))⟩
end
structure M1 (X:Cx) (o:Expr) (m:Str) (apos:Pos) (e:Expr) (cpos:Pos):Prop where
 base:attributeBase o m X.env (eval o X.env)=eval o X.env
 few:((backTo cpos (starEach [e] X.env)).all (fun x=>!x.1) && (backToKw cpos (keywordEach [] X.env)).all (fun x=>x.1.isSome)
  && decide (([e]:List Expr).length + ([]:List Keyword).length + (if ([]:List Keyword).isEmpty then 0 else 1) < 30))=true
 line:(apos.endLine == cpos.line)=true
 trees:backTo cpos (starEach [e] X.env)=[(false,eval e X.env)]
structure M2 (X:Cx) (o:Expr) (m:Str) (apos:Pos) (e f:Expr) (cpos:Pos):Prop where
 base:attributeBase o m X.env (eval o X.env)=eval o X.env
 few:((backTo cpos (starEach [e,f] X.env)).all (fun x=>!x.1) && (backToKw cpos (keywordEach [] X.env)).all (fun x=>x.1.isSome)
  && decide (([e,f]:List Expr).length + ([]:List Keyword).length + (if ([]:List Keyword).isEmpty then 0 else 1) < 30))=true
 line:(apos.endLine == cpos.line)=true
 trees:backTo cpos (starEach [e,f] X.env)=[(false,eval e X.env),(false,eval f X.env)]
section
variable {X:Cx} {pins:List (Addr × Obj)} {σ:St} {H:Hp} {s:Shared} {a:Addr} {y d:V} {u r:Value} {o:Option V} {A:Around} {E:Value->Shared->Prop}
end
section
variable {X:Cx} {o e f:Expr} {apos cpos:Pos} {td ty tx:TE}
end
section
variable {X:Cx} {pins:List (Addr × Obj)} {σ:St} {H:Hp} {s:Shared} {a:Addr} {kvs:List (Key × V)} {A:Around} {E:Value->Shared->Prop}
end
section
variable {X:Cx} {pins:List (Addr × Obj)} {σ:St} {H:Hp} {s:Shared} {a:Addr} {y:V} {u:Value} {A:Around} {E:Value->Shared->Prop}
end
end L2
namespace Att
open PySem PySem.W PySem.Calls PyProof.Rows
section
variable {prog:Program} {w:World} {A:Around} {E:Value->Shared->Prop} {s:Shared} {K:Frag}
end
end Att
namespace L2
open PySem PySem.Spec PyProof.Rows
end L2
namespace L2
open PySem PySem.Spec PyProof.Rows
end L2
namespace L2
open PySem PySem.Spec PyProof.Rows
section
variable {P:Program} {w:World} {K:ua} {mg:Str->Option Value} {base:Heap}
end
section
variable {X:Cx}
end
section
variable {κ:Type} [DecidableEq κ]
end
end L2
namespace L2
open PySem PySem.Spec PyProof.Rows
section
variable {X:Cx} {pos:Pos}
theorem xU:jE X (.Dict [] [] pos) WI:=⟨WJ⟩
end
theorem JN {K:ua} {k m:Bool} {a b:Addr} {xs ys:List V} {g:TG} {tb:TS} {D:Ends} {σ:St} {H:Hp} (hlen:xs.length=ys.length) (Pv:Nat->St->Hp->Prop) (h0:Pv 0 σ H) (hl:∀ i σ H,i<=xs.length->Pv i σ H->SqK k K H a xs/\SqK m K H b ys)
  (hs:∀ i x y T σ H,xs[i]?=some x->ys[i]?=some y->H T=none->Pv i σ H->g (.ref T) σ (upd H T (.tup [x,y])) fun σ2 H2=>tb { D with nx:=Pv (i + 1),ct:=Pv (i + 1),bk:=D.nx } σ2 H2) (hd:∀ σ H,Pv xs.length σ H->D.nx σ H) :
  ∃ W:Nat->Nat->St->Hp->Prop,(∃ m,W 0 m σ H)/\∀ i n σ H,W i n σ H ->
   ((Itz K k m a b).stop i H/\D.nx σ H)\/((Itz K k m a b).go i H/\∃ N:St->Hp->Prop,(∀ σ' H',N σ' H'->∃ m',m' < n/\W (i + 1) m' σ' H')/\∀ x H',(Itz K k m a b).yld i H x H'->g x σ H' fun σ2 H2=>tb { D with nx:=N,ct:=N,bk:=D.nx } σ2 H2):=by
 refine ⟨fun i m σ H=>m=xs.length - i/\i<=xs.length/\Pv i σ H,⟨xs.length,by simp,u6 _,h0⟩,?_⟩
 rintro i n σ H ⟨rfl,hi,p⟩
 obtain ⟨q1,q2⟩:=hl i σ H hi p
 by_cases hlt:i < xs.length
 ·refine .inr ⟨⟨xs,ys,xs[i],ys[i]'(by lia),q1,q2,by simp [hlt],by simp [<- hlen,hlt]⟩,Pv (i + 1),fun σ' H' p'=>⟨xs.length - (i + 1),by lia,rfl,hlt,p'⟩,fun x H' y=>?_⟩
  obtain ⟨T,x,y,rfl,hT,rfl,e1,e2⟩:=y
  exact hs i x y T σ H (e1 xs q1) (e2 ys q2) hT p
 ·have e:i=xs.length:=by lia
  subst e
  exact .inl ⟨⟨xs,ys,q1,q2,.inl (ui _)⟩,hd σ H p⟩
end L2
namespace L2
open PySem PySem.Spec PyProof.Rows
def lay (H:Hp):List (Addr × HO)->Hp
 | []=>H
 | p :: r=>upd (lay H r) p.1 p.2
section
variable {X:Cx} {pins:List (Addr × Obj)} {σ:St} {H:Hp} {s:Shared} {h':Heap}
end
section
variable {X:Cx}
theorem y8 {o i value:Expr} {td ty tv:TE} {pos pos':Pos} {k:Nat} (hr:Room k X.A) (ho:jE X o td) (hi:jE X i ty) (hv:jE X value tv) (hs:swapsWith value (some (.Subscript o i pos')) pos.line X.env=pure false:=by rfl) :
  jS X (.Assign [.Subscript o i pos'] value pos) (q8 td ty tv):=⟨JM (by have:=hr.units; lia) ho.out hi.out hv.out hs⟩
end
end L2
namespace L2
open PySem PySem.Spec PyProof.Rows
section
variable {X:Cx} {pos:Pos}
theorem jb (K:ua) (h:X.K=K:=by rfl):jIx X (rIxT K):=h ▸ zr
theorem xW (K:ua) (h:X.K=K:=by rfl):jIx X (rIxL K):=h ▸ zE
theorem jc (K:ua) {es:List Expr} {k:Nat} {gs:TGs} {n:Nat} (hc:X.calm=true) (g:jGs X es gs) (h:X.K=K:=by rfl) (hn:(assignEach es X.env).length=n:=by rfl) (hst:(assignEach es X.env).findIdx? (·.1)=none:=by rfl):jG X (.Tuple es k pos) (gTup K n gs):=h ▸ xI hc g hn hst
theorem wr (K:ua) (h:X.K=K:=by rfl):jCa X (.builtin "len") (fun xs H Q=>∃ p ys,xs=[.ref p]/\(SqL K H p ys\/SqT K H p ys)/\Q (.int ys.length) H):=h ▸ zz
theorem ZQ (K:ua) (h:X.K=K:=by rfl):jCa X (.builtin "isinstance") (fun xs H Q=>∃ x t T b,xs=[x,.ty T]/\TyOf K H x t/\PySem.W.kitOne K t (.type T)=some b/\Q (.bl b) H):=h ▸ zY
theorem jd (K:ua) (h:X.K=K:=by rfl):jCa X (.type "tuple") (fun xs H Q=>∃ p ys,xs=[.ref p]/\((SqL K H p ys/\∀ l,H l=none->Q (.ref l) (upd H l (.tup ys)))\/(SqT K H p ys/\Q (.ref p) H))):=h ▸ zR
theorem j5 (K:ua) (h:X.K=K:=by rfl):jCa X (.type "list") (fun xs H Q=>∃ p ys,xs=[.ref p]/\(SqL K H p ys\/SqT K H p ys)/\∀ l,H l=none->Q (.ref l) (upd H l (.lst ys))):=h ▸ wN
theorem YC (K:ua) {e:Expr} {ta:TE} {f:Str} (he:jE X e ta) (h:X.K=K:=by rfl) (hb:attributeBase e f X.env (eval e X.env)=eval e X.env:=by rfl):jE X (.Attribute e f pos) (tFld K ta f):=h ▸ zS he hb
end
end L2
namespace K11
open PySem
def sg (c:Nat):Str:=⟨#[c]⟩
theorem wS (a:Array Nat):∀ (k:Nat) (acc:Array Nat),((Ut k a).foldl (· ++ ·) acc).size=acc.size + k * a.size
 | 0,acc=>by simp
 | k + 1,acc=>by
  rw [List.replicate_succ,List.foldl_cons,wS a k,Array.size_append,Nat.add_mul]
  lia
theorem JO {z:Str} {n:Int} (hz:z.length=1):(Txt.mul z n).length<=n.toNat:=by
 unfold Txt.mul
 split
 ·simp [Str.empty,Str.length]
 ·rename_i h
  split
  ·rw [hz]; lia
  ·show ((Ut n.toNat z.cps).foldl (· ++ ·) #[]).size<=n.toNat
   have e:z.cps.size=1:=hz
   rw [wS,e]
   simp
theorem Q9 {z:Str} {n:Int} (hz:z.length=1) (h0:0<=n) (h1:n<=1000):MulOk z n:=by
 have hs:sizeLine=16777216:=by decide
 refine ⟨?_,fun a b=>?_,fun a b=>?_⟩
 ·have e1:decide (n < -(2 ^ 63:Int))=false:=decide_eq_false (by lia)
  have e2:decide (n ≥ 2 ^ 63)=false:=decide_eq_false (by lia)
  rw [e1,e2]; rfl
 ·rw [hz]
  have:(1:Int)<=(2 ^ 63 - 1) / n:=Int.le_ediv_of_mul_le (by lia) (by lia)
  intro c
  have c':(1:Int) > (2 ^ 63 - 1) / n:=c
  lia
 ·rw [hz]
  unfold Builtin.Str.tooLong
  exact decide_eq_false (by rw [hs]; lia)
end K11
namespace K11
open PySem PySem.Spec PyProof.Rows Builtin Builtin.Str
abbrev cl (z:Str):List Nat:=z.cps.toList
theorem xX {x y:Str} (h:cl x=cl y):x=y:=by
 obtain ⟨⟨a⟩⟩:=x
 obtain ⟨⟨b⟩⟩:=y
 have e:a=b:=h
 rw [e]
theorem yN (z:Str):(cl z).length=z.length:=by simp [Str.length]
theorem zP (x y:Str):cl (x ++ y)=cl x ++ cl y:=by
 show (x.cps ++ y.cps).toList=_
 simp
theorem yc {sep x y:Str} {r:List Str}:cl (Str.join sep (x :: y :: r))=cl x ++ (cl sep ++ cl (Str.join sep (y :: r))):=by
 show cl (x ++ sep ++ Str.join sep (y :: r))=_
 rw [zP,zP,uG]
theorem y9 {c:Nat}:∀ {a b r t:List Nat},c ∉ a->c ∉ b->a ++ c :: r=b ++ c :: t->a=b/\r=t
 | [],[],_,_,_,_,h=>by simpa using h
 | [],y :: b,_,_,_,hb,h=>by
  injection h with h1 _
  exact absurd h1 (fun e=>hb (by rw [e]; exact uo))
 | x :: a,[],_,_,ha,_,h=>by
  injection h with h1 _
  exact absurd h1.symm (fun e=>ha (by rw [e]; exact uo))
 | x :: a,y :: b,r,t,ha,hb,h=>by
  injection h with h1 h2
  obtain ⟨e1,e2⟩:=y9 (fun z=>ha (ut _ z)) (fun z=>hb (ut _ z)) h2
  exact ⟨by rw [h1,e1],e2⟩
theorem j6 {c:Nat}:∀ {ps qs:List Str},ps≠[]->qs≠[]->(∀ p∈ps,c ∉ cl p)->(∀ q∈qs,c ∉ cl q)->Str.join (sg c) ps=Str.join (sg c) qs->ps=qs
 | [],_,h,_,_,_,_=>absurd rfl h
 | _,[],_,h,_,_,_=>absurd rfl h
 | [p],[q],_,_,_,_,h=>by
  have h':p=q:=h
  rw [h']
 | [p],q :: q2 :: qs,_,_,hp,_,h=>by
  have e:=congrArg cl h
  rw [yc] at e
  have e':cl p=cl q ++ ([c] ++ cl (Str.join (sg c) (q2 :: qs))):=e
  exact absurd (show c∈cl p by rw [e']; simp) (hp p uo)
 | p :: p2 :: ps,[q],_,_,_,hq,h=>by
  have e:=congrArg cl h
  rw [yc] at e
  have e':cl p ++ ([c] ++ cl (Str.join (sg c) (p2 :: ps)))=cl q:=e
  exact absurd (show c∈cl q by rw [<- e']; simp) (hq q uo)
 | p :: p2 :: ps,q :: q2 :: qs,_,_,hp,hq,h=>by
  have e:=congrArg cl h
  rw [yc,yc] at e
  obtain ⟨e1,e2⟩:=y9 (c:=c) (hp p uo) (hq q uo) e
  have ih:=j6 (c:=c) (ps:=p2 :: ps) (qs:=q2 :: qs) (by simp) (by simp) (fun x hx=>hp x (ut _ hx)) (fun x hx=>hq x (ut _ hx)) (xX e2)
  rw [xX e1,ih]
theorem wT {c:Nat} {ws:List Str} (h0:ws≠[]) (hw:∀ x∈ws,c ∉ cl x):Txt.split (Str.join (sg c) ws) (sg c)=ws:=by
 refine j6 (c:=c) (fun e=>?_) h0 (StrLaws.split_free _ c) hw (StrLaws.join_split _ _)
 have:=split_pos (Str.join (sg c) ws) (sg c)
 rw [e] at this
 simp at this
theorem Xy {c:Nat} {z:Str} (h:c ∉ cl z):Txt.split z (sg c)=[z]:=wT (ws:=[z]) (by simp) (fun x hx=>by rw [uh.mp hx]; exact h)
end K11
namespace GN
open PySem L2
def top (i:Nat):Stmt:=PySem.Challenge.pw_reusewise_k37_functions_handed_on.main.body.getD i (.Pass ⟨0,0,0,0⟩)
abbrev je:Stmt:=yt (top 5) 0
abbrev ZR:Stmt:=top 7
abbrev xn:Stmt:=top 9
abbrev sIn:Stmt:=top 10
abbrev ZT:Stmt:=top 11
abbrev ZU:Stmt:=top 12
abbrev yF:Stmt:=top 13
abbrev ZV:Stmt:=top 14
abbrev YD:Stmt:=top 16
abbrev sRes:Stmt:=top 17
abbrev sRun:Stmt:=top 19
abbrev sBy:Stmt:=top 20
abbrev ZW:Stmt:=top 21
abbrev wU:Stmt:=top 22
abbrev ZX:Stmt:=top 23
abbrev ZY:Stmt:=top 24
abbrev ZZ:Stmt:=yt (top 25) 0
abbrev Z0:Stmt:=yt (top 26) 0
abbrev Z3:Stmt:=yt (top 26) 1
abbrev sGo:Stmt:=yt (top 26) 2
abbrev WK:Stmt:=yt (top 26) 3
abbrev jg:Stmt:=yt (top 26) 4
abbrev wV:Stmt:=yt (top 26) 5
abbrev sLet:Stmt:=yt (top 26) 6
abbrev jh:Stmt:=yt (top 26) 7
abbrev sOut:Stmt:=yt (top 26) 8
abbrev WL:Stmt:=yt (top 26) 9
abbrev sAsk:Stmt:=yt (top 26) 10
abbrev WM:Stmt:=top 28
abbrev sNm:Stmt:=top 29
abbrev WN:Stmt:=top 30
abbrev WP:Stmt:=top 31
abbrev wW:Stmt:=top 32
abbrev WQ:Stmt:=top 33
abbrev WR:Stmt:=top 34
abbrev WS:Stmt:=top 35
abbrev WT:Stmt:=top 36
abbrev jj:Stmt:=top 37
abbrev jk:Stmt:=top 38
abbrev WU:Stmt:=top 39
abbrev WV:Stmt:=top 40
abbrev sDue:Stmt:=top 41
abbrev WW:Stmt:=top 42
abbrev sLaw:Stmt:=top 43
end GN
namespace L2
open PySem
section
variable {X:Cx} {o i:Expr} {to ti:TE} {pos:Pos}
theorem jl (ho:jE X o to) (hi:jE X i ti) (ha:∀ v,assign (.Subscript o i pos) X.env v=(do
   let ov <- holding [v] (eval o X.env)
   let iv <- holding [v,ov] (eval i X.env)
   standAt pos
   holding [v,ov,iv] (setItem ov iv v)
   release [v,ov,iv] []):=by intro _; rfl):jG X (.Subscript o i pos) (gSub to ti qS):=⟨QA ho.out hi.out Wg ha⟩
end
end L2
namespace GN
open PySem L2 K11
theorem same_new {H:Hp} {p:Addr} (h:H p=none) (o:HO):Same H (upd H p o):=fun b u q=>by rw [zm (zo q h)]; exact q
def LIM:Nat:=4611686018427387904
def Sta (K:ua) (H:Hp) (st:Addr) (B:Nat):Prop:=∃ (a:Addr) (ns:List Int) (k:Nat),H st=some (.lst [.ref a,.int (k:Nat)])/\(a=st->∀ H',SqL K H' a (ns.map V.int))/\SqL K H a (ns.map V.int)/\k<=B
structure Kp (st:Addr) (H H':Hp):Prop where
 k:∀ b u,b≠st->H b=some u->H' b=some u
 s:∀ a k,H st=some (.lst [.ref a,.int k])->∃ k',H' st=some (.lst [.ref a,.int k'])
theorem Kp.refl {st:Addr} {H:Hp}:Kp st H H:=⟨fun _ _ _ h=>h,fun _ k h=>⟨k,h⟩⟩
theorem Kp.trans {st:Addr} {H H1 H2:Hp} (a:Kp st H H1) (b:Kp st H1 H2):Kp st H H2:=⟨fun c u n h=>b.k c u n (a.k c u n h),fun x k h=>let ⟨k',h'⟩:=a.s x k h; b.s x k' h'⟩
theorem Kp.of {st:Addr} {H H1:Hp} (a:Same H H1):Kp st H H1:=⟨fun c u _ h=>a c u h,fun _ k h=>⟨k,a _ _ h⟩⟩
theorem Kp.new {st p:Addr} {H H1:Hp} {o:HO} (a:Kp st H H1) (h:H1 p=none):Kp st H (upd H1 p o):=a.trans (.of (same_new h o))
theorem Kp.put {st p:Addr} {H H1:Hp} {o:HO} (a:Kp st H H1) (h:H p=none):Kp st H (upd H1 p o):=⟨fun b u n q=>by rw [zm (zo q h)]; exact a.k b u n q,fun x k q=>by
 obtain ⟨k',h'⟩:=a.s x k q
 exact ⟨k',by rw [zm (zo q h)]; exact h'⟩⟩
theorem Kp.seq {K:ua} {st a:Addr} {H H':Hp} {xs:List V} (e:Kp st H H') (n:a≠st) (h:SqL K H a xs):SqL K H' a xs:=by
 rcases h with (h | ⟨o,h⟩) | h
 ·exact .inl (.inl (e.k _ _ n h))
 ·exact .inl (.inr ⟨o,e.k _ _ n h⟩)
 ·exact .inr h
theorem Kp.free {st p:Addr} {H H':Hp} (e:Kp st H H') (n:p≠st) (h:H' p=none):H p=none:=by
 cases q:H p with
 | none=>rfl
 | some o =>
  rw [e.k p o n q] at h
  cases h
section
variable {K:ua} {H H':Hp} {st:Addr} {B B':Nat}
theorem Sta.ex (h:Sta K H st B):∃ o,H st=some o:=let ⟨_,_,_,e,_⟩:=h; ⟨_,e⟩
theorem Sta.mono (h:Sta K H st B) (l:B<=B'):Sta K H st B':=let ⟨a,ns,k,h1,h2,h3,h4⟩:=h; ⟨a,ns,k,h1,h2,h3,uX h4 l⟩
theorem Sta.same (h:Sta K H st B) (s:Same H H'):Sta K H' st B:=let ⟨a,ns,k,h1,h2,h3,h4⟩:=h; ⟨a,ns,k,s _ _ h1,h2,s.seq h3,h4⟩
theorem Sta.new (h:Sta K H st B) {p:Addr} (hp:H p=none) (o:HO):Sta K (upd H p o) st B:=h.same (same_new hp o)
theorem Sta.ne {p:Addr} (h:Sta K H st B) (hp:H p=none):p≠st:=fun e=>by
 obtain ⟨o,q⟩:=h.ex
 rw [e,q] at hp
 cases hp
theorem Sta.neR {p:Addr} {ts:List Addr} (h:Sta K H st B) (hp:H p=some (.lst (ts.map V.ref))):p≠st:=fun e=>by
 obtain ⟨a,ns,k,h1,_⟩:=h
 rw [e,h1] at hp
 have e2:=congrArg (fun o=>match o with | some (HO.lst l)=>l | _=>[]) hp
 simp only at e2
 match ts,e2 with
 | [_,_],e2=>simp at e2
 | [],e2=>simp at e2
 | [_],e2=>simp at e2
 | _ :: _ :: _ :: _,e2=>simp at e2
theorem Sta.neS {p:Addr} {ts:List Str} (h:Sta K H st B) (hp:H p=some (.lst (ts.map V.str))):p≠st:=fun e=>by
 obtain ⟨a,ns,k,h1,_⟩:=h
 rw [e,h1] at hp
 have e2:=congrArg (fun o=>match o with | some (HO.lst l)=>l | _=>[]) hp
 simp only at e2
 match ts,e2 with
 | [],e2=>simp at e2
 | _ :: _,e2=>simp at e2
theorem Sta.neW {p:Addr} {x:Str} {xs:List V} (h:Sta K H st B) (hp:H p=some (.lst (.str x :: xs))):p≠st:=fun e=>by
 obtain ⟨a,ns,k,h1,_⟩:=h
 rw [e,h1] at hp
 simp at hp
theorem Sta.put {H2:Hp} {p:Addr} {o:HO} (S0:Sta K H st B) (hp:H p=none) (k:Kp st H H2) (S2:Sta K H2 st B'):Sta K (upd H2 p o) st B':=by
 obtain ⟨a,ns,i,h1,h2,h3,_⟩:=S0
 obtain ⟨a',ns',i',g1,g2,g3,g4⟩:=S2
 obtain ⟨k',h'⟩:=k.s a _ h1
 rw [g1] at h'
 have ea:a'=a:=by
  have:=congrArg (fun o=>match o with | some (HO.lst (V.ref x :: _))=>x | _=>0) h'
  exact this
 subst ea
 have g1':upd H2 p o st=some (.lst [.ref a',.int ((i':Nat):Int)]):=by rw [zm (zo h1 hp)]; exact g1
 have key:a'≠p->Sta K (upd H2 p o) st B':=fun n=>by
  refine ⟨a',ns',i',g1',g2,?_,g4⟩
  rcases g3 with (g | ⟨o,g⟩) | g
  ·exact .inl (.inl (by rw [zm n]; exact g))
  ·exact .inl (.inr ⟨o,by rw [zm n]; exact g⟩)
  ·exact .inr g
 rcases h3 with (h | ⟨_,h⟩) | h
 ·exact key (zo h hp)
 ·exact key (zo h hp)
 ·exact ⟨a',ns,i',g1',fun _ _=>.inr h,.inr h,g4⟩
def Tups (H H':Hp):Prop:=∀ p xs,H p=some (.tup xs)->H' p=some (.tup xs)
theorem Tups.of (s:Same H H'):Tups H H':=fun p xs h=>s p _ h
theorem Tups.trans {H2:Hp} (a:Tups H H') (b:Tups H' H2):Tups H H2:=fun p xs h=>b p xs (a p xs h)
theorem Kp.tups (k:Kp st H H') (h:Sta K H st B):Tups H H':=fun p xs q=>k.k p _ (fun e=>by
 obtain ⟨_,_,_,h1,_⟩:=h
 rw [e,h1] at q
 cases q) q
end
def xa (K:ua):Sp:=fun vs H Q _=>∃ (st:Addr) (m:Int) (B:Nat),vs=[.ref st,.int m]/\Sta K H st B/\B < LIM/\0 < m/\∀ (H':Hp) (r:Int),Kp st H H'->Sta K H' st (B + 1)->0<=r->r < m->Q (.int r) H'
def LET:Str:="abcdefghijklmnopqrstuvwxyz"
theorem zaa:cl LET=(UR 26).map (97 + ·):=by decide +kernel
def lt (i:Nat):Str:=sg (97 + i)
theorem zab {i:Nat} (h:i < 26):atI LET.cps.toList (i:Int)=some (97 + i):=by
 refine zj ?_
 show (cl LET)[i]?=_
 rw [zaa,uj,List.getElem?_range h]
 rfl
theorem jm {m:Int} (h0:0<=m) (h:m < 26):atI LET.cps.toList m=some (97 + m.toNat):=by
 have e:=zab (i:=m.toNat) (by lia)
 rw [Int.toNat_of_nonneg h0] at e
 exact e
theorem jo:LET.length=26:=by decide +kernel
def core (k:Nat):Str:=lt (k / 2 % 26) ++ ("z":Str) ++ lt (k / 52 % 26)
def ys (k:Nat):Str:=Txt.mul "y" ((k % 2:Nat):Int)
def nm (z:Str) (b:Bool) (k:Nat):Str:=if b=true then core k ++ z ++ ys k else ys k ++ z ++ core k
theorem xy (k:Nat):cl (core k)=[97 + k / 2 % 26,122,97 + k / 52 % 26]:=by
 unfold core
 rw [zP,zP]
 rfl
theorem j7 (k:Nat):(core k).length=3:=by rw [<- yN,xy]; rfl
theorem WX (k:Nat):(ys k).length<=1:=by
 have h:=JO (z:="y") (n:=((k % 2:Nat):Int)) rfl
 unfold ys
 lia
theorem xz (a b:Str):(a ++ b).length=a.length + b.length:=by rw [<- yN,zP,uf,yN,yN]
theorem WY {z:Str} {b:Bool} {k:Nat} (h:z.length<=6):(nm z b k).length<=10:=by
 have h1:=j7 k
 have h2:=WX k
 unfold nm
 split
 ·rw [xz,xz]; lia
 ·rw [xz,xz]; lia
def spNm:Sp:=fun vs H Q _=>∃ (p:Addr) (z:Str) (b:Bool) (xs:List V) (k:Nat),vs=[.ref p,.int (k:Nat)]/\H p=some (.lst (.str z :: .bl b :: xs))/\z.length<=6/\Q (.str (nm z b k)) H
section
variable {P:Program} {w:World} {K:ua} {mg:Str->Option Value} {base:Heap} {f:Addr} {fd:FuncData}
theorem scDraw:FnScope ["_law_state","_law_many","_law_k","_law_cell"] ["_law_state","_law_many"] (zp WM):=⟨rfl,rfl,rfl,by decide +kernel,rfl,by decide +kernel,by decide +kernel⟩
theorem JP (F:Fun K "_law_draw" "_law_draw" WM f fd) (m_len:mg "len"=none):FnOk P w K mg base CX0 1 f fd ["_law_state","_law_many"] (xa K):=by
 refine F.by scDraw (fun vs H Q E h=>?_) (fun cdv A outer s H vs Q E hr h=>?_)
 ·obtain ⟨st,m,B,rfl,_⟩:=h
  rfl
 obtain ⟨st,m,B,rfl,⟨a,ns,k,hst,hne,hS,hk⟩,hB,hm,q⟩:=h
 refine ⟨_,
  (zi (zv (i:=2) scDraw.nd rfl (Or.inl rfl) (zq zE (jv 0) zh (fun _ _=>rfl)))
  (zi (x6 (zF yr (jv 2) zh) (jl (jv 0) zh))
  (zi (zH (zt wm (jv 2) (zG zz rfl m_len uC (ja_c (zq zE (jv 0) zh (fun _ _=>rfl)) zg)) (zw _))
   (zk (zx (zF yT (zq zE (zq zE (jv 0) zh (fun _ _=>rfl)) (jv 2) (fun _ _=>rfl)) (jv 1)))) zA)
  (zi (zv (i:=3) scDraw.nd rfl (Or.inl rfl) (zF yr (zF vW (jv 2) zh) zh))
  (zi (zH (zt jR (zG zz rfl m_len uC (ja_c (zq zE (jv 0) zh (fun _ _=>rfl)) zg)) zh (zw _))
   (zk (zv (i:=3) scDraw.nd rfl (Or.inl rfl) (zF yr (jv 3) (zF vW (zq zE (zq zE (jv 0) zh (fun _ _=>rfl)) (zF yT (zF vW (jv 2) zh) (zG zz rfl m_len uC (ja_c (zq zE (jv 0) zh (fun _ _=>rfl)) zg))) (fun _ _=>rfl)) (zF yr zh (jv 2)))))) zA)
  (zk (zx (zF yT (zF yT (jv 3) zh) (jv 1))))))))),?_⟩
 refine ⟨_,rfl,ixL hst (zj (j:=1) rfl) ?_⟩
 refine ⟨_,rfl,_,_,rfl,rfl,_,rfl,st,_,1,1,rfl,rfl,hst,rfl,?_⟩
 have kp:Kp st H (upd H st (.lst [.ref a,.int ((k + 1:Nat):Int)])):=⟨fun b u n h=>by rw [zm n]; exact h,fun x y h=>by
  rw [hst] at h
  cases h
  exact ⟨_,zf⟩⟩
 have hst1:=zf (H:=H) (a:=st) (o:=.lst [.ref a,.int ((k + 1:Nat):Int)])
 have hS1:SqL K (upd H st (.lst [.ref a,.int ((k + 1:Nat):Int)])) a (ns.map V.int):=by
  by_cases e:a=st
  ·exact hne e _
  ·exact kp.seq e hS
 have fin:∀ r:Int,0<=r->r < m->Q (.int r) (upd H st (.lst [.ref a,.int ((k + 1:Nat):Int)])):=fun r h0 h1=>q _ r kp ⟨a,ns,k + 1,hst1,hne,hS1,by lia⟩ h0 h1
 show (tSeq _ _:TS) _ _ (upd H st (.lst [.ref a,.int ((k + 1:Nat):Int)]))
 generalize upd H st (.lst [.ref a,.int ((k + 1:Nat):Int)])=H1 at *
 have ix0:atI [V.ref a,V.int ((k + 1:Nat):Int)] 0=some (.ref a):=zj (j:=0) rfl
 have mm:∀ x:Int,0<=x % m/\x % m < m:=fun x=>⟨Int.emod_nonneg x (by lia),tj x hm⟩
 refine ⟨_,rfl,_,rfl,st,_,_,_,rfl,rfl,SqL.of hst1,ix0,_,_,rfl,.inl hS1,_,_,rfl,rfl,_,rfl,?_⟩
 rw [ub]
 refine ite2 (fun c=>?_) (fun c=>?_)
 ·rw [decide_eq_true_eq] at c
  have hi:k < ns.length:=by lia
  have hx:(ns.map V.int)[k]?=some (.int ns[k]):=by rw [uj,ug hi]; rfl
  exact ⟨_,rfl,st,_,_,_,rfl,rfl,SqL.of hst1,ix0,_,rfl,a,_,_,_,rfl,rfl,hS1,zj hx,_,rfl,_,_,rfl,rfl,hm,fin _ (mm _).1 (mm _).2⟩
 ·refine ⟨_,rfl,_,_,rfl,rfl,.inr ⟨by decide,by decide⟩,_,_,rfl,rfl,?_⟩
  have tail:∀ (c:Int) (D:Ends),D.rt=Q->(tRet (tOp (rI (fun _ j=>0 < j) fun i j=>V.int (i % j)) (tOp (rI (fun _ j=>0 < j) fun i j=>V.int (i % j)) (tVar 3) (tC (.int 2147483629))) (tVar 1)):TS) D [some (.ref st),some (.int m),some (.int (k:Nat)),some (.int c)] H1:=fun c D e=>by
   refine ⟨_,rfl,_,_,rfl,rfl,(by show (0:Int) < _; decide),_,rfl,_,_,rfl,rfl,hm,?_⟩
   rw [e]
   exact fin _ (mm _).1 (mm _).2
  refine ⟨_,rfl,st,_,_,_,rfl,rfl,SqL.of hst1,ix0,_,_,rfl,.inl hS1,_,_,rfl,rfl,_,rfl,?_⟩
  rw [ub]
  refine ite2 (fun c2=>?_) (fun c2=>tail _ _ rfl)
  rw [decide_eq_true_eq] at c2
  have hl:(0:Int) < (ns.length:Nat):=by lia
  have c0:=Int.emod_nonneg ((k:Nat) * 7:Int) (show ((ns.length:Nat):Int)≠0 by lia)
  have c1:=tj ((k:Nat) * 7:Int) hl
  have hi:(((k:Nat) * 7:Int) % (ns.length:Nat)).toNat < ns.length:=by lia
  have hx:(ns.map V.int)[(((k:Nat) * 7:Int) % (ns.length:Nat)).toNat]?=some (.int ns[(((k:Nat) * 7:Int) % (ns.length:Nat)).toNat]):=by rw [uj,ug hi]; rfl
  have hx2:atI (ns.map V.int) (((k:Nat) * 7:Int) % (ns.length:Nat))=some (.int ns[(((k:Nat) * 7:Int) % (ns.length:Nat)).toNat]):=by
   have e:=zj hx
   rw [Int.toNat_of_nonneg c0] at e
   exact e
  refine ⟨_,rfl,_,rfl,st,_,_,_,rfl,rfl,SqL.of hst1,ix0,_,rfl,_,_,rfl,rfl,.inr ⟨by decide,by decide⟩,_,rfl,st,_,_,_,rfl,rfl,SqL.of hst1,ix0,_,_,rfl,.inl hS1,_,_,rfl,rfl,(by rw [ub]; exact hl),?_⟩
  refine ⟨a,_,_,_,rfl,rfl,hS1,(by rw [ub]; exact hx2),_,rfl,_,_,rfl,rfl,_,_,rfl,rfl,.inr ⟨by show -(2 ^ 64) < (48271 + (k:Nat):Int); lia,by show (48271 + (k:Nat):Int) < 2 ^ 64; unfold LIM at hB; lia⟩,_,_,rfl,rfl,tail _ _ rfl⟩
theorem scNm:FnScope ["_law_world","_law_k","_law_letters","_law_core"] ["_law_world","_law_k"] (zp sNm):=⟨rfl,rfl,rfl,by decide +kernel,rfl,by decide +kernel,by decide +kernel⟩
theorem za1 (F:Fun K "_law_name" "_law_name" sNm f fd):FnOk P w K mg base CX0 1 f fd ["_law_world","_law_k"] spNm:=by
 refine F.by scNm (fun vs H Q E h=>?_) (fun cdv A outer s H vs Q E hr h=>?_)
 ·obtain ⟨p,z,b,xs,k,rfl,_⟩:=h
  rfl
 obtain ⟨p,z,b,xs,k,rfl,hp,hz,q⟩:=h
 refine ⟨_,
  (zi (zv (i:=2) scNm.nd rfl (Or.inl rfl) zu)
  (zi (zv (i:=3) scNm.nd rfl (Or.inl rfl) (zF yi (zF yi (zq ZJ (jv 2) (zF yT (zF Yq (jv 1) zh) zh) (fun _ _=>rfl)) zu) (zq ZJ (jv 2) (zF yT (zF Yq (jv 1) zh) zh) (fun _ _=>rfl))))
  (zi (zH (ye (zq zE (jv 0) zh (fun _ _=>rfl)))
   (zk (zx (zF yi (zF yi (jv 3) (zq zE (jv 0) zh (fun _ _=>rfl))) (zF wM zu (zF yT (jv 1) zh))))) zA)
  (zk (zx (zF yi (zF yi (zF wM zu (zF yT (jv 1) zh)) (zq zE (jv 0) zh (fun _ _=>rfl))) (jv 3))))))),?_⟩
 have sl:=zQ
 have e1:((k:Nat):Int) / 2 % 26=((k / 2 % 26:Nat):Int):=by lia
 have e2:((k:Nat):Int) / 52 % 26=((k / 52 % 26:Nat):Int):=by lia
 have e3:((k:Nat):Int) % 2=((k % 2:Nat):Int):=by lia
 have cl3:=j7 k
 have yl:=WX k
 have ec:(⟨#[97 + (((k:Nat):Int) / 2 % 26).toNat]⟩:Str) ++ ("z":Str) ++ (⟨#[97 + (((k:Nat):Int) / 52 % 26).toNat]⟩:Str)=core k:=by
  rw [e1,e2]
  rfl
 suffices rest:∀ c3:Str,c3=core k->(tSeq _ _:TS) { nx:=fun _ H'=>Q .non H',rt:=Q } [some (.ref p),some (.int (k:Nat)),some (.str LET),some (.str c3)] H by
  exact ⟨_,rfl,_,rfl,_,_,rfl,rfl,⟨by decide,by decide⟩,_,_,rfl,rfl,(by show (0:Int) < _; decide),LET,_,_,rfl,rfl,by rw [jo]; decide,jm (by lia) (by lia),_,_,rfl,rfl,by show 1 + 1<=sizeLine; decide,_,rfl,_,rfl,_,_,rfl,rfl,⟨by decide,by decide⟩,_,_,rfl,rfl,(by show (0:Int) < _; decide),LET,_,_,rfl,rfl,by rw [jo]; decide,jm (by lia) (by lia),_,_,rfl,rfl,by show 2 + 1<=sizeLine; decide,rest _ ec⟩
 rintro _ rfl
 have mo:MulOk "y" (((k % 2:Nat):Int)):=Q9 rfl (by lia) (by lia)
 refine ⟨_,rfl,ixL hp (zj (j:=1) rfl) ⟨_,rfl,?_⟩⟩
 unfold nm at q
 cases b with
 | true =>
  rw [if_pos rfl] at q
  refine iteT ?_
  refine ⟨_,rfl,_,rfl,ixL hp (zj (j:=0) rfl) ⟨_,_,rfl,rfl,by lia,_,rfl,_,_,rfl,rfl,(by show (0:Int) < _; decide),_,_,rfl,rfl,by rw [e3]; exact mo,?_⟩⟩
  rw [e3]
  exact ⟨_,_,rfl,rfl,by rw [xz]; show (core k).length + z.length + (ys k).length<=_; lia,q⟩
 | false =>
  rw [if_neg (by decide)] at q
  refine iteF ?_
  refine ⟨_,rfl,_,_,rfl,rfl,(by show (0:Int) < _; decide),_,_,rfl,rfl,by rw [e3]; exact mo,?_⟩
  rw [e3]
  refine ⟨_,rfl,ixL hp (zj (j:=0) rfl) ⟨_,_,rfl,rfl,by show (ys k).length + z.length<=_; lia,_,rfl,_,_,rfl,rfl,by show (Txt.mul "y" (((k % 2:Nat):Int)) ++ z).length + (core k).length<=_; rw [xz]; show (ys k).length + z.length + (core k).length<=_; lia,q⟩⟩
end
end GN
namespace L2
open PySem PySem.Spec PyProof.Rows
def BMn (mg:Str->Option Value) (h:Heap):Prop:=∃ bm ob,mg "__builtins__"=some (.ref bm)/\bm≠builtinsNs/\h.get? bm=some ob/\ob.cls=.type "module"/\ob.dict=some builtinsNs/\ob.data=.plain
theorem BMn.at {mg:Str->Option Value} {h:Heap} {P:Addr} {ps:Array Value} (B:BMn mg h) (g:h.Ns mainGlobals mg) (hP:h.get? P=some { cls:=.none,data:=.fields ps }):h.BuiltinsAt mg P/\mainGlobals≠P:=by
 obtain ⟨bm,ob,b1,b2,b3,b4,b5,b6⟩:=B
 refine ⟨⟨bm,ob,b1,b2,fun q=>?_,fun q=>?_,b3,b4,b5,b6⟩,fun q=>?_⟩
 ·obtain ⟨o,es,ep,e,hd,_⟩:=g
  rw [q,e] at b3; cases b3; rw [hd] at b6; cases b6
 ·rw [q,hP] at b3; cases b3; cases b4
 ·obtain ⟨o,es,ep,e,hd,_⟩:=g
  rw [q,hP] at e; cases e; cases hd
theorem BMn.keeps {mg:Str->Option Value} {h h':Heap} (B:BMn mg h) (k:∀ b o,h.get? b=some o->h'.get? b=some o):BMn mg h' :=
 let ⟨bm,ob,b1,b2,b3,r⟩:=B; ⟨bm,ob,b1,b2,k _ _ b3,r⟩
theorem Xz {P:Program} {w:World} {K:ua} {mg mb:Str->Option Value} {CX:CXT} {k:Nat} {fa a T:Addr} {fd:FuncData} {x:Str} {sp:Sp} {s₁:Shared} {vs:List Value} {ns:List Int}
  (KX:K.In s₁.heap) (hT:s₁.heap.get? T=some { cls:=.none,data:=.fields #[] }) (hTK:K.lookup T=none) (hTc:isCodeTable s₁.heap T) (hns:s₁.heap.Ns mainGlobals mg) (hb:s₁.heap.Ns builtinsNs mb) (hbb:∀ x:Str,x≠"__name__"->mb x=bootBuiltins x) (hlim:s₁.heap.NoLimit) (hBM:BMn mg s₁.heap) (hg:s₁.gens=#[])
  (ha:s₁.heap.get? a=some { cls:=.type "list",data:=.seq vs.toArray }) (hi:IntsAre vs ns) (hl:ns.length<=sizeLine) (hr:Room k callerA)
  (F:∀ base:Heap,K.In base->base.Ns mainGlobals mg->BMn mg base->FnOk P w K mg base CX k fa fd [x] sp) (hbind:∀ (s:Shared) (u:Value),BindsTo s fd ⟨[u],[]⟩ [(x,u)])
  (hsp:∀ H:Hp,H T=some (.tbl #[])->SqL K H a (ns.map V.int)->sp [.ref a] H (fun v _=>v=.bl true) fun _ _ _=>False)
  (hCX:∀ H e s',CX [] H s₁ (fun _ _ _=>False) e s'->False) :
  codeAny (model P w) callerA (.call (.ref fa) ⟨[.ref a],[]⟩) (fun r s'=>r=.ok (.ret (.bool true))/\OldK s₁.heap s'.heap/\s'.os=s₁.os/\AllBare s'.gens) s₁:=by
 have rv:=vq hi
 have lenV:=hi.length
 have nTa:a≠T:=fun e=>by rw [e,hT] at ha; cases ha
 have core:∀ H:Hp,(∀ b,H b=none\/(∃ o xs,H b=some (.frz o (.lst xs)))\/(b=T/\H b=some (.tbl #[])))->H T=some (.tbl #[])->SqL K H a (ns.map V.int)->HOk P w H s₁.heap->(∀ b,H b≠none->b=a\/b=T)->(H a≠none->K.lookup a=none) ->
   codeAny (model P w) callerA (.call (.ref fa) ⟨[.ref a],[]⟩) (fun r s'=>r=.ok (.ret (.bool true))/\OldK s₁.heap s'.heap/\s'.os=s₁.os/\AllBare s'.gens) s₁:=by
  intro H hO hHT hS hok hA hK
  have base_of:∀ {b:Addr} {o:Obj},s₁.heap.get? b=some o->H b=none->(hidT s₁.heap H).get? b=some o:=fun e n=>XW e n
  have noA:∀ {b:Addr} {o:Obj} {es:Array DictEntry} {ep:Nat},s₁.heap.get? b=some o->o.data=.dict es ep->H b=none:=fun {b o es ep} e d=>by
   cases q:H b with
   | none=>rfl
   | some u =>
    rcases hA b (by rw [q]; simp) with e' | e'
    ·subst e'
     rw [ha] at e; cases e
     have d':Data.seq vs.toArray _=Data.dict es ep:=d
     cases d'
    ·subst e'
     rw [hT] at e; cases e
     have d':Data.fields #[]=Data.dict es ep:=d
     cases d'
  have nsK:∀ {b:Addr} {m:Str->Option Value},s₁.heap.Ns b m->(hidT s₁.heap H).Ns b m:=fun {b m} ⟨o,es,ep,e,d,r⟩=>⟨o,es,ep,base_of e (noA e d),d,r⟩
  have hBb:BMn mg (hidT s₁.heap H):=by
   obtain ⟨bm,ob,b1,b2,b3,b4,b5,b6⟩:=hBM
   refine ⟨bm,ob,b1,b2,base_of b3 ?_,b4,b5,b6⟩
   cases q:H bm with
   | none=>rfl
   | some u =>
    rcases hA bm (by rw [q]; simp) with e' | e'
    ·subst e'
     rw [ha] at b3; cases b3; cases b6
    ·subst e'
     rw [hT] at b3; cases b3; cases b6
  have hKb:K.In (hidT s₁.heap H):=fun b o e=>base_of (KX b o e) (by
   cases q:H b with
   | none=>rfl
   | some u =>
    rcases hA b (by rw [q]; simp) with e' | e'
    ·subst e'
     rw [hK (by rw [q]; simp)] at e; cases e
    ·subst e'
     rw [hTK] at e; cases e)
  have hM:Mod K mg (hidT s₁.heap H):=⟨hKb,nsK hns,⟨mb,nsK hb,hbb⟩,let ⟨mc,h1,h2⟩:=hlim; ⟨mc,nsK h1,h2⟩⟩
  have e0:Env0 P w K mg (hidT s₁.heap H) callerA [] s₁ H:=⟨rfl,hM,fun b o e=>V3 e,Nat.le_of_eq (Xf _ _),trivial,fun b hb=>absurd (show b∈([]:List Addr) from hb) (by simp),hok,.of_eq hg⟩
  refine codeAny_mono ((F _ hKb (nsK hns) hBb).run callerA [] s₁ H ⟨[.ref a],[]⟩ [.ref a] [.ref a] _ _ hr e0 (hbind s₁ (.ref a)) (.cons rfl .nil) (hsp H hHT hS)) fun r s' h=>?_
  cases r with
  | error e=>exact (hCX H e s' h).elim
  | ok fl =>
   cases fl with
   | next=>exact False.elim h
   | brk=>exact False.elim h
   | cont=>exact False.elim h
   | ret u =>
    obtain ⟨v,H',os,bare,un,hok',r',q⟩:=h
    have q':v=.bl true:=q
    subst q'
    obtain rfl:u=Value.bool true:=r'
    refine ⟨rfl,⟨fun b o e=>?_,fun b o e=>un.there b o e (by simp)⟩,os,bare⟩
    cases q:H b with
    | none=>exact .inl (un.keep b o e q (by intro z; exact absurd (show b∈([]:List Addr) from z) (by simp)) (by simp))
    | some u =>
     rcases hO b with z | ⟨ob,xs,z⟩ | ⟨rfl,z⟩
     ·rw [q] at z; cases z
     ·have z2:=un.frzs b ob _ z
      obtain ⟨e1,_⟩:=hok b _ z
      obtain ⟨e2,_⟩:=hok' b _ z2
      rw [e] at e1; cases e1
      exact .inl e2
     ·obtain ⟨more,z2⟩:=un.tbls b _ z
      have e2:s'.heap.get? b=some { cls:=.none,data:=.fields (#[] ++ more) }:=hok' b _ z2
      rw [hT] at e; cases e
      exact .inr (.inl ⟨hTc,rfl,#[],more,rfl,e2⟩)
 cases hk:K.lookup a with
 | some o =>
  have e:=KX a o hk
  rw [ha] at e
  cases e
  refine core (fun b=>if b=T then some (.tbl #[]) else none) (fun b=>?_) (if_pos rfl) (.inr ⟨_,vs.toArray,_,hk,rfl,rfl,rfl,by rw [uz,lenV]; exact hl,by simpa using rv⟩) (fun b u z=>?_) (fun b z=>?_) fun z=>absurd (if_neg nTa) z
  ·by_cases hb:b=T
   ·exact .inr (.inr ⟨hb,if_pos hb⟩)
   ·exact .inl (if_neg hb)
  ·by_cases hb:b=T
   ·have z':=(if_pos hb).symm.trans z
    cases z'
    subst hb
    exact hT
   ·have z':=(if_neg hb).symm.trans z
    cases z'
  ·by_cases hb:b=T
   ·exact .inr hb
   ·exact absurd (if_neg hb) z
 | none =>
  refine core (fun b=>if b=T then some (.tbl #[]) else if b=a then some (.frz { cls:=.type "list",data:=.seq vs.toArray } (.lst (ns.map V.int))) else none) (fun b=>?_) (if_pos rfl) (.inl (.inr ⟨{ cls:=.type "list",data:=.seq vs.toArray },(if_neg nTa).trans (if_pos rfl)⟩)) (fun b u z=>?_) (fun b z=>?_) fun _=>hk
  ·by_cases hb:b=T
   ·exact .inr (.inr ⟨hb,if_pos hb⟩)
   ·by_cases hb2:b=a
    ·exact .inr (.inl ⟨_,_,(if_neg hb).trans (if_pos hb2)⟩)
    ·exact .inl ((if_neg hb).trans (if_neg hb2))
  ·by_cases hb:b=T
   ·have z':=(if_pos hb).symm.trans z
    cases z'
    subst hb
    exact hT
   ·by_cases hb2:b=a
    ·have z':some (HO.frz { cls:=.type "list",data:=.seq vs.toArray } (.lst (ns.map V.int)))=some u:=((if_neg hb).trans (if_pos hb2)).symm.trans z
     cases z'
     subst hb2
     exact ⟨ha,by rw [ub]; exact hl,vs,_,rv,ha⟩
    ·have z':none=some u:=((if_neg hb).trans (if_neg hb2)).symm.trans z
     cases z'
  ·by_cases hb:b=T
   ·exact .inr hb
   ·by_cases hb2:b=a
    ·exact .inl hb2
    ·exact absurd ((if_neg hb).trans (if_neg hb2)) z
def spTopT (K:ua) (T:Addr):Sp:=fun vs H Q _=>∃ (a:Addr) (ns:List Int),vs=[.ref a]/\SqL K H a (ns.map V.int)/\ns.length<=63/\H T=some (.tbl #[])/\∀ H',Q (.bl true) H'
theorem JQ {l:PySem.W.OpenLaw} {w:World} {K:ua} {h:Heap} {mg:Str->Option Value} {fa T:Addr} {st:Stmt} {k:Nat} (d:DfIn K "law" st) (X:K.In h) (G:h.Ns mainGlobals mg) (hfa:mg "law"=some (.ref fa))
  (hb:∀ (kV doc pm:Value) (an:Option Addr) (cdv ct:Value) (s:Shared) (u:Value),BindsTo s (u9 "law" "law" (zW st) (zN st) (zp st) .none kV doc pm an cdv ct) ⟨[u],[]⟩ [("_law_script",u)])
  (ok:∀ (base:Heap) (fd:FuncData),BMn mg base->Fun K "law" "law" st fa fd->FnOk l.prog w K mg base CX0 k fa fd ["_law_script"] (spTopT K T)) :
  ∃ fd:FuncData,(∀ (s:Shared) (u:Value),BindsTo s fd ⟨[u],[]⟩ [("_law_script",u)])/\∀ base:Heap,K.In base->base.Ns mainGlobals mg->BMn mg base->FnOk l.prog w K mg base CX0 k fa fd ["_law_script"] (spTopT K T):=by
 obtain ⟨fl,al,oc,od,kV,doc,pm,an,cdv,ct,osl,lk,cc,kk⟩:=d
 have e:fl=fa:=by
  have:=UM X G al
  rw [hfa] at this
  injection this with this
  injection this with this
  exact this.symm
 subst e
 exact ⟨_,fun s v=>hb _ _ _ _ _ _ s v,fun base _ _ B=>ok base _ B (Wk (st:=st) lk cc kk)⟩
theorem walkT {l:PySem.W.OpenLaw} {q:Program} {loose:List Str} {XP:(Str->Option Value)->Heap->Prop} {d:DefRec} {K:Params->ua} {as:List Addr} {e:∀ p,as=(K p).map (·.1)} {T c:Addr} {k:Nat} (hn:l.most=some 63) (hr:Room k callerA) (hdf:d.params.defaults=[]) (hnm:d.name="law")
  (hc:∀ p,U4 (K p) c T=true) (hTK:∀ p,(K p).lookup T=none)
  (F:∀ (w:World) (mg:Str->Option Value) (fa:Addr) (h:Heap),(K w.params).In h->h.Ns mainGlobals mg->mg "law"=some (.ref fa)->∃ fd:FuncData,(∀ (s:Shared) (u:Value),BindsTo s fd ⟨[u],[]⟩ [("_law_script",u)])/\∀ base:Heap,(K w.params).In base->base.Ns mainGlobals mg->BMn mg base->FnOk l.prog w (K w.params) mg base CX0 k fa fd ["_law_script"] (spTopT (K w.params) T)) :
  PySem.W.WalkO q loose XP (PySem.W.kmHook K as e [T]).says l.row.toRowW d [] (fun f vs=>PySem.call f vs):=by
 refine Att.attach_call hn hdf fun w s₀ s₁ mg mb fa o pm cd doc a vs ns G Y ho hd hcd hmg hobj hints hlen hg=>?_
 have KX:=PySem.W.km_in_of Y
 have hT:=PySem.W.km_tabs_of Y T (by simp)
 obtain ⟨fd,hb,hF⟩:=F w mg fa _ KX G.T.g (by rw [hnm] at hmg; exact hmg)
 obtain ⟨o1,vs1,_,_,_,_,_,_,_,c1,c2,c3,c4,_⟩:=PySem.W.codeHd_of_K KX (hc w.params)
 exact Xz KX hT (hTK w.params) ⟨c,o1,vs1,c1,c2,c3,c4⟩ G.T.g G.T.b G.T.builtins G.T.nolimit G.T.bmain hg hobj hints (uX hlen (by decide)) hr hF hb (fun H hO hS=>⟨a,ns,rfl,hS,hlen,hO,fun _=>rfl⟩) fun _ _ _ z=>z
end L2
namespace L2
open PySem PySem.Spec PyProof.Rows
def FunO (f:Addr) (fd:FuncData):HO:=.ext fun h=>h.get? f=some { cls:=.type "function",data:=.func fd }
def CodO (c:Addr) (qual:Str):HO:=.ext fun h=>h.CodeRec (.ref c) qual
theorem WZ {P:Program} {w:World} {H:Hp} {h:Heap} {f:Addr} {fd:FuncData} (e:h.get? f=some { cls:=.type "function",data:=.func fd }):ObjOk P w H h f (FunO f fd) :=
 ⟨e,⟨_,e⟩,fun _ _ p k=>k _ p⟩
theorem zac {P:Program} {w:World} {H:Hp} {h:Heap} {c:Addr} {qual:Str} (e:h.CodeRec (.ref c) qual):ObjOk P w H h c (CodO c qual) :=
 ⟨e,(let ⟨_,oc,_,_,q,e,_⟩:=e; by cases q; exact ⟨oc,e⟩),fun _ _ ⟨d,oc,vs,t,q,e,r⟩ k=>by cases q; exact ⟨c,oc,vs,t,rfl,k _ e,r⟩⟩
abbrev lamF (mg:Str->Option Value) (qual:Str) (params:Arguments) (body:Expr) (scope:Scope) (c:Addr) (ctv:Value):FuncData:=PySem.W.kla_fn "<lambda>" qual params body scope [] ((mg "__name__").getD .none) (.ref c) ctv
def tLam (mg:Str->Option Value) (T:Addr) (qual:Str) (params:Arguments) (body:Expr) (scope:Scope) (pos:Pos):TE:=fun _ H Q=>∃ ps,H T=some (.tbl ps)/\TriplesOk ps.toList /\
 ((codeAmong pos ps.toList=none/\∀ (c f:Addr) (ctv:Value),H c=none->H f=none->f≠c->Q (.ref f) (upd (upd (upd H T (.tbl (ps ++ #[rawInt pos.line,rawInt pos.col,.ref c]))) c (CodO c qual)) f (FunO f (lamF mg qual params body scope c ctv)))) \/
   (∃ c,codeAmong pos ps.toList=some (.ref c)/\∀ (f:Addr) (ctv:Value),H f=none->Q (.ref f) (upd H f (FunO f (lamF mg qual params body scope c ctv)))))
theorem zad {X:Cx} {c T:Addr} {params:Arguments} {body:Expr} {scope:Scope} {pos:Pos} {qual:Str} (hB:BMn X.mg X.base) (hcode:X.env.code=.ref c) (hc:U4 X.K c T=true) (hq:X.env.qual ++ "<lambda>"=qual)
  (hdef:defaultsOf params X.env=([],[])) (hcl:closureFor scope X.env=pure []):PE X (.Lambda params body scope pos) (tLam X.mg T qual params body scope pos):=by
 intro pins s σ H Q I h
 refine PySem.W.kla_eval hdef ?_
 rw [hq]
 obtain ⟨ps,hT,tr,h⟩:=h
 have gT:s.heap.get? T=some { cls:=.none,data:=.fields ps }:=I.hok T _ hT
 have hg:=I.mod.glob.keeps I.bk
 obtain ⟨bAt,hgP⟩:=(hB.keeps I.bk).at hg gT
 rcases h with ⟨nf,h⟩ | ⟨c',hit,h⟩
 ·refine PySem.W.kla_makeFunction (mg:=X.mg) hcl I.ok.glob hg hcode (PySem.W.codeHd_of_K I.kIn hc) gT tr nf hgP bAt fun c' ctv h' tk ext ge lt rec tab=>?_
  have hc0:H c'=none:=I.hok.fresh ge
  have hf0:H h'.objs.size=none:=I.hok.fresh (uX ge (Nat.le_of_lt lt))
  have nfc:h'.objs.size≠c':=UI lt
  have ncT:T≠c':=zo hT hc0
  have nfT:T≠h'.objs.size:=zo hT hf0
  have elsewhere:∀ b,b≠T->b≠c'->b≠h'.objs.size->upd (upd (upd H T (.tbl (ps ++ #[rawInt pos.line,rawInt pos.col,.ref c']))) c' (CodO c' qual)) h'.objs.size (FunO h'.objs.size (lamF X.mg qual params body scope c' ctv)) b=H b:=fun b h1 h2 h3=>by rw [zm h3,zm h2,zm h1]
  have hU:∀ b u,H b=some u->b≠T->upd (upd (upd H T (.tbl (ps ++ #[rawInt pos.line,rawInt pos.col,.ref c']))) c' (CodO c' qual)) h'.objs.size (FunO h'.objs.size (lamF X.mg qual params body scope c' ctv)) b=some u:=fun b u e n=>by
   rw [elsewhere b n (zo e hc0) (zo e hf0)]; exact e
  have hTb:upd (upd (upd H T (.tbl (ps ++ #[rawInt pos.line,rawInt pos.col,.ref c']))) c' (CodO c' qual)) h'.objs.size (FunO h'.objs.size (lamF X.mg qual params body scope c' ctv)) T=some (.tbl (ps ++ #[rawInt pos.line,rawInt pos.col,.ref c'])):=by
   rw [zm nfT,zm ncT]; exact zf
  have keep:∀ b o,b≠T->s.heap.get? b=some o->(h'.push (PySem.W.kla_obj "<lambda>" qual params body scope [] ((X.mg "__name__").getD .none) c' ctv)).get? b=some o:=fun b o n e=>uc _ (ext b o n e)
  have neT:∀ b,H b=none->b≠T:=fun b e n=>by rw [n,hT] at e; cases e
  refine ⟨.ref h'.objs.size,_,I.un (t':=tk) (H':=upd (upd (upd H T (.tbl (ps ++ #[rawInt pos.line,rawInt pos.col,.ref c']))) c' (CodO c' qual)) h'.objs.size (FunO h'.objs.size (lamF X.mg qual params body scope c' ctv))) ⟨fun b o e n _ _=>keep b o (neT b n) e,fun b o e n _ _=>⟨o.slots,keep b o (neT b n) e⟩,fun b o e n _=>?_,fun b o e _=>?_,fun b xs e=>hU b _ e (fun z=>by rw [z,hT] at e; cases e),fun b o xs e=>hU b _ e (fun z=>by rw [z,hT] at e; cases e),fun b qs e=>?_⟩ ?_,rfl,h c' _ ctv hc0 hf0 nfc⟩
  ·have l:=um e
   rw [elsewhere b (neT b n) (uQ (ux l ge)) (uQ (Nat.lt_trans (ux l ge) lt))]
   exact n
  ·by_cases z:b=T
   ·rw [z]; exact ⟨_,uc _ tab⟩
   ·exact ⟨o,keep b o z e⟩
  ·by_cases z:b=T
   ·subst z
    rw [hT] at e; cases e
    exact ⟨_,hTb⟩
   ·exact ⟨#[],by rw [hU b _ e z]; simp⟩
  ·intro b u e
   by_cases z1:b=h'.objs.size
   ·subst z1
    rw [zf] at e; cases e
    exact WZ (uw _ rfl)
   rw [zm z1] at e
   by_cases z2:b=c'
   ·subst z2
    rw [zf] at e; cases e
    obtain ⟨d,oc,vs,t,q,e,r⟩:=rec
    exact zac ⟨d,oc,vs,t,q,uc _ e,r⟩
   rw [zm z2] at e
   by_cases z3:b=T
   ·subst z3
    rw [zf] at e; cases e
    exact uc _ tab
   rw [zm z3] at e
   refine (I.hok b u e).stay (fun d v hd q=>keep d v ?_ q) (fun d q=>hU d _ q fun z=>by rw [z,hT] at q; cases q) fun d xs q=>hU d _ q fun z=>by rw [z,hT] at q; cases q
   rcases hd with rfl | hd
   ·exact z3
   ·intro z
    rw [z,hT] at hd; cases hd
 ·refine PySem.W.kla_makeFunctionHit (mg:=X.mg) hcl I.ok.glob hg hcode (PySem.W.codeHd_of_K I.kIn hc) gT tr hit bAt fun ctv h' tk kp sz=>?_
  have hf0:H h'.objs.size=none:=I.hok.fresh sz
  exact ⟨.ref h'.objs.size,_,I.laid (t':=tk) (o:=FunO h'.objs.size (lamF X.mg qual params body scope c' ctv)) (fun b u e=>uc _ (kp b u e)) sz (WZ (uw _ rfl)),rfl,h _ ctv hf0⟩
theorem zae {X:Cx} {c T:Addr} {params:Arguments} {body:Expr} {scope:Scope} {pos:Pos} {qual:Str} (hB:BMn X.mg X.base) (hcode:X.env.code=.ref c) (hc:U4 X.K c T=true) (hq:X.env.qual ++ "<lambda>"=qual)
  (hdef:defaultsOf params X.env=([],[]):=by rfl) (hcl:closureFor scope X.env=pure []:=by rfl):jE X (.Lambda params body scope pos) (tLam X.mg T qual params body scope pos):=⟨zad hB hcode hc hq hdef hcl⟩
theorem zaf {CX:CXT} {P:Program} {w:World} {K:ua} {mg:Str->Option Value} {base:Heap} {k:Nat} {f c:Addr} {name qual:Str} {params:Arguments} {body:Expr} {scope:Scope} {pm ct:Value}
  {N ps:List Str} {sp:Sp} (here:∀ vs H Q E,sp vs H Q E->H f=some (FunO f (PySem.W.kla_fn name qual params body scope [] pm (.ref c) ct))/\H c=some (CodO c qual)) (S:FnScope N ps scope)
  (len:∀ vs H Q E,sp vs H Q E->vs.length=ps.length)
  (hbody:∀ (A:Around) (outer:List Env) (s:Shared) (H:Hp) (vs:List V) (Q:VK) (E:XK),Room k (A.deeper (envOfC qual scope s.heap.objs.size f (.ref c)))->sp vs H Q E ->
   ∃ t,PE (cxOf CX P w K mg base N qual scope f (.ref c) A outer s H E) body t/\t (start N vs) H Q) :
  FnOk P w K mg base CX (k + 1) f (PySem.W.kla_fn name qual params body scope [] pm (.ref c) ct) ps sp:=by
 refine ⟨len,fun A outer s H args us vs Q E hr e0 hb r hsp=>?_⟩
 have hl:=len _ _ _ _ hsp
 have lim:s.heap.NoLimit:=e0.mod.nolimit.keeps fun b o e=>(e0.bs b o e).1
 have hkind:∀ y∈ps.zip us,scope.names.lookup y.1=some .local\/(scope.names.lookup y.1=some .cell/\((cellsFrom (s.heap.objs.size + 1) scope.names []).lookup y.1).isSome=true):=fun ⟨n,v⟩ hy=>by
  rcases S.par n (List.of_mem_zip hy).1 with q | q
  ·exact .inl q
  ·exact .inr ⟨q,PySem.W.cellsFrom_some _ _ _ (.inl q)⟩
 obtain ⟨hf,hc⟩:=here _ _ _ _ hsp
 have of:=(e0.hok f _ hf).1
 have oc:=(e0.hok c _ hc).1
 refine PySem.W.kla_callFunE hr.depth of rfl S.co S.gen rfl oc (hb _ _ _ _ ?_)
 refine wpAny_newFunctionEnv_cells S.kind hkind fun env he s1 x=>?_
 subst he
 refine ⟨lim.keeps x.toInCall.keep,PySem.W.kla_codeExpr ?_⟩
 obtain ⟨t,ht,hq⟩:=hbody A outer s H vs Q E (hr.deeper _) hsp
 have I:Inv (cxOf CX P w K mg base N qual scope f (.ref c) A outer s H E) [] (start N vs) H s1:=vp S hr.hd e0 hl r x
 refine wpAny_mono (ht [] s1 (start N vs) H _ I hq) (fun u s' hs=>?_) fun e s' hs=>hs
 obtain ⟨v,H',J,rv,q⟩:=hs
 exact ⟨v,H',J.os,J.bare,J.base,J.hok,rv,q⟩
def W1 (fo:Addr->Value->FuncData) (sp:Addr->Addr->Value->Sp) (E:XK) (i:Nat) (t:TA):TE:=fun σ H Q=>∃ f,σ[i]?=some (some (.ref f))/\∃ c ct,H f=some (FunO f (fo c ct))/\t σ H fun vs H1=>H1 f=some (FunO f (fo c ct))/\sp f c ct vs H1 Q E
theorem W2 {X:Cx} {CX:CXT} {k:Nat} {fo:Addr->Value->FuncData} {ps:List Str} {sp:Addr->Addr->Value->Sp} {E:XK} {i:Nat} {x:Str} {p pos:Pos} {e:Expr} {es:List Expr} {t:TA}
  (F:∀ f c ct,FnOk X.prog X.w X.K X.mg X.base CX k f (fo c ct) ps (sp f c ct)) (hr:Room k X.A) (hn:PE X (.Name x p) (tVar i)) (hb:∀ c ct,Binds X.K (fo c ct) ps []) (hx:yo CX X E) (ha:PA X (e :: es) t)
  (he:starEach (e :: es) X.env=(false,eval e X.env) :: starEach es X.env) (hpl:(backTo pos (starEach es X.env)).any (·.1)=false) :
  PE X (.Call (.Name x p) (e :: es) [] pos) (W1 fo sp E i t):=by
 intro pins s σ H Q I h
 obtain ⟨f,hf,c,ct,hF,h⟩:=h
 refine wpAny_Call_Name_kw (thn (hn pins s σ H (fun v H1=>v=.ref f/\H1=H) I ⟨_,hf,rfl,rfl⟩) fun u s0 ⟨v,H0,I0,r0,e1,e2⟩=>?_)
 subst e1; subst e2
 cases r0
 refine PySem.W.callWith_F ⟨_,_,_,_,(I0.hok f _ hF).1⟩ (thn (ha pos pins s0 σ H0 _ I0 h) fun us s1 ⟨vs,H1,I1,r,hF1,q⟩=>⟨⟨_,_,_,_,(I1.hok f _ hF1).1⟩,?_⟩) he hpl
 exact vP (F f c ct) hr (hb c ct) .nil hx I1 r (by rw [uO]; exact q)
theorem W3 {X:Cx} {CX:CXT} {k:Nat} {fo:Addr->Value->FuncData} {ps:List Str} {sp:Addr->Addr->Value->Sp} {E:XK} {i:Nat} {x:Str} {p pos:Pos} {e:Expr} {es:List Expr} {t:TA}
  (F:∀ f c ct,FnOk X.prog X.w X.K X.mg X.base CX k f (fo c ct) ps (sp f c ct)) (hr:Room k X.A) (hn:jE X (.Name x p) (tVar i)) (hb:∀ c ct,Binds X.K (fo c ct) ps []) (hx:yo CX X E) (ha:jA X (e :: es) t) (h1:zJ e=false:=by rfl) (h2:es.all (fun e=>!zJ e)=true:=by rfl) :
  jE X (.Call (.Name x p) (e :: es) [] pos) (W1 fo sp E i t):=⟨W2 F hr hn.out hb hx ha.out (zK h1) (yw h2)⟩
structure CaD (P:Program) (w:World) (K:ua) (mg:Str->Option Value) (base:Heap) (CX:CXT) (k:Nat) (x:Str) (ps:List Str) (dvs:List V) (sp:Sp):Prop where
 ex:∃ f fd,FnOk P w K mg base CX k f fd ps sp/\Binds K fd ps []/\(∃ ds,Binds K fd ps ds/\Vals dvs ds)/\uU K (.ref f)=true/\mg x=some (.ref f)
section
variable {X:Cx} {CX:CXT} {k:Nat} {x:Str} {ps:List Str} {sp:Sp} {dvs:List V} {E:XK} {p pos:Pos} {e:Expr} {es:List Expr} {t:TA}
theorem zag (F:CaD X.prog X.w X.K X.mg X.base CX k x ps dvs sp) (hr:Room k X.A) (hg:Gl X x) (hx:yo CX X E) (ha:jA X (e :: es) t) (hdb:(x == ("__debug__":Str))=false:=by decide) (h1:zJ e=false:=by rfl) (h2:es.all (fun e=>!zJ e)=true:=by rfl) :
  jE X (.Call (.Name x p) (e :: es) [] pos) (jL sp dvs E t):=let ⟨_,_,G,_,⟨_,b,r⟩,kp,mg⟩:=F.ex; qV G hr hg mg kp b r hx ha hdb h1 h2
end
def DdIn (K:ua) (x:Str) (st:Stmt) (c D:Addr):Prop:=∃ f,uY K mainGlobals x=some (some (.ref f))/\∃ (oc:Value) (od:Option Addr) (kV doc pm:Value) (an:Option Addr) (ct:Value) (osl:Array (Option Value)),K.lookup f=some ⟨oc,od,.func (u9 x x (zW st) (zN st) (zp st) (.ref D) kV doc pm an (.ref c) ct),osl⟩/\UE K (.ref c) x=true/\uU K (.ref f)=true
theorem DdIn.mk {K:ua} {x:Str} {st:Stmt} {f c D:Addr} {oc:Value} {od:Option Addr} {kV doc pm:Value} {an:Option Addr} {ct:Value} {osl:Array (Option Value)} (a:uY K mainGlobals x=some (some (.ref f))) (l:K.lookup f=some ⟨oc,od,.func (u9 x x (zW st) (zN st) (zp st) (.ref D) kV doc pm an (.ref c) ct),osl⟩) (cc:UE K (.ref c) x=true) (k:uU K (.ref f)=true):DdIn K x st c D:=⟨f,a,oc,od,kV,doc,pm,an,ct,osl,l,cc,k⟩
structure FunD (K:ua) (x:Str) (st:Stmt) (c D f:Addr) (fd:FuncData):Prop where
 ex:∃ (oc:Value) (od:Option Addr) (kV doc pm:Value) (an:Option Addr) (ct:Value) (osl:Array (Option Value)),fd=u9 x x (zW st) (zN st) (zp st) (.ref D) kV doc pm an (.ref c) ct/\K.lookup f=some ⟨oc,od,.func fd,osl⟩/\UE K (.ref c) x=true
theorem FunD.by {P:Program} {w:World} {K:ua} {mg:Str->Option Value} {base:Heap} {x:Str} {st:Stmt} {f c D:Addr} {fd:FuncData} {N ps:List Str} {k:Nat} {sp:Sp} (F:FunD K x st c D f fd) (S:FnScope N ps (zp st)) (len:∀ vs H Q E,sp vs H Q E->vs.length=ps.length)
  (hbody:∀ (A:Around) (outer:List Env) (s:Shared) (H:Hp) (vs:List V) (Q:VK) (E:XK),Room k (A.deeper (envOfC x (zp st) s.heap.objs.size f (.ref c)))->sp vs H Q E ->
   ∃ t,jSs (cxOf CX0 P w K mg base N x (zp st) f (.ref c) A outer s H E).nox (zN st) t/\t { nx:=fun _ H'=>Q .non H',rt:=Q } (start N vs) H):FnOk P w K mg base CX0 (k + 1) f fd ps sp:=by
 obtain ⟨oc,od,kV,doc,pm,an,ct,osl,rfl,lk,hcd⟩:=F.ex
 refine Wc lk hcd S len fun A outer s H vs Q E hr hsp=>?_
 obtain ⟨t,h,q⟩:=hbody A outer s H vs Q E hr hsp
 exact ⟨t,h.out.nox,q⟩
def DtIn (K:ua) (D:Addr) (i:Int):Prop:=∃ (d:Option Addr) (t:Tok) (n:Nat) (sl:Array (Option Value)),K.lookup D=some ⟨.type "tuple",d,.seq #[.int i t] n,sl⟩
theorem DtIn.mk {K:ua} {D:Addr} {i:Int} {d:Option Addr} {t:Tok} {n:Nat} {sl:Array (Option Value)} (a:K.lookup D=some ⟨.type "tuple",d,.seq #[.int i t] n,sl⟩):DtIn K D i:=⟨d,t,n,sl,a⟩
theorem DdIn.ca {P:Program} {w:World} {K:ua} {mg:Str->Option Value} {base h:Heap} {k:Nat} {x:Str} {st:Stmt} {c D:Addr} {ps:List Str} {dvs:List V} {sp:Sp} (X:K.In h) (G:h.Ns mainGlobals mg) (d:DdIn K x st c D)
  (hb:∀ (kV doc pm:Value) (an:Option Addr) (ct:Value),Binds K (u9 x x (zW st) (zN st) (zp st) (.ref D) kV doc pm an (.ref c) ct) ps [])
  (hd:∀ (kV doc pm:Value) (an:Option Addr) (ct:Value),∃ ds,Binds K (u9 x x (zW st) (zN st) (zp st) (.ref D) kV doc pm an (.ref c) ct) ps ds/\Vals dvs ds)
  (ok:∀ f fd,FunD K x st c D f fd->FnOk P w K mg base CX0 k f fd ps sp):CaD P w K mg base CX0 k x ps dvs sp:=by
 obtain ⟨f,a,oc,od,kV,doc,pm,an,ct,osl,l,cc,kp⟩:=d
 exact ⟨f,_,ok f _ ⟨oc,od,kV,doc,pm,an,ct,osl,rfl,l,cc⟩,hb kV doc pm an ct,hd kV doc pm an ct,kp,UM X G a⟩
end L2
namespace L2
open PySem PySem.Spec PyProof.Rows
theorem XA:typeLookup (.type "tuple") "__reversed__"=pure none:=by rw [typeLookup_type,builtinLookup_eq_fast]; kernel_rfl
theorem rev_slot_next:Slot "reversed" "__next__" "reversed.__next__" :=
 .of (owner:="reversed") (n:="__next__") (by rw [typeLookup_type,builtinLookup_eq_fast]; kernel_rfl) (by decide +kernel) (by decide +kernel) (by decide +kernel)
  (by first | exact .inl (by decide +kernel) | exact .inr (by decide +kernel)) (by rw [isSubtype_type]; kernel_rfl)
theorem xo:entryFor table "reversed.__next__"=some Builtin.«reversed.__next__»:=entryFor_of_tree (by kernel_rfl)
section
variable {prog:Program} {w:World} {A:Around} {E:Value->Shared->Prop} {s:Shared}
theorem xK {l:Addr} {items:Array Value} {Q₁:Value->Shared->Prop} (hl:IsTup s.heap l items) (hz:items.size<=sizeLine)
  (h:∀ tk,Q₁ (.ref s.heap.objs.size) { s with heap:=s.heap.push { cls:=.type "reversed",data:=.fields #[.ref l,rawInt ((items.size:Int) - 1)] },toks:=tk }) :
  codeAny (model prog w) A (.call (.builtin "reversed.__new__") ⟨[.type "reversed",.ref l],[]⟩) (wants Q₁ E) s:=by
 refine codeAny_of_tree ?_
 show wpAny _ A.in1 (do checkBuiltinCall "reversed.__new__" ⟨[.type "reversed",.ref l],[]⟩; again (.builtin "reversed.__new__" ⟨[.type "reversed",.ref l],[]⟩)) _ _ s
 refine wpAny_bind (wpAny_of_eq (F.newCall_reversed_1 _) (wpAny_pure ⟨plainId_quiet F.plain_reversed_new _,codeAny_builtin F.entry_reversed_new ?_⟩))
 rw [Around.under_plainId F.plain_reversed_new _]
 unfold Builtin.«reversed.__new__»
 refine wpAny_bind (wpAny_of_eq (newClass_reversed _) ?_)
 try dsimp only
 refine wpAny_bind (wpAny_of_eq (a:=()) (by first | rfl | kernel_rfl) ?_)
 refine wpAny_bind (wpAny_of_eq (a:=()) (by first | rfl | kernel_rfl) ?_)
 try dsimp only
 refine wpAny_bind (wpAny_specialOf hl.typeIs XA ?_)
 try dsimp only
 refine wpAny_bind ?_
 wp_delta
 refine wpAny_bind (wpAny_isInstance (T:="tuple") (b:=false) hl.typeIs (by rw [isSubtype_type]; kernel_rfl) ?_)
 refine wpAny_ite_split (fun hab=>absurd hab (by decide)) (fun _=>?_)
 try dsimp only
 refine wpAny_bind (wpAny_specialOf hl.typeIs slot_tuple_getitem.lookup ?_)
 try dsimp only
 rw [if_pos (by decide)]
 refine wpAny_pure ?_
 rw [if_neg (by decide)]
 have hn:=xG
 refine wpAny_bind (len_tuple hl (by lia) ?_)
 refine wpAny_bind (wpAny_of_eq (a:=some ((items.size:Nat):Int)) (by first | rfl | kernel_rfl) ?_)
 try dsimp only
 refine wpAny_bind ?_
 show wpAny _ _ (newObj (.type "reversed") (.fields [Value.ref l,rawInt (((items.size:Nat):Int) - 1)].toArray)) _ _ _
 refine wpAny_newObj_type ?_
 exact wpAny_pure (h _)
theorem xL:Slot "reversed" "__init__" "object.__init__" :=
 .of (owner:="object") (n:="__init__") (by rw [typeLookup_type,builtinLookup_eq_fast]; kernel_rfl) (by decide +kernel) (by decide +kernel) (by decide +kernel)
  (by first | exact .inl (by decide +kernel) | exact .inr (by decide +kernel)) (by rw [isSubtype_type]; kernel_rfl)
theorem called_reversed:TypeCalled "reversed" "reversed.__new__" "object.__init__" :=
 ⟨by decide +kernel,by decide +kernel,⟨_,_,F.mro_reversed⟩,F.made_reversed,by decide +kernel,F.sub_reversed_self,xL⟩
def IsRevT (h:Heap) (a l:Addr) (i:Int):Prop:=∃ o,h.get? a=some o/\o.cls=.type "reversed"/\o.data=.fields #[.ref l,rawInt i]
theorem IsRevT.typeIs {a l:Addr} {i:Int} (x:IsRevT s.heap a l i):s.TypeIs (.ref a) "reversed":=let ⟨o,ho,hc,_⟩:=x; ⟨o,ho,hc⟩
theorem IsRevT.at {h h':Heap} {a l:Addr} {i:Int} (x:IsRevT h a l i) (e:∀ o,h.get? a=some o->h'.get? a=some o):IsRevT h' a l i:=let ⟨o,ho,r⟩:=x; ⟨o,e _ ho,r⟩
theorem xB {l:Addr} {items:Array Value} {Q:Value->Shared->Prop} (hl:IsTup s.heap l items) (hz:items.size<=sizeLine)
  (h:∀ tk,Q (.ref s.heap.objs.size) { s with heap:=s.heap.push { cls:=.type "reversed",data:=.fields #[.ref l,rawInt ((items.size:Int) - 1)] },toks:=tk }) :
  wpAny (model prog w) A (call (.type "reversed") [.ref l]) Q E s:=by
 refine callType_codes (Q₁:=fun obj s₁=>s₁.TypeIs obj "reversed"/\Q obj s₁) called_reversed (F.typeCall_reversed_1 _) F.entry_object_init
  (xK hl hz fun tk=>⟨⟨_,uw _ rfl,rfl⟩,h tk⟩) fun obj s₁ h₁=>?_
 exact ⟨h₁.1,F.args_object_init_2 obj _,object_init_meets called_reversed.init.lookup called_reversed.made (by decide) prog w A.in1 _ s₁ ⟨h₁.1,rfl,h₁.2⟩⟩
theorem vD:Manifest.owners.lookup (String.ofList ['d','e','s','r','e','v','e','r'].reverse)=some Manifest.sig_reversed:=by kernel_rfl
theorem xD (a:Value):argsOk "reversed.__next__" ⟨[a],[]⟩:=by
 unfold argsOk; rw [signature?_of (id:="reversed.__next__") (n:=['_','_','t','x','e','n','_','_']) (o:=['d','e','s','r','e','v','e','r']) (by kernel_rfl) vD]; kernel_rfl
theorem XB {it l:Addr} {i:Nat} {items:Array Value} {x:Value} {Q:Option Value->Shared->Prop} (hit:IsRevT s.heap it l (i:Int)) (hl:IsTup s.heap l items) (hz:items.size<=sizeLine) (hx:items[i]?=some x)
  (hQ:∀ h' tk,IsRevT h' it l ((i:Int) - 1)->Heap.SameBut it s.heap h'->Q (some x) { s with heap:=h',toks:=tk }):wpAny (model prog w) A (pyNext (.ref it)) Q E s:=by
 obtain ⟨o,ho,hc,hd⟩:=id hit
 unfold pyNext
 refine wpAny_bind (wpAny_attempt (wpAny_callSpecial?_slot (name:=Str.ofString "__next__") hit.typeIs rev_slot_next
  (wpAny_call_entry rev_slot_next hit.typeIs xo ?_ (xD _))))
 unfold Builtin.«reversed.__next__»
 refine wpAny_bind (wpAny_of_eq (a:=(Value.ref it,[])) rfl ?_)
 try dsimp only
 refine wpAny_bind (wpAny_field ho hd (x:=.ref l) rfl ?_)
 refine wpAny_bind (wpAny_field ho hd (x:=rawInt (i:Int)) rfl ?_)
 show wpAny _ _ (if (i:Int) < 0 then _ else _) _ _ s
 rw [if_neg (by lia)]
 refine wpAny_bind (wpAny_specialOf hl.typeIs slot_tuple_getitem.lookup ?_)
 try dsimp only
 rw [if_neg (by decide)]
 refine wpAny_bind (wpAny_mkInt ?_)
 have hn:=xG
 have hi:i < items.size:=by
  rcases Nat.lt_or_ge i items.size with c | c
  ·exact c
  ·rw [Array.getElem?_eq_none c] at hx; cases hx
 refine wpAny_bind (wpAny_attempt (getItem_tuple (j:=i) hl (by lia) (by lia) (by unfold seqIndex?; simp; lia) hx ?_))
 try dsimp only
 refine wpAny_bind (wpAny_field ho hd (x:=rawInt (i:Int)) rfl ?_)
 show wpAny _ _ (setField (.ref it) 1 (rawInt ((i:Int) - 1)) >>= fun _=>ret x) _ _ _
 refine wpAny_bind (wpAny_setField ho hd (by simp) ?_)
 first
 | refine wpAny_pure ⟨x,rfl,wpAny_pure (hQ _ _ ?_ (Heap.SameBut.update ..))⟩
 | refine wpAny_bind (wpAny_pure (wpAny_pure ⟨x,rfl,wpAny_pure (hQ _ _ ?_ (Heap.SameBut.update ..))⟩))
 exact ⟨_,u0 _ ho (Obj.isFreed_of_fields (Obj.data_mapFields hd _)),(Obj.cls_mapFields ..).trans hc,by
  rw [Obj.data_mapFields hd]; simp⟩
theorem W4 {it l:Addr} {Q:Option Value->Shared->Prop} (hh:A.handled=none) (hit:IsRevT s.heap it l (-1))
  (hQ:∀ h',Heap.ExtBut it s.heap h'->Q none { s with heap:=h' }):wpAny (model prog w) A (pyNext (.ref it)) Q E s:=by
 obtain ⟨o,ho,hc,hd⟩:=id hit
 unfold pyNext
 refine wpAny_bind (wpAny_attempt (wpAny_callSpecial?_slot (name:=Str.ofString "__next__") hit.typeIs rev_slot_next
  (wpAny_call_entry rev_slot_next hit.typeIs xo ?_ (xD _))))
 unfold Builtin.«reversed.__next__»
 refine wpAny_bind (wpAny_of_eq (a:=(Value.ref it,[])) rfl ?_)
 try dsimp only
 refine wpAny_bind (wpAny_field ho hd (x:=.ref l) rfl ?_)
 refine wpAny_bind (wpAny_field ho hd (x:=rawInt (-1)) rfl ?_)
 show wpAny _ _ (if (-1:Int) < 0 then _ else _) _ _ s
 rw [if_pos (by decide)]
 refine wpAny_bind (wpAny_rule ?_)
 refine wpAny_bind ?_
 wp_delta
 refine wpAny_bind (wpAny_setField ho hd (by simp) ?_)
 refine wpAny_setField (u0 _ ho (Obj.isFreed_of_fields (Obj.data_mapFields hd _))) (Obj.data_mapFields hd _) (by simp) ?_
 show wpAny _ _ (Builtin.SmallTypes.stopIteration >>= _) _ _ _
 refine wpAny_bind ?_
 unfold Builtin.SmallTypes.stopIteration
 refine wpAny_bind ?_
 simp only [newExc,newTuple]
 refine wpAny_bind (wpAny_newObj_type ?_ (by size_fits))
 refine wpAny_bind (m:=firstArgMember _ _) (wpAny_of_eq (a:=Value.none) (by first | rfl | (simp only [firstArgMember]; rfl)) ?_)
 refine wpAny_newObj_type ?_ (by size_fits)
 simp only [raiseNew]
 refine wpAny_bind (wpAny_handled ?_)
 first | rw [show A.in1.handled=none from hh] | rw [hh]
 refine wpAny_bind (wpAny_pure (wpAny_throw ?_))
 refine wpAny_bind (wpAny_isInstance (T:="StopIteration") (b:=true) ⟨_,uw _ rfl,rfl⟩ isSubtype_stop ?_)
 exact wpAny_pure (hQ _ fun b o hb e=>uc _ (uc _ ((uI _ _ (Ne.symm hb)).trans ((uI _ _ (Ne.symm hb)).trans e))))
theorem xE:Slot "reversed" "__iter__" "reversed.__iter__" :=
 .of (owner:="reversed") (n:="__iter__") (by rw [typeLookup_type,builtinLookup_eq_fast]; kernel_rfl) (by decide +kernel) (by decide +kernel) (by decide +kernel)
  (by first | exact .inl (by decide +kernel) | exact .inr (by decide +kernel)) (by rw [isSubtype_type]; kernel_rfl)
theorem vf (a:Value):argsOk "reversed.__iter__" ⟨[a],[]⟩:=by
 unfold argsOk; rw [signature?_of (id:="reversed.__iter__") (n:=['_','_','r','e','t','i','_','_']) (o:=['d','e','s','r','e','v','e','r']) (by kernel_rfl) vD]; kernel_rfl
theorem wX:entryFor table "reversed.__iter__"=some Builtin.«dict_keyiterator.__iter__» :=
 entryFor_alias (id':="dict_keyiterator.__iter__") (by kernel_rfl) (by first | rfl | decide +kernel | (unfold String.splitOn; simp +decide [String.splitOnAux])) (by decide +kernel) (by kernel_rfl)
theorem vE {it l:Addr} {i:Int} {Q:Value->Shared->Prop} (hit:IsRevT s.heap it l i) (h:Q (.ref it) s):wpAny (model prog w) A (pyIter (.ref it)) Q E s:=by
 refine wpAny_pyIter_slot hit.typeIs xE (wpAny_call_entry xE hit.typeIs wX ?_ (vf _))
 show wpAny _ _ (ret (.ref it)) _ _ s
 exact wpAny_pure ⟨_,rfl,"reversed",_,hit.typeIs,rev_slot_next.lookup,h⟩
end
def ItvT (K:ua) (a:Addr) (n:Nat):It :=
 ⟨fun i H=>i < n/\∃ xs x,SqT K H a xs/\xs[n - 1 - i]?=some x,fun i H x H'=>H'=H/\∀ xs,SqT K H a xs->xs[n - 1 - i]?=some x,fun i _=>n<=i⟩
theorem XC {P:Program} {w:World} {K:ua} {tg:Expr} (a it:Addr) (n:Nat):Turn P w K tg (ItvT K a n) [it] it (fun i h=>i<=n/\IsRevT h it a ((n:Int) - 1 - (i:Nat))) where
 mem:=by simp
 obj:=fun i h st b hb=>by
  have e:b=it:=by simpa using hb
  subst e
  obtain ⟨_,o,e,c,d⟩:=st
  exact ⟨o,e,fun v z=>by rw [d] at z; cases z⟩
 keep:=fun i h h' st k=>⟨st.1,st.2.at fun o e=>k it (by simp) o e⟩
 item:=by
  intro X hP hw hK hc i pins s σ H E I hf st hg
  subst hP hw hK
  obtain ⟨hi,xs,x,hq,hx⟩:=hg
  obtain ⟨its,rv,p,hz⟩:=I.tuple hq
  obtain ⟨u,hu,ru⟩:=rv.get hx
  have hl:=rv.length
  obtain ⟨f0,f1,f2,f3,f4,f5⟩:=hf it (by simp)
  obtain ⟨_,st2⟩:=st
  have e1:(n:Int) - 1 - (i:Nat)=((n - 1 - i:Nat):Int):=by lia
  rw [e1] at st2
  refine XB st2 p (by rw [uz]; lia) (x:=u) (by simpa using hu) fun h' tk st' sb=>?_
  have I1:Inv X pins σ H { s with heap:=h',toks:=tk }:=I.turned (t':=tk) (fun b o hb e=>(sb.2 b hb).trans e) f0 f1 f3 f4 f5
  obtain ⟨o,e,c,d⟩:=id st'
  refine ⟨u,rfl,jK (s:={ s with heap:=h',toks:=tk }) e c d (by decide) ⟨x,H,I1,ru,⟨rfl,fun ys hy=>by rw [I.tuple_inj hy hq]; exact hx⟩,⟨hi,?_⟩,fun b hb=>(hf b hb).1⟩⟩
  have e2:(n:Int) - 1 - ((i + 1:Nat):Int)=((n - 1 - i:Nat):Int) - 1:=by lia
  rw [e2]
  exact st'
 done:=by
  intro X hP hw hK hc i pins s σ H E I hf st hg
  subst hP hw hK
  obtain ⟨f0,f1,f2,f3,f4,f5⟩:=hf it (by simp)
  obtain ⟨h1,st2⟩:=st
  have h2:n<=i:=hg
  have e1:(n:Int) - 1 - (i:Nat)=-1:=by lia
  rw [e1] at st2
  exact W4 (I.ok.hd hc) st2 fun h' eb=>⟨rfl,I.turned (t':=s.toks) (fun b o hb e=>eb b o hb e) f0 f1 f3 f4 f5⟩
 self:=fun _ _ _ _ _ st h=>vE st.2 h
section
variable {X:Cx} {tg:Expr}
def Qa (K:ua) (ta:TA):TI:=fun σ H R=>ta σ H fun vs H1=>∃ a xs,vs=[.ref a]/\SqT K H1 a xs/\R (ItvT K a xs.length) H1
theorem JR {a:Expr} {ta:TA} {p pos:Pos} (hg:Gl X "reversed") (hm:X.mg "reversed"=none) (ha:PA X [a] ta) (hs:starEach [a] X.env=[(false,eval a X.env)]:=by rfl):PI X tg (.Call (.Name "reversed" p) [a] [] pos) (Qa X.K ta):=by
 intro pins s σ H R I h
 refine Call_ (yZ I hg hm boot_reversed (Uh (thn (ha pos pins s σ H _ I h) fun us s1 ⟨vs,H1,I1,r1,q1⟩=>?_) hs rfl))
 obtain ⟨l,xs,e,hq,q⟩:=q1
 subst e
 obtain ⟨u,rfl,rx⟩:=wf r1
 cases rx
 obtain ⟨its,rv,pl,hz⟩:=I1.tuple hq
 have hl:=rv.length
 refine xB pl (by rw [uz]; lia) fun tk=>?_
 have hr:IsRevT (s1.heap.push { cls:=.type "reversed",data:=.fields #[.ref l,rawInt ((its.toArray.size:Int) - 1)] }) s1.heap.objs.size l ((its.toArray.size:Int) - 1):=⟨_,uw _ rfl,rfl,rfl⟩
 refine vE (s:={ s1 with heap:=s1.heap.push { cls:=.type "reversed",data:=.fields #[.ref l,rawInt ((its.toArray.size:Int) - 1)] },toks:=tk }) hr ?_
 refine ⟨s1.heap.objs.size,[s1.heap.objs.size],_,_,H1,rfl,I1.kept (t':=tk) fun b o e=>uc _ e,XC l _ xs.length,⟨u6 _,?_⟩,fun b hb=>?_,q⟩
 ·have e:(xs.length:Int) - 1 - ((0:Nat):Int)=(its.toArray.size:Int) - 1:=by simp [hl]
  rw [e]
  exact hr
 have e:b=s1.heap.objs.size:=by simpa using hb
 subst e
 exact I1.fpOk (ui _) (I1.hok.fresh (ui _))
theorem JS {a:Expr} {t:TA} {p pos:Pos} (hg:Gl X "reversed") (hm:X.mg "reversed"=none) (ha:jA X [a] t) (h:zJ a=false:=by rfl):jI X tg (.Call (.Name "reversed" p) [a] [] pos) (Qa X.K t):=⟨JR hg hm ha.out (zK h)⟩
end
theorem W5 {K:ua} {a:Addr} {xs:List V} {g:TG} {tb:TS} {D:Ends} {σ:St} {H:Hp} (Pv:Nat->St->Hp->Prop) (h0:Pv 0 σ H) (hl:∀ i σ H,i<=xs.length->Pv i σ H->SqT K H a xs)
  (hs:∀ i x σ H,xs.reverse[i]?=some x->Pv i σ H->g x σ H fun σ2 H2=>tb { D with nx:=Pv (i + 1),ct:=Pv (i + 1),bk:=D.nx } σ2 H2) (hd:∀ σ H,Pv xs.length σ H->D.nx σ H) :
  ∃ W:Nat->Nat->St->Hp->Prop,(∃ m,W 0 m σ H)/\∀ i m σ H,W i m σ H ->
   ((ItvT K a xs.length).stop i H/\D.nx σ H)\/((ItvT K a xs.length).go i H/\∃ N:St->Hp->Prop,(∀ σ' H',N σ' H'->∃ m',m' < m/\W (i + 1) m' σ' H')/\∀ x H',(ItvT K a xs.length).yld i H x H'->g x σ H' fun σ2 H2=>tb { D with nx:=N,ct:=N,bk:=D.nx } σ2 H2):=by
 refine ⟨fun i m σ H=>m=xs.length - i/\i<=xs.length/\Pv i σ H,⟨xs.length,by simp,u6 _,h0⟩,?_⟩
 rintro i m σ H ⟨rfl,hi,p⟩
 have q:=hl i σ H hi p
 by_cases hlt:i < xs.length
 ·refine .inr ⟨⟨hlt,xs,xs[xs.length - 1 - i],q,by rw [ug]⟩,Pv (i + 1),fun σ' H' p'=>⟨xs.length - (i + 1),by lia,rfl,hlt,p'⟩,fun x H' y=>?_⟩
  obtain ⟨e,y⟩:=y
  subst e
  refine hs i x σ _ ?_ p
  rw [U0 hlt]
  exact y xs q
 ·have e:i=xs.length:=by lia
  subst e
  exact .inl ⟨ui _,hd σ H p⟩
end L2
namespace GN
open PySem L2 K11
inductive PtL (H:Hp):List V->List V->Prop
 | nil:PtL H [] []
 | num {i:Int} {vs xs:List V}:PtL H vs xs->PtL H (.int i :: vs) (.int i :: xs)
 | shp {p q:Addr} {t:Str} {us vs xs ys:List V}:H p=some (.tup [.str t,.ref q])->H q=some (.tup us)->us.length<=9->PtL H us xs->PtL H vs ys->PtL H (.ref p :: vs) (.str t :: (xs ++ ys))
theorem PtL.keep {H H':Hp} {vs xs:List V} (t:Tups H H') (h:PtL H vs xs):PtL H' vs xs:=by
 induction h with
 | nil=>exact .nil
 | num _ ih=>exact .num ih
 | shp a b c _ _ ih1 ih2=>exact .shp (t _ _ a) (t _ _ b) c ih1 ih2
theorem PtL.app {H:Hp} {us vs xs ys:List V} (h:PtL H us xs) (g:PtL H vs ys):PtL H (us ++ vs) (xs ++ ys):=by
 induction h with
 | nil=>exact g
 | num _ ih=>exact .num ih
 | shp a b c d _ _ ih2 =>
  rw [Uc,Uc,uG]
  exact .shp a b c d ih2
def At:V->Prop
 | .int _=>True
 | .str _=>True
 | _=>False
def lamX:Expr:=match zN yF with
 | [.Return (some (.Call _ [_,_,l] _ _)) _]=>l
 | _=>.Constant .none 0 ⟨0,0,0,0⟩
def lamP:Arguments:=match lamX with
 | .Lambda a _ _ _=>a
 | _=>zW yF
def lamB:Expr:=match lamX with
 | .Lambda _ b _ _=>b
 | e=>e
def lamS:Scope:=match lamX with
 | .Lambda _ _ s _=>s
 | _=>zp yF
def lamPos:Pos:=match lamX with
 | .Lambda _ _ _ p=>p
 | _=>⟨0,0,0,0⟩
def lamQ:Str:=("parts_of":Str) ++ (".<locals>.":Str) ++ ("<lambda>":Str)
abbrev xY (mg:Str->Option Value) (c:Addr) (ct:Value):FuncData:=lamF mg lamQ lamP lamB lamS c ct
def spId (mg:Str->Option Value) (f c:Addr) (ct:Value):Sp:=fun vs H Q _=>∃ v,vs=[v]/\H f=some (FunO f (xY mg c ct))/\H c=some (CodO c lamQ)/\Q v H
theorem za2:FnScope ["shape_value"] ["shape_value"] lamS:=⟨rfl,rfl,rfl,by decide +kernel,rfl,by decide +kernel,by decide +kernel⟩
theorem JT:∃ p,lamB=.Name "shape_value" p:=⟨_,rfl⟩
def spWhole:Sp:=fun vs H Q _=>∃ v,vs=[v]/\((∃ i,v=.int i/\Q (.bl true) H)\/(∃ p xs,v=.ref p/\H p=some (.tup xs)/\Q (.bl false) H))
def YE (mg:Str->Option Value):Sp:=fun vs H Q _=>∃ (v:V) (m:Nat) (f c:Addr) (ct:Value) (full:List V),vs=[v,.int (m:Nat),.ref f]/\m<=300/\H f=some (FunO f (xY mg c ct))/\H c=some (CodO c lamQ)/\PtL H [v] full /\
 ∀ (H':Hp) (l:Addr),Same H H'->H l=none->H' l=some (.lst (full.take m))->Q (.ref l) H'
def Tb (T:Addr) (H:Hp):Prop:=∃ ps,H T=some (.tbl ps)/\(ps=#[]\/∃ c,ps=#[rawInt lamPos.line,rawInt lamPos.col,.ref c]/\H c=some (CodO c lamQ))
def KT (T:Addr) (H H':Hp):Prop:=∀ b u,b≠T->H b=some u->H' b=some u
theorem KT.trans {T:Addr} {H H1 H2:Hp} (a:KT T H H1) (b:KT T H1 H2):KT T H H2:=fun c u n h=>b c u n (a c u n h)
theorem KT.of {T:Addr} {H H1:Hp} (s:Same H H1):KT T H H1:=fun c u _ h=>s c u h
theorem Tb.tbl {T:Addr} {H:Hp} (h:Tb T H):∃ ps,H T=some (.tbl ps):=let ⟨ps,e,_⟩:=h; ⟨ps,e⟩
theorem Tb.same {T:Addr} {H H':Hp} (h:Tb T H) (s:Same H H'):Tb T H':=by
 obtain ⟨ps,e,h⟩:=h
 refine ⟨ps,s _ _ e,?_⟩
 rcases h with h | ⟨c,h,g⟩
 ·exact .inl h
 ·exact .inr ⟨c,h,s _ _ g⟩
theorem KT.tups {T:Addr} {H H':Hp} (k:KT T H H') (h:Tb T H):Tups H H':=fun p xs q=>k p _ (let ⟨_,e⟩:=h.tbl; z9 q e (by intro z; cases z)) q
theorem KT.lst {T:Addr} {H H':Hp} (k:KT T H H') (h:Tb T H) {p:Addr} {xs:List V} (q:H p=some (.lst xs)):H' p=some (.lst xs):=k p _ (let ⟨_,e⟩:=h.tbl; z9 q e (by intro z; cases z)) q
def YF (T:Addr):Sp:=fun vs H Q _=>∃ (v:V) (m:Nat) (full:List V),vs=[v,.int (m:Nat)]/\m<=300/\Tb T H/\PtL H [v] full/\∀ (H':Hp) (l:Addr),KT T H H'->Tb T H'->H l=none->H' l=some (.lst (full.take m))->Q (.ref l) H'
section
variable {P:Program} {w:World} {K:ua} {mg:Str->Option Value} {base:Heap} {f:Addr} {fd:FuncData}
theorem zah (f c:Addr) (ct:Value):FnOk P w K mg base CX0 1 f (xY mg c ct) ["shape_value"] (spId mg f c ct):=by
 refine zaf (k:=0) (N:=["shape_value"]) (fun vs H Q E h=>?_) za2 (fun vs H Q E h=>?_) (fun A outer s H vs Q E hr h=>?_)
 ·obtain ⟨v,rfl,h1,h2,_⟩:=h
  exact ⟨h1,h2⟩
 ·obtain ⟨v,rfl,_⟩:=h
  rfl
 ·obtain ⟨v,rfl,h1,h2,q⟩:=h
  obtain ⟨p,e⟩:=JT
  rw [e]
  exact ⟨tVar 0,pv 0,v,rfl,q⟩
theorem zai (c:Addr) (ct:Value):Binds K (xY mg c ct) ["shape_value"] []:=.all fun us hl=>match us,hl with | [_],_=>rfl
theorem scWhole:FnScope ["thing"] ["thing"] (zp xn):=⟨rfl,rfl,rfl,by decide +kernel,rfl,by decide +kernel,by decide +kernel⟩
theorem ok_whole (F:Fun K "is_whole" "is_whole" xn f fd) (m_isinstance:mg "isinstance"=none) (m_int:mg "int"=none) (m_bool:mg "bool"=none):FnOk P w K mg base CX0 1 f fd ["thing"] spWhole:=by
 refine F.by scWhole (fun vs H Q E h=>?_) (fun cdv A outer s H vs Q E hr h=>?_)
 ·obtain ⟨v,rfl,_⟩:=h
  rfl
 obtain ⟨v,rfl,h⟩:=h
 refine ⟨_,
  (zk (zx (wJ (zG zY rfl m_isinstance uJ (ja_c (jv 0) (ja_c (yu (v:=.ty "int") rfl m_int U1 rfl) zg))) (wI (vV (zG zY rfl m_isinstance uJ (ja_c (jv 0) (ja_c (yu (v:=.ty "bool") rfl m_bool UJ rfl) zg)))))))),?_⟩
 rcases h with ⟨i,rfl,q⟩ | ⟨p,xs,rfl,hp,q⟩
 ·exact ⟨_,rfl,_,_,_,_,rfl,.int _,rfl,_,rfl,iteT ⟨_,rfl,_,_,_,_,rfl,.int _,rfl,_,rfl,q⟩⟩
 ·exact ⟨_,rfl,_,_,_,_,rfl,.tup hp,rfl,_,rfl,iteF q⟩
theorem scFirst:FnScope ["value","most","shape_of","told","left","one","pair","part"] ["value","most","shape_of"] (zp ZV):=⟨rfl,rfl,rfl,by decide +kernel,rfl,by decide +kernel,by decide +kernel⟩
theorem XE {told xs full:List V} {m:Nat} (e:told ++ xs=full) (h:told.length<=m) (d:xs=[]\/told.length=m):told=full.take m:=by
 subst e
 rcases d with rfl | d
 ·rw [uO,uE h]
 ·rw [<- d,List.take_left]
theorem W6 (F:Fun K "first_parts" "first_parts" ZV f fd) (GW:Ca P w K mg base CX0 1 "is_whole" ["thing"] spWhole) (m_len:mg "len"=none) (m_reversed:mg "reversed"=none):FnOk P w K mg base CX0 2 f fd ["value","most","shape_of"] (YE mg):=by
 refine F.by scFirst (fun vs H Q E h=>?_) (fun cdv A outer s H vs Q E hr h=>?_)
 ·obtain ⟨v,m,f,c,ct,full,rfl,_⟩:=h
  rfl
 obtain ⟨v,m,fl,c,ct,full,rfl,hm,hf,hc,hP,q⟩:=h
 refine ⟨_,
  (zi (zv (i:=3) scFirst.nd rfl (Or.inl rfl) (zZ zg))
  (zi (zv (i:=4) scFirst.nd rfl (Or.inl rfl) (zZ (ja_c (jv 0) zg)))
  (zi (wK PassesOwn.never (jW.pt (wH (zt jR (zG zz rfl m_len uC (ja_c (jv 4) zg)) zh (zw _)) (wx (zt wm (zG zz rfl m_len uC (ja_c (jv 3) zg)) (jv 1) (zw _)))))
   (zi (zv (i:=5) scFirst.nd rfl (Or.inl rfl) (ZH uV PySem.F.slot_list_pop PySem.F.type_list_pop ZK (jv 4)))
   (zk (zH (ye (zy GW hr rfl zC (ja_c (jv 5) zg)))
    (zk (zU (xl uV Ue Uf yy (jv 3) (ja_c (jv 5) zg))))
    (zi (zv (i:=6) scFirst.nd rfl (Or.inl rfl) (W3 (fo:=xY mg) (sp:=spId mg) (fun f c ct=>zah f c ct) hr (jv 2) (fun c ct=>zai c ct) zC (ja_c (jv 5) zg)))
    (zi (zU (xl uV Ue Uf yy (jv 3) (ja_c (zq zr (jv 6) zh (fun _ _=>rfl)) zg)))
    (zk (yE PassesOwn.never rfl (JS rfl m_reversed (ja_c (zq zr (jv 6) zh (fun _ _=>rfl)) zg)) (zD (i:=7) scFirst.nd rfl (Or.inl rfl))
     (zk (zU (xl uV Ue Uf yy (jv 4) (ja_c (jv 7) zg))))))))))))
  (zk (zx (jv 3)))))),?_⟩
 have sl:=zQ
 refine ⟨by show 0<=sizeLine; decide,fun lt h1=>⟨_,rfl,by show 1<=sizeLine; decide,fun lf h2=>?_⟩⟩
 have s1:=same_new (o:=.lst []) h1
 have flf:H lf=none:=s1.free h2
 have s2:=s1.new (o:=.lst [v]) h2
 have ntf:lt≠lf:=zo (zf (H:=H) (a:=lt) (o:=.lst [])) h2
 have hP2:=hP.keep (.of s2)
 refine ⟨fun k σ H'=>∃ (told ls xs:List V) (x y z:Option V),k=m - told.length/\σ=[some v,some (.int (m:Nat)),some (.ref fl),some (.ref lt),some (.ref lf),x,y,z]/\Same H H'/\H' lt=some (.lst told)/\H' lf=some (.lst ls)/\PtL H' ls.reverse xs/\told ++ xs=full/\told.length<=m/\ls.length<=1 + 9 * told.length,
  ⟨_,[],[v],full,none,none,none,rfl,rfl,s2,old h2 zf,zf,hP2,rfl,u6 _,by simp⟩,?_⟩
 rintro k σ H3 ⟨told,ls,xs,x,y,z,rfl,rfl,sm,ht,hl,hx,e,hlen,hls⟩
 refine ⟨_,rfl,_,_,rfl,.inl (SqL.of hl),_,_,rfl,rfl,_,rfl,?_⟩
 have fin:(xs=[]\/told.length=m)->Q (.ref lt) H3:=fun d=>q _ lt sm h1 (by rw [ht,XE e hlen d])
 refine ite2 (fun c1=>?_) (fun c1=>?_)
 ·rw [decide_eq_true_eq] at c1
  have c1:0 < ls.length:=by lia
  refine ⟨_,rfl,_,_,rfl,.inl (SqL.of ht),_,rfl,_,_,rfl,rfl,_,rfl,?_⟩
  by_cases c2:told.length < m
  ·rw [decide_eq_true (show ((told.length:Nat):Int) < (m:Nat) by lia)]
   refine iteT ⟨_,fun _ _ h=>h,?_⟩
   obtain ⟨ls',one,rfl⟩:∃ ls' one,ls=ls' ++ [one]:=⟨ls.dropLast,ls.getLast (by intro z; rw [z] at c1; simp at c1),(List.dropLast_concat_getLast _).symm⟩
   refine ⟨_,rfl,.inl ⟨rfl,_,SqL.of hl⟩,lf,_,one,rfl,rfl,hl,by simp,?_⟩
   rw [List.dropLast_concat]
   rw [U8,List.reverse_singleton] at hx
   rw [uf] at hls
   have hls:ls'.length<=9 * told.length:=by simp at hls; lia
   have t4:Tups H3 (upd H3 lf (.lst ls')):=fun b xs z=>by rw [zm (z9 z hl (by intro z; cases z))]; exact z
   have s4:=sm.put (o:=.lst ls') flf
   have ht4:upd H3 lf (.lst ls') lt=some (.lst told):=by rw [zm ntf]; exact ht
   have hl4:=zf (H:=H3) (a:=lf) (o:=.lst ls')
   replace hx:=hx.keep t4
   clear fin
   generalize upd H3 lf (.lst ls')=H4 at *
   cases hx with
   | @num i vs xs2 hx =>
    refine ⟨_,rfl,_,rfl,.inl ⟨i,rfl,_,rfl,iteT ?_⟩⟩
    refine ⟨_,rfl,.inl ⟨rfl,_,SqL.of ht4⟩,_,rfl,lt,_,_,rfl,rfl,ht4,by lia,?_⟩
    have t5:Tups H4 (upd H4 lt (.lst (told ++ [.int i]))):=fun b xs z=>by rw [zm (z9 z ht4 (by intro z; cases z))]; exact z
    refine ⟨m - (told ++ [V.int i]).length,by rw [uf]; show m - (told.length + 1) < _; lia,told ++ [.int i],ls',xs2,_,_,_,rfl,rfl,s4.put h1,zf,by rw [zm ntf.symm]; exact hl4,hx.keep t5,by rw [<- e]; simp,by rw [uf]; show told.length + 1<=m; lia,by rw [uf]; show _<=1 + 9 * (told.length + 1); lia⟩
   | @shp p pq t us vs ys zs hp hq hu hus hx =>
    refine ⟨_,rfl,_,rfl,.inr ⟨p,_,rfl,hp,_,rfl,iteF ?_⟩⟩
    refine ⟨fl,rfl,c,ct,s4 _ _ hf,_,rfl,s4 _ _ hf,_,rfl,s4 _ _ hf,s4 _ _ hc,?_⟩
    refine ⟨_,rfl,.inl ⟨rfl,_,SqL.of ht4⟩,_,rfl,ixT hp (zj (j:=0) rfl) ⟨lt,_,_,rfl,rfl,ht4,by lia,?_⟩⟩
    have t5:Tups H4 (upd H4 lt (.lst (told ++ [.str t]))):=fun b xs z=>by rw [zm (z9 z ht4 (by intro z; cases z))]; exact z
    have s5:=s4.put (o:=.lst (told ++ [.str t])) h1
    have ht5:=zf (H:=H4) (a:=lt) (o:=.lst (told ++ [.str t]))
    have hl5:upd H4 lt (.lst (told ++ [.str t])) lf=some (.lst ls'):=by rw [zm ntf.symm]; exact hl4
    replace hp:=t5 _ _ hp
    replace hq:=t5 _ _ hq
    replace hus:=hus.keep t5
    replace hx:=hx.keep t5
    generalize upd H4 lt (.lst (told ++ [.str t]))=H5 at *
    refine ⟨_,rfl,ixT hp (zj (j:=1) rfl) ⟨pq,us,rfl,SqT.of hq,W5 (xs:=us) (fun i σ H'=>∃ x,σ=[some v,some (.int (m:Nat)),some (.ref fl),some (.ref lt),some (.ref lf),some (.ref p),some (.ref p),x]/\Same H H'/\Tups H5 H'/\H' lt=some (.lst (told ++ [.str t]))/\H' lf=some (.lst (ls' ++ us.reverse.take i))) ⟨_,rfl,s5,fun _ _ h=>h,ht5,by simpa using hl5⟩ (fun i σ H' _ h=>SqT.of (h.choose_spec.2.2.1 _ _ hq)) ?_ ?_⟩⟩
    ·rintro i y σ H6 hy ⟨x,rfl,s6,t6,ht6,hl6⟩
     have hi:i < us.reverse.length:=(ud.mp hy).1
     rw [uZ] at hi
     refine ⟨_,rfl,.inl ⟨rfl,_,SqL.of hl6⟩,_,rfl,lf,_,_,rfl,rfl,hl6,by rw [uf,uR]; lia,?_⟩
     refine ⟨_,rfl,s6.put flf,t6.trans (fun b xs z=>by rw [zm (z9 z hl6 (by intro z; cases z))]; exact z),by rw [zm ntf]; exact ht6,?_⟩
     rw [zf,uG,List.take_succ,hy]
     rfl
    ·rintro σ H6 ⟨x,rfl,s6,t6,ht6,hl6⟩
     rw [uE (by simp)] at hl6
     refine ⟨m - (told ++ [V.str t]).length,by rw [uf]; show m - (told.length + 1) < _; lia,told ++ [.str t],ls' ++ us.reverse,ys ++ zs,_,_,_,rfl,rfl,s6,ht6,hl6,?_,by rw [<- e]; simp,by rw [uf]; show told.length + 1<=m; lia,by rw [uf,uf,uZ]; show _<=1 + 9 * (told.length + 1); lia⟩
     rw [U8,List.reverse_reverse]
     exact (hus.app hx).keep t6
  ·rw [decide_eq_false (show ¬ ((told.length:Nat):Int) < (m:Nat) by lia)]
   exact iteF ⟨_,rfl,fin (.inr (by lia))⟩
 ·rw [decide_eq_true_eq] at c1
  have e0:ls=[]:=List.length_eq_zero_iff.mp (by lia)
  subst e0
  cases hx
  exact iteF ⟨_,rfl,fin (.inl rfl)⟩
theorem XF {c D:Addr} (dt:DtIn K D 100) (kV doc pm:Value) (an:Option Addr) (ct:Value):Binds K (u9 "parts_of" "parts_of" (zW yF) (zN yF) (zp yF) (.ref D) kV doc pm an (.ref c) ct) ["value","most"] []:=fun s us X hl=>by
 obtain ⟨d,t,n,sl,lk⟩:=dt
 have hl':us.length=2:=by simp at hl; lia
 match us,hl' with
 | [_,_],_=>exact PySem.W.binds_K X rfl lk rfl rfl rfl
theorem XG {c D:Addr} (dt:DtIn K D 100) (kV doc pm:Value) (an:Option Addr) (ct:Value):∃ ds,Binds K (u9 "parts_of" "parts_of" (zW yF) (zN yF) (zp yF) (.ref D) kV doc pm an (.ref c) ct) ["value","most"] ds/\Vals [.int 100] ds:=by
 obtain ⟨d,t,n,sl,lk⟩:=dt
 refine ⟨[.int 100 t],fun s us X hl=>?_,.cons ⟨_,rfl⟩ .nil⟩
 have hl':us.length=1:=by simp at hl; lia
 match us,hl' with
 | [_],_=>exact PySem.W.binds_K X rfl lk rfl rfl rfl
theorem JU:FnScope ["value","most"] ["value","most"] (zp yF):=⟨rfl,rfl,rfl,by decide +kernel,rfl,by decide +kernel,by decide +kernel⟩
theorem W7 {c D T:Addr} (F:FunD K "parts_of" yF c D f fd) (hB:BMn mg base) (hc:U4 K c T=true) (GF:Ca P w K mg base CX0 2 "first_parts" ["value","most","shape_of"] (YE mg)):FnOk P w K mg base CX0 3 f fd ["value","most"] (YF T):=by
 refine F.by JU (fun vs H Q E h=>?_) (fun A outer s H vs Q E hr h=>?_)
 ·obtain ⟨v,m,full,rfl,_⟩:=h
  rfl
 obtain ⟨v,m,full,rfl,hm,hT,hP,q⟩:=h
 refine ⟨_,
  (zk (zx (zy GF hr rfl zC (ja_c (jv 0) (ja_c (jv 1) (ja_c (zae (params:=lamP) (body:=lamB) (scope:=lamS) (pos:=lamPos) (T:=T) (qual:=lamQ) hB rfl hc rfl) zg)))))),?_⟩
 obtain ⟨ps,hT1,hT2⟩:=hT
 refine ⟨_,rfl,_,rfl,ps,hT1,?_⟩
 rcases hT2 with rfl | ⟨c',rfl,hc'⟩
 ·refine ⟨trivial,.inl ⟨rfl,fun c' fl ct h1 h2 h3=>?_⟩⟩
  have n1:T≠c':=zo hT1 h1
  have n2:T≠fl:=zo hT1 h2
  have kt:KT T H (upd (upd (upd H T (.tbl (#[] ++ #[rawInt lamPos.line,rawInt lamPos.col,.ref c']))) c' (CodO c' lamQ)) fl (FunO fl (xY mg c' ct))):=fun b u n e=>by rw [zm (zo e h2),zm (zo e h1),zm n]; exact e
  have e1:upd (upd (upd H T (.tbl (#[] ++ #[rawInt lamPos.line,rawInt lamPos.col,.ref c']))) c' (CodO c' lamQ)) fl (FunO fl (xY mg c' ct)) T=some (.tbl #[rawInt lamPos.line,rawInt lamPos.col,.ref c']):=by rw [zm n2,zm n1]; exact zf
  have e2:upd (upd (upd H T (.tbl (#[] ++ #[rawInt lamPos.line,rawInt lamPos.col,.ref c']))) c' (CodO c' lamQ)) fl (FunO fl (xY mg c' ct)) c'=some (CodO c' lamQ):=by rw [zm h3.symm]; exact zf
  refine ⟨v,m,fl,c',ct,full,rfl,hm,zf,e2,hP.keep (fun p xs e=>kt p _ (z9 e hT1 (by intro z; cases z)) e),fun H' l s' hl e=>q H' l (kt.trans (.of s')) ((Tb.same ⟨_,e1,.inr ⟨c',rfl,e2⟩⟩ s')) ?_ e⟩
  cases hz:H l with
  | none=>rfl
  | some u =>
   by_cases z:l=T
   ·subst z
    exact absurd (e1.symm.trans hl) (by intro y; cases y)
   ·exact absurd ((kt l u z hz).symm.trans hl) (by intro y; cases y)
 ·refine ⟨trivial,.inr ⟨c',?_,fun fl ct h2=>?_⟩⟩
  ·show (if ((lamPos.line:Nat):Int) == _ && _ then _ else _)=_
   rw [if_pos (by simp)]
  have s1:=same_new (o:=FunO fl (xY mg c' ct)) h2
  refine ⟨v,m,fl,c',ct,full,rfl,hm,zf,s1 _ _ hc',hP.keep (.of s1),fun H' l s' hl e=>q H' l (.of (s1.trans s')) (Tb.same ⟨_,hT1,.inr ⟨c',rfl,hc'⟩⟩ (s1.trans s')) (s1.free hl) e⟩
end
end GN
namespace L2
open PySem PySem.Spec PyProof.Rows
section
variable {prog:Program} {w:World} {A:Around} {s:Shared} {E:Value->Shared->Prop}
end
end L2
namespace L2
open PySem PySem.Spec PyProof.Rows
section
variable {X:Cx} {scope:Scope} {cl:List (Str × Addr)} {S:List Nat} {pins:List (Addr × Obj)} {σ:St} {H:Hp} {s:Shared} {ex:List Addr} {M:List Str} {C:Addr}
variable {tg elt iter:Expr} {ifs:List Expr} {pos:Pos} {wi:TI} {g:TG} {tt:TT} {te:TE}
end
section
variable {X:Cx} {scope:Scope} {M:List Str} {tg elt l:Expr} {ifs:List Expr} {pos:Pos} {tl:TE} {g:TG} {tt:TT} {te:TE}
end
end L2
namespace PySem.W
open PySem PySem.Spec PySem.Calls PyProof.Rows
section
variable {prog:Program} {w:World} {A:Around} {E:Value->Shared->Prop} {s:Shared} {K:Frag} {e C:Addr} {ox od:Obj}
end
structure XIs (K:Frag) (C:Addr):Prop where
 ga:findIn K (.ref C) "__getattribute__"=some (some (.builtin "BaseException.__getattribute__"))
 ha:findIn K (.ref C) "__getattr__"=some none
 sb:subIn K (.ref C) (.type "BaseException")=some true
 hd:hasDictIn K C=true
 cl:findIn K (.ref C) "__class__"=some (some (.builtin "object.__class__"))
 gs:specialIn K (.builtin "object.__class__") "__get__"=some (some (.builtin "getset_descriptor.__get__"))
 tk:takesIn K (.builtin "object.__class__")=some true
 mo:mroIn K C (.type "object")=some true
end PySem.W
namespace L2
open PySem PySem.Spec PyProof.Rows
end L2
namespace L2
open PySem PySem.Spec PyProof.Rows
section
variable {X:Cx}
end
end L2
namespace L2
open PySem PySem.Spec PyProof.Rows
def BG:Nat:=2 ^ 1000
set_option exponentiation.threshold 2000 in
theorem YG {i:Int} (h:i.natAbs < BG):i.natAbs.log2 < 1000\/i=0:=by
 by_cases z:i.natAbs=0
 ·exact .inr (Int.natAbs_eq_zero.mp z)
 ·exact .inl ((Nat.log2_lt z).mpr h)
theorem j8 {i:Int} (h:i.natAbs < BG):Builtin.Int.intBits i<=2 ^ 20:=by
 unfold Builtin.Int.intBits
 have e:(2:Nat) ^ 20=1048576:=by decide
 rcases YG h with l | l
 ·split <;> lia
 ·rw [if_pos (by rw [l]; rfl)]; lia
theorem jp {i j:Int} (h:j.natAbs < BG):Builtin.divisionGoesByPylong i j=false:=by
 refine PyProof.noPylong_of_log2 ?_
 rcases YG h with l | l
 ·lia
 ·rw [l]; decide
def za3 (i j:Int):Prop:=i.natAbs < BG/\j.natAbs < BG
def za4 (_ j:Int):Prop:=j≠0/\j.natAbs < BG
section
variable {X:Cx}
theorem JV:jOp X (binaryOp .Mult) (rI za3 fun i j=>.int (i * j)):=⟨opI fun _ _ _ _ _ _ _ hc q=>mul_int q (.of_bits (j8 hc.1) (j8 hc.2))⟩
theorem W8:jOp X (binaryOp .FloorDiv) (rI za4 fun i j=>.int (i.fdiv j)):=⟨opI fun _ _ _ _ _ _ _ hc q=>floordiv_int hc.1 q (.inl (jp hc.2))⟩
theorem JW:jOp X (binaryOp .Mod) (rI (fun _ j=>j≠0) fun i j=>.int (i.fmod j)):=⟨Je⟩
theorem JX:jCa X (.type "int") (fun xs H Q=>(∃ i,xs=[.int i]/\Q (.int i) H)\/∃ k,xs=[.bl k]/\Q (.int (if k then 1 else 0)) H):=⟨Xk⟩
theorem yW {st:Stmt}:jS X st (fun _ _ _=>False):=⟨fun _ _ _ _ _ _ h=>h.elim⟩
end
section
variable {X:Cx} {Ch:Addr} {x n z:Str} {i j k:Nat} {np hpos tpos pz spos:Pos} {b0:Stmt} {suite:List Stmt} {th:Addr->Obj->TS} {ps:List Str} {sp:Sp} {y:Str} {p cpos:Pos} {a:Expr} {as:List Expr} {t:TA}
end
end L2
namespace GN
open PySem L2 K11
theorem j9:∀ {zs:List Str},(∀ z∈zs,z.length=1)->(Str.join "" zs).length=zs.length
 | [],_=>rfl
 | [x],h=>h x uo
 | x :: y :: r,h=>by
  have ih:=j9 (zs:=y :: r) fun z hz=>h z (ut _ hz)
  rw [<- yN,yc,uf,uf,yN,yN,yN,ih,h x uo]
  show 1 + (0 + (y :: r).length)=(y :: r).length + 1
  lia
theorem W9 {zs:List Str} (h:∀ z∈zs,z.length=1):wide "" zs=zs.length:=by
 unfold wide
 have e:∀ {l:List Str},(∀ z∈l,z.length=1)->(l.map (·.length)).sum=l.length:=by
  intro l
  induction l with
  | nil=>intro _; rfl
  | cons a l ih=>intro h; rw [uP,List.sum_cons,ih fun z hz=>h z (ut _ hz),h a uo,uD]; lia
 rw [e h]
 rfl
theorem Va {s:List V} {m:Int} (h:0<=m):cutV s none (some m)=s.take m.toNat:=by
 unfold cutV
 have c1:HT.sIx s.length 0 none=0:=rfl
 have c2:HT.sIx s.length s.length (some m)=min m.toNat s.length:=by
  show (if m < 0 then (m + (s.length:Nat)).toNat else min m.toNat s.length)=_
  rw [if_neg (by lia)]
 rw [c1,c2,List.drop_zero,Nat.sub_zero]
 rcases Nat.le_total m.toNat s.length with c | c
 ·rw [Nat.min_eq_left c]
 ·rw [Nat.min_eq_right c,uE (ui _),uE c]
theorem t30:(10:Int) ^ (30:Int).toNat=1000000000000000000000000000000:=by decide
def Sm (i:Int):Prop:=-1000000000000000000000000000000 < i/\i < 1000000000000000000000000000000
inductive Th (H:Hp):Bool->V->Prop
 | int (i:Int):Th H true (.int i)
 | bl (b:Bool):Th H false (.bl b)
 | non:Th H false .non
 | str (x:Str):Th H false (.str x)
 | lst {p:Addr} {xs:List V}:H p=some (.lst xs)->Th H false (.ref p)
 | tup {p:Addr} {xs:List V}:H p=some (.tup xs)->Th H false (.ref p)
 | dK {p:Addr} {xs:List (Key × V)}:H p=some (.dK xs)->Th H false (.ref p)
theorem Th.keep {H H':Hp} {b:Bool} {v:V} (s:Same H H') (h:Th H b v):Th H' b v:=by
 cases h with
 | int i=>exact .int i
 | bl b=>exact .bl b
 | non=>exact .non
 | str x=>exact .str x
 | lst h=>exact .lst (s _ _ h)
 | tup h=>exact .tup (s _ _ h)
 | dK h=>exact .dK (s _ _ h)
def Za:Sp:=fun vs H Q _=>∃ (v:V) (b:Bool),vs=[v]/\Th H b v/\Q (.bl b) H
def spIn:Sp:=fun vs H Q _=>∃ i:Int,vs=[.int i]/\Q (.bl (decide (-1000000000000000000000000000000 < i/\i < 1000000000000000000000000000000))) H
section
variable {P:Program} {w:World} {K:ua} {mg:Str->Option Value} {base:Heap} {f:Addr} {fd:FuncData}
theorem scStem:FnScope ["_law_state","_law_letters","_law_stem_here"] ["_law_state"] (zp WN):=⟨rfl,rfl,rfl,by decide +kernel,rfl,by decide +kernel,by decide +kernel⟩
theorem zaj:(["_law_state","_law_letters","_law_stem_here","_law_k"]:List Str).Nodup:=by decide +kernel
theorem Vb:FnScope ["thing"] ["thing"] (zp xn):=⟨rfl,rfl,rfl,by decide +kernel,rfl,by decide +kernel,by decide +kernel⟩
theorem XH (F:Fun K "is_whole" "is_whole" xn f fd) (m_isinstance:mg "isinstance"=none) (m_int:mg "int"=none) (m_bool:mg "bool"=none):FnOk P w K mg base CX0 1 f fd ["thing"] Za:=by
 refine F.by Vb (fun vs H Q E h=>?_) (fun cdv A outer s H vs Q E hr h=>?_)
 ·obtain ⟨v,b,rfl,_⟩:=h
  rfl
 obtain ⟨v,b,rfl,hT,q⟩:=h
 refine ⟨_,
  (zk (zx (wJ (zG zY rfl m_isinstance uJ (ja_c (jv 0) (ja_c (yu (v:=.ty "int") rfl m_int U1 rfl) zg))) (wI (vV (zG zY rfl m_isinstance uJ (ja_c (jv 0) (ja_c (yu (v:=.ty "bool") rfl m_bool UJ rfl) zg)))))))),?_⟩
 cases hT with
 | int i=>exact ⟨_,rfl,_,_,_,_,rfl,.int _,rfl,_,rfl,iteT ⟨_,rfl,_,_,_,_,rfl,.int _,rfl,_,rfl,q⟩⟩
 | bl b=>exact ⟨_,rfl,_,_,_,_,rfl,.bl _,rfl,_,rfl,iteT ⟨_,rfl,_,_,_,_,rfl,.bl _,rfl,_,rfl,q⟩⟩
 | non=>exact ⟨_,rfl,_,_,_,_,rfl,.non,rfl,_,rfl,iteF q⟩
 | str x=>exact ⟨_,rfl,_,_,_,_,rfl,.str _,rfl,_,rfl,iteF q⟩
 | lst h=>exact ⟨_,rfl,_,_,_,_,rfl,.lst h,rfl,_,rfl,iteF q⟩
 | tup h=>exact ⟨_,rfl,_,_,_,_,rfl,.tup h,rfl,_,rfl,iteF q⟩
 | dK h=>exact ⟨_,rfl,_,_,_,_,rfl,.dK h,rfl,_,rfl,iteF q⟩
theorem scIn:FnScope ["number"] ["number"] (zp sIn):=⟨rfl,rfl,rfl,by decide +kernel,rfl,by decide +kernel,by decide +kernel⟩
theorem ok_in (F:Fun K "in_bounds" "in_bounds" sIn f fd):FnOk P w K mg base CX0 1 f fd ["number"] spIn:=by
 refine F.by scIn (fun vs H Q E h=>?_) (fun cdv A outer s H vs Q E hr h=>?_)
 ·obtain ⟨i,rfl,_⟩:=h
  rfl
 obtain ⟨i,rfl,q⟩:=h
 refine ⟨_,(zk (zx (jQ wm wm (xj (zF x8 zh zh)) (jv 0) (zF x8 zh zh)))),?_⟩
 refine ⟨_,_,rfl,rfl,⟨by decide,by decide,by decide⟩,_,rfl,_,rfl,_,_,rfl,rfl,?_⟩
 rw [t30]
 by_cases c:-1000000000000000000000000000000 < i
 ·refine ⟨_,rfl,itD c ?_⟩
  refine ⟨_,_,rfl,rfl,⟨by decide,by decide,by decide⟩,_,_,rfl,rfl,?_⟩
  rw [t30]
  have e:decide (-1000000000000000000000000000000 < i/\i < 1000000000000000000000000000000)=decide (i < 1000000000000000000000000000000):=by simp [c]
  rw [e] at q
  exact q
 ·refine ⟨_,rfl,itDN c ?_⟩
  have e:decide (-1000000000000000000000000000000 < i/\i < 1000000000000000000000000000000)=false:=by simp [c]
  rw [e] at q
  exact q
end
end GN
namespace L2
open PySem PySem.Spec PyProof.Rows
section
variable {X:Cx}
end
end L2
namespace L2
open PySem PySem.Spec PyProof.Rows
def Sme:Nat->Hp->V->V->Prop
 | 0,_,_,_=>False
 | n + 1,H,x,y=>(xc x=true/\x=y)\/∃ a b xs ys,x=.ref a/\y=.ref b/\((H a=some (.lst xs)/\H b=some (.lst ys))\/(H a=some (.tup xs)/\H b=some (.tup ys)))/\xs.length=ys.length/\∀ (i:Nat) u v,xs[i]?=some u->ys[i]?=some v->Sme n H u v
section
variable {X:Cx} {pins:List (Addr × Obj)} {σ:St} {H:Hp} {s:Shared}
theorem vF {A:Around} {n:Nat} {xs ys:List V} {us vs:List Value} (r:Vals xs us) (r':Vals ys vs) (go:∀ {x y:V} {u v:Value},Sme n H x y->RelV x u->RelV y v->SeqAt.EqAt A s u v true)
  (h:∀ (i:Nat) u v,xs[i]?=some u->ys[i]?=some v->Sme n H u v) (j:Nat) (h1:j < us.toArray.size) (h2:j < vs.toArray.size):SeqAt.EqAt A s us.toArray[j] vs.toArray[j] true:=by
 have l1:=r.length
 have l2:=r'.length
 simp at h1 h2
 have hx:xs[j]?=some (xs[j]'(by lia)):=ug _
 have hy:ys[j]?=some (ys[j]'(by lia)):=ug _
 obtain ⟨u,e1,rx⟩:=r.get hx
 obtain ⟨v,e2,ry⟩:=r'.get hy
 have g1:us.toArray[j]=u:=by
  have:=ud.mp e1
  simpa using this.2
 have g2:vs.toArray[j]=v:=by
  have:=ud.mp e2
  simpa using this.2
 rw [g1,g2]
 exact go (h j _ _ hx hy) rx ry
theorem Vc {A:Around} {n:Nat} {a b:Addr} {xs ys:List V} (hu:A.units < cLine) (I:Inv X pins σ H s) (hl:xs.length=ys.length) (hab:(H a=some (.lst xs)/\H b=some (.lst ys))\/(H a=some (.tup xs)/\H b=some (.tup ys)))
  (go:∀ {x y:V} {u v:Value},Sme n H x y->RelV x u->RelV y v->SeqAt.EqAt A.in1 s u v true) (h:∀ (i:Nat) u v,xs[i]?=some u->ys[i]?=some v->Sme n H u v):SeqAt.RcAt A s (.ref a) (.ref b) true:=by
 rcases hab with ⟨h1,h2⟩ | ⟨h1,h2⟩
 ·obtain ⟨i1,v1,m1,_⟩:=I.list (SqL.of h1)
  obtain ⟨i2,v2,m2,_⟩:=I.list (SqL.of h2)
  have n1:=v1.length
  have n2:=v2.length
  have main:=SeqAt.RcAt.lists (A:=A) (s:=s) (e:=fun _=>true) m1.isList m2.isList (by simp; lia) hu (fun j x y=>vF v1 v2 go h j x y)
  rw [show ((UR i1.toArray.size).all fun _=>true)=true from UB.mpr fun _ _=>rfl] at main
  exact main
 ·obtain ⟨i1,v1,m1,_⟩:=I.tuple (SqT.of h1)
  obtain ⟨i2,v2,m2,_⟩:=I.tuple (SqT.of h2)
  have n1:=v1.length
  have n2:=v2.length
  have main:=SeqAt.RcAt.tuples (A:=A) (s:=s) (e:=fun _=>true) m1 m2 hu (fun j x y=>vF v1 v2 go h j x y)
  have eb:((UR (min i1.toArray.size i2.toArray.size)).all (fun _=>true) && i1.toArray.size == i2.toArray.size)=true:=by
   rw [show (UR (min i1.toArray.size i2.toArray.size)).all (fun _=>true)=true from UB.mpr fun _ _=>rfl]
   simp
   lia
  rw [eb] at main
  exact main
theorem Vd (I:Inv X pins σ H s):∀ (n:Nat) {A:Around} (hu:A.units + n < cLine) {x y:V} {u v:Value},Sme n H x y->RelV x u->RelV y v->SeqAt.EqAt A s u v true
 | 0,_,_,_,_,_,_,h,_,_=>h.elim
 | n + 1,A,hu,x,y,u,v,h,rx,ry=>by
  rcases h with ⟨f,rfl⟩ | ⟨a,b,xs,ys,rfl,rfl,hab,hl,h⟩
  ·have k:=Wh (A:=A) (s:=s) rx ry f f
   rw [WG f] at k
   exact k
  ·cases rx
   cases ry
   by_cases c:a=b
   ·subst c
    exact .same _
   ·exact .of_refs c (Vc (by lia) I hl hab (fun {x y u v}=>Vd I n (A:=A.in1) (by show A.units + 1 + n < cLine; lia)) h)
def rSme (n:Nat) (b:Bool):R2:=fun x y H Q=>∃ p p',x=.ref p/\y=.ref p'/\Sme n H x y/\Q (.bl b) H
theorem zak {n:Nat} (hn:n<=32) (hu:X.A.units + 64 < cLine):OpR X (compareOp .Eq) (rSme n true):=by
 intro pins s σ H x y v u Q I rx ry h
 obtain ⟨p,p',rfl,rfl,h,q⟩:=h
 cases rx
 cases ry
 match n,h with
 | n + 1,h =>
  rcases h with ⟨f,_⟩ | ⟨a,b,xs,ys,e1,e2,hab,hl,h⟩
  ·cases f
  ·cases e1
   cases e2
   exact Vc (A:=X.A) (by lia) I hl hab (fun {x y u v}=>Vd I n (A:=X.A.in1) (by show X.A.units + 1 + n < cLine; lia)) h _ _ _ _ ⟨.bl true,H,I,rfl,q⟩
theorem Ve {k n:Nat} (hn:n<=32) (hr:Room k X.A):jOp X (compareOp .Eq) (rSme n true):=⟨zak hn hr.units⟩
end
end L2
namespace PySem.SeqAt
open PySem PySem.Spec PyProof.Rows
end PySem.SeqAt
namespace L2
open PySem PySem.Spec PyProof.Rows
section
variable {X:Cx}
end
end L2
namespace L2
open PySem PySem.Spec PyProof.Rows
section
variable {X:Cx}
end
end L2
namespace L2
open PySem PySem.Spec PyProof.Rows
section
variable {prog:Program} {w:World} {A:Around} {E:Value->Shared->Prop}
end
inductive TyN (H:Hp):V->Bool->Prop where
 | int (i:Int):TyN H (.int i) false
 | str (z:Str):TyN H (.str z) false
 | bl (b:Bool):TyN H (.bl b) false
 | non:TyN H .non false
 | lst {a:Addr} {xs:List V} (e:H a=some (.lst xs)):TyN H (.ref a) true
 | tup {a:Addr} {xs:List V} (e:H a=some (.tup xs)):TyN H (.ref a) true
section
variable {X:Cx}
variable {CX:CXT} {k:Nat} {C:Addr} {ps:List Str} {sp:Sp} {E:XK} {x m:Str} {p pos apos:Pos} {e o:Expr} {es:List Expr} {ta:TE} {t:TA}
theorem Zb {e:Expr}:jE X e (fun _ _ _=>False):=⟨fun _ _ _ _ _ _ h=>h.elim⟩
theorem zX {o i:Expr} {td ty:TE} {pos:Pos} (hr:Room k X.A) (ho:jE X o td) (hi:jE X i ty) (hs:NoSl i:=by intro _ _; rfl):jE X (.Subscript o i pos) (q5 td ty):=⟨JL (qT hr) ho.out hi.out hs⟩
end
section
variable {g:TG} {tt:TT} {te:TE} {Q:VK} {σ:St} {H:Hp}
end
end L2
namespace L2
open PySem PySem.Spec PyProof.Rows
section
variable {X:Cx} {k:Nat} {o e f i:Expr} {td ty tx:TE} {apos cpos pos:Pos}
theorem vG (hr:Room k X.A) (hi:jE X i ty) (ho:jE X o td) (h1:behindInMarks .NotIn o=false:=by rfl):jT X (.Compare i [.NotIn] [o] pos) (tB (YB ty td)):=⟨XY (Xx (qT hr) hi.out ho.out) (h1:=h1)⟩
end
end L2
namespace L2
open PySem PySem.Spec PyProof.Rows
section
variable {prog:Program} {w:World} {A:Around} {E:Value->Shared->Prop} {h:Heap} {g:Array GenState} {d:Drawn} {t:Nat} {os:OsState}
variable {nm q:Str} {C N:Addr} {bs bm bmB:List Value} {hdct:Bool} {sn:List Str} {sub:List Value} {ab:Bool} {col:Option Bool} {dd:Option Addr} {k0 k1 k2 k3 k5:Option Value} {B Bn newId nid initId inN:String} {bmN:List Value}
abbrev YH (h:Heap) (C:Addr):Heap:=(((h.push (yB [])).push (yC C h.objs.size)).push (yB [])).update (h.objs.size + 1) (Obj.mapFields (·.setIfInBounds 0 (.ref ((h.push (yB [])).push (yC C h.objs.size)).objs.size)))
theorem jq (Fn:ExcBaseFacts Bn newId inN bmN) (hBn:bmB.contains (.type Bn)=true) (F:ExcBaseFacts B nid initId bmB) (T:OwnTail h bmB bm) {mN:Str->Option Value} {Q:Fin->Shared->Prop}
  (hC:h.get? C=some (excClassObj nm q C N bs bm hdct sn sub ab col dd k0 k1 k2 k3 k5 newId)) (hn:h.Ns N mN) (hi:mN "__init__"=none)
  (hq:Q (.done (.ret (.ref (h.objs.size + 1)))) ⟨YH h C,g,d,t,os⟩) :
  wpAny (model prog w) A (Builtin.«type.__call__» ⟨[.ref C],[]⟩) Q E ⟨h,g,d,t,os⟩:=by
 repeat (first | with_reducible refine wpAny_madeBy_exc hC ?_ | with_reducible refine wpAny_loadPart_at hC ?_ | wp_step)
 refine codeAny_call_builtin_code (Code.quiet_builtin _ Fn.quiet) (wpAny_check_new_subU Fn hBn T hC (codeAny_exc_new_subU Fn hBn F T hC ?_ (u6 _)))
 show wpAny _ _ _ _ _ _
 have k:∀ b o,h.get? b=some o->((h.push (yB [])).push (yC C h.objs.size)).get? b=some o:=fun b o e=>uc _ (uc _ e)
 have C1:=k _ _ hC
 have e1:((h.push (yB [])).push (yC C h.objs.size)).get? (h.objs.size + 1)=some (yC C h.objs.size):=Heap.get?_push_at (by simp only [Ui]) rfl
 have cC:(Value.ref C :: bm).contains (.ref C)=true:=by simp
 unfold isInstance
 repeat (first | with_reducible refine wpAny_loadPart_at e1 ?_ | (with_reducible refine wpAny_isSubtype_exc C1 ?_; rw [cC]) | wp_step)
 show wpAny _ _ (typeLookup (.ref C) _) _ _ _
 refine wpAny_typeLookup_tail C1 (hn.keeps k) (T.keeps k) F.mroIs F.init.lookup ?_
 rw [hi]
 refine wpAny_holding (wpAny_bind (wpAny_of_eq (F.init.bind _) ?_))
 refine wpAny_bind (Ys F (T.keeps k) C1 e1 rfl rfl rfl (u6 _) ?_)
 exact wpAny_pure (wpAny_pure hq)
theorem Vf (Fn:ExcBaseFacts Bn newId inN bmN) (hBn:bmB.contains (.type Bn)=true) (F:ExcBaseFacts B nid initId bmB) (T:OwnTail h bmB bm) {mN:Str->Option Value} {Q:Value->Shared->Prop}
  (hC:h.get? C=some (excClassObj nm q C N bs bm hdct sn sub ab col dd k0 k1 k2 k3 k5 newId)) (hn:h.Ns N mN) (hi:mN "__init__"=none)
  (hq:Q (.ref (h.objs.size + 1)) ⟨YH h C,g,d,t,os⟩):wpAny (model prog w) A (call (.ref C) []) Q E ⟨h,g,d,t,os⟩:=by
 have f1:=tc_lookup
 have f2:=tc_bind (.ref C)
 have hT:(⟨h,g,d,t,os⟩:Shared).TypeIs (.ref C) "type":=⟨_,hC,rfl⟩
 refine wpAny_call (codeAny_of_tree ?_)
 show wpAny _ _ (callAny (.ref C) ⟨[],[]⟩) _ _ _
 repeat (any_goals (first | assumption | (with_reducible refine wpAny_loadPart_at hC ?_) | wp_step))
 refine ⟨rfl,codeAny_call_builtin_at (Code.quiet_builtin _ (by decide +kernel)) entry_typeCall (wpAny_check_type_call_sub hC ?_)⟩
 exact jq Fn hBn F T hC hn hi hq
end
theorem JY {K:ua} {h:Heap} {N:Addr} {mg:Str->Option Value} {n:Str} (X:K.In h) (G:h.Ns N mg) (e:uY K N n=some none):mg n=none:=by
 obtain ⟨o,es,ep,ho,hd,_,hf⟩:=G
 unfold uY at e
 split at e
 ·rename_i c d es' n' sl q
  have:=X _ _ q
  rw [ho] at this
  cases this
  cases hd
  split at e
  ·cases e
  ·rename_i he
   rw [<- hf]
   unfold nsFind findBy
   rw [<- Array.find?_toList,he]
   rfl
 ·cases e
def xIn0 (K:ua) (C:Addr):Bool:=match K.lookup C with
 | some ⟨.type "type",_,.cls cd,sl⟩=>(match cd.mro,sl.toList with
  | .ref C' :: bm,[_,_,_,_,some (.builtin n),_]=>C' == C && n == "ValueError.__new__" && !cd.hasDel && PySem.W.tailIn K bmV bm && PySem.W.nsOkIn K cd.ns && uY K cd.ns "__init__" == some none && bm.contains (.type "BaseException")
  | _,_=>false)
 | _=>false
structure XCl0 (K:ua) (C:Addr):Prop where
 cls:xIn0 K C=true
 kp:uU K (.ref C)=true
theorem XCl0.at {K:ua} {C:Addr} (c:XCl0 K C) {h:Heap} (X:K.In h):∃ nm q N bs bm hdct sn sub ab col dd k0 k1 k2 k3 k5 mN,h.get? C=some (excClassObj nm q C N bs bm hdct sn sub ab col dd k0 k1 k2 k3 k5 "ValueError.__new__") /\
  OwnTail h bmV bm/\h.Ns N mN/\mN "__init__"=none/\bm.contains (.type "BaseException")=true:=by
 have q:=c.cls
 unfold xIn0 at q
 split at q
 ·rename_i dd cd sl ho
  split at q
  ·rename_i C' bm k0 k1 k2 k3 n k5 hm hs
   simp only [UU,beq_iff_eq,Bool.not_eq_true'] at q
   obtain ⟨⟨⟨⟨⟨⟨rfl,rfl⟩,hdel⟩,ht⟩,hok⟩,hi⟩,hb⟩:=q
   obtain ⟨nm,bs,mro,ns,qn,hd,sn,sub,ab,col,del⟩:=cd
   dsimp only at hm hdel hok hi
   subst hm hdel
   have es:sl=#[k0,k1,k2,k3,some (.builtin "ValueError.__new__"),k5]:=by
    obtain ⟨l⟩:=sl
    simp only at hs
    rw [hs]
   subst es
   have nN:=PySem.Heap.Ns.of_isNs (PySem.W.isNs_of_in X hok)
   exact ⟨nm,qn,ns,bs,bm,hd,sn,sub,ab,col,dd,k0,k1,k2,k3,k5,_,X _ _ ho,PySem.W.tail_of_in X ht,nN,JY X nN hi,hb⟩
  ·cases q
 ·cases q
def YI (C:Addr) (E:XK):TS:=fun _ _ H=>E (.ref C) none H
section
variable {X:Cx} {k:Nat} {C:Addr} {E:XK} {x:Str} {np cpos pos:Pos}
theorem XI (M:XCl0 X.K C) (hr:Room k X.A) (hg:Gl X x) (hm:X.mg x=some (.ref C)) (hx:wR X E) (hdb:(x == ("__debug__":Str))=false:=by decide) :
  PS X (.Raise (some (.Call (.Name x np) [] [] cpos)) none pos) (YI C E):=by
 intro pins s σ H D I h
 obtain ⟨nm,q,N,bs,bm,hdct,sn,sub,ab,col,dd,k0,k1,k2,k3,k5,mN,hC0,T0,n0,i0,hB⟩:=M.at I.mod.kin
 rw [arm_exec_Raise]
 simp only [evalOpt,Option.map]
 refine wpAny_bind (wpAny_standAt (Yr (C:=C) (nm:=nm) (q:=q) (N:=N) (bs:=bs) (hdct:=hdct) (sn:=sn) (sub:=sub) (ab:=ab) (col:=col) (dd:=dd) (k0:=k0) (k1:=k1) (k2:=k2) (k3:=k3) (k5:=k5) (newId:="ValueError.__new__") hB hr.hd (wpAny_bind ?_)))
 refine wpAny_Call_Name_kw (xt I hg hm ?_ hdb)
 refine PySem.W.callWith_K0 I.kIn M.kp ?_
 obtain ⟨hh,g,d,tk,os⟩:=s
 have kb:∀ b o,X.base.get? b=some o->hh.get? b=some o:=I.bk
 refine Vf Uw (by decide +kernel) Uw (T0.keeps kb) (kb _ _ hC0) (n0.keeps kb) i0 ?_
 have e1:(((hh.push (yB [])).push (yC C hh.objs.size)).push (yB [])).get? (hh.objs.size + 1)=some (yC C hh.objs.size):=uc _ (Heap.get?_push_at (by simp only [Ui]) rfl)
 have ge:=u0 (Obj.mapFields (·.setIfInBounds 0 (.ref ((hh.push (yB [])).push (yC C hh.objs.size)).objs.size))) e1 rfl
 have kk:∀ b o,hh.get? b=some o->(YH hh C).get? b=some o:=fun b o e=>by
  rw [uI _ _ (UI (Nat.lt_succ_of_lt (um e)))]
  exact uc _ (uc _ (uc _ e))
 have I2:Inv X pins σ H ⟨YH hh C,g,d,tk,os⟩:=I.un (Un.kept kk) (I.hok.kept kk)
 have he:hh.objs.size<=hh.objs.size + 1:=Nat.le_succ _
 refine wpAny_bind (wpAny_standAt (wpAny_pure ⟨_,_,_,rfl,I2.bk _ _ hC0,ge,rfl,rfl,rfl,hx pins σ _ _ ⟨_,.ref C,none,H,hh.objs.size,rfl,I2,I.hok.fresh he,I.sz,he,fun p hp=>um (I.pin p hp).1,.inl ⟨_,_,ge,rfl,rfl,rfl,rfl,rfl⟩,h⟩⟩))
theorem xA (M:XCl0 X.K C) (hr:Room k X.A) (hg:Gl X x) (hm:X.mg x=some (.ref C)) (hx:wR X E) (hdb:(x == ("__debug__":Str))=false:=by decide) :
  jS X (.Raise (some (.Call (.Name x np) [] [] cpos)) none pos) (YI C E):=⟨XI M hr hg hm hx hdb⟩
end
end L2
namespace L2
open PySem
section
variable {X:Cx} {T id:String} {name:Str} {rm:V->List V->Hp->VK->Prop} {o e:Expr} {es:List Expr} {to:TE} {t:TA} {apos cpos:Pos}
theorem JZ (K:ua) (pa:PlainAttrs T) (slot:Slot T name id) (hty:typeOf (.builtin id)=pure (.type "method_descriptor")) (hm:jMt X id rm) (ho:jE X o to) (h:X.K=K:=by rfl)
  (hbase:attributeBase o name X.env (eval o X.env)=eval o X.env:=by rfl) (hline:(apos.endLine == cpos.line)=true:=by rfl):jE X (.Call (.Attribute o name apos) [] [] cpos) (tBM0 K T rm to):=h ▸ ZH pa slot hty hm ho hbase hline
end
end L2
namespace GN
open PySem L2 K11
abbrev Kvs:=List (Key × V)
def szOf (kvs:Kvs) (t:Str):Option Nat:=match valV kvs (.inr t) with
 | some (.int n)=>some n.toNat
 | _=>none
def dl (kvs:Kvs):V->Option Nat
 | .int i=>if -1000000000000000000000000000000 < i/\i < 1000000000000000000000000000000 then some 0 else none
 | .str t=>szOf kvs t
 | _=>none
def hgt (kvs:Kvs):List V->Option Nat
 | []=>some 0
 | x :: xs=>match hgt kvs xs,dl kvs x with
  | some n,some s=>if s<=n then some (n - s + 1) else none
  | _,_=>none
structure Rm (kvs:Kvs):Prop where
 e:∀ kv∈kvs,∃ (t:Str) (n:Nat),kv=(.inr t,.int (n:Int))/\n<=9
 l:kvs.length<=100
inductive Pz (kvs:Kvs) (H:Hp):List V->List V->Prop
 | nil:Pz kvs H [] []
 | num {i:Int} {vs xs:List V}:Sm i->Pz kvs H vs xs->Pz kvs H (.int i :: vs) (.int i :: xs)
 | shp {p q:Addr} {t:Str} {us vs xs ys:List V}:H p=some (.tup [.str t,.ref q])->H q=some (.tup us)->szOf kvs t=some us.length->us.length<=9->Pz kvs H us xs->Pz kvs H vs ys->Pz kvs H (.ref p :: vs) (.str t :: (xs ++ ys))
section
variable {kvs:Kvs} {H H':Hp} {us vs xs ys:List V}
theorem Pz.keep (t:Tups H H') (h:Pz kvs H vs xs):Pz kvs H' vs xs:=by
 induction h with
 | nil=>exact .nil
 | num a _ ih=>exact .num a ih
 | shp a b c d _ _ ih1 ih2=>exact .shp (t _ _ a) (t _ _ b) c d ih1 ih2
theorem Pz.pt (h:Pz kvs H vs xs):PtL H vs xs:=by
 induction h with
 | nil=>exact .nil
 | num _ _ ih=>exact .num ih
 | shp a b _ d _ _ ih1 ih2=>exact .shp a b d ih1 ih2
theorem Pz.app (h:Pz kvs H us xs) (g:Pz kvs H vs ys):Pz kvs H (us ++ vs) (xs ++ ys):=by
 induction h with
 | nil=>exact g
 | num a _ ih=>exact .num a ih
 | shp a b c d e _ _ ih2 =>
  rw [Uc,Uc,uG]
  exact .shp a b c d e ih2
theorem Pz.split:∀ {us vs zs:List V},Pz kvs H (us ++ vs) zs->∃ xs ys,zs=xs ++ ys/\Pz kvs H us xs/\Pz kvs H vs ys
 | [],vs,zs,h=>⟨[],zs,rfl,.nil,h⟩
 | u :: us,vs,zs,h=>by
  rw [Uc] at h
  cases h with
  | num a h =>
   obtain ⟨xs,ys,e,h1,h2⟩:=Pz.split h
   exact ⟨_ :: xs,ys,by rw [e]; rfl,.num a h1,h2⟩
  | shp a b c d e h =>
   obtain ⟨xs,ys,e',h1,h2⟩:=Pz.split h
   exact ⟨_ :: (_ ++ xs),ys,by rw [e',Uc,uG],.shp a b c d e h1,h2⟩
end
end GN
namespace GN
open PySem L2 K11
def But (v:Addr) (H H':Hp):Prop:=∀ b o,b≠v->H b=some o->H' b=some o
theorem But.refl {v:Addr} {H:Hp}:But v H H:=fun _ _ _ h=>h
theorem But.of {v:Addr} {H H':Hp} (s:Same H H'):But v H H':=fun b o _ h=>s b o h
theorem But.trans {v:Addr} {H H1 H2:Hp} (a:But v H H1) (b:But v H1 H2):But v H H2:=fun c o n h=>b c o n (a c o n h)
theorem But.put {v:Addr} {H:Hp} {o:HO}:But v H (upd H v o):=fun b o' n h=>by rw [zm n]; exact h
theorem But.tups {v:Addr} {H H':Hp} {xs:List V} (h:But v H H') (g:H v=some (.lst xs)):Tups H H':=fun p ys q=>h p _ (z9 q g (by intro z; cases z)) q
theorem But.fresh {v:Addr} {H H1 H2:Hp} (s:Same H H1) (n:H v=none) (h:But v H1 H2):Same H H2:=fun b o q=>h b o (zo q n) (s b o q)
def KnR (H:Hp) (q:Addr) (l:List (Str × Nat)):Prop:=∃ ts:List Addr,H q=some (.tup (ts.map V.ref))/\ts.length=l.length/\∀ (i:Nat) t a,ts[i]?=some t->l[i]?=some a->H t=some (.tup [.str a.1,.int (a.2:Int)])
def Kn (H:Hp) (p:Addr) (ks:List (List (Str × Nat))):Prop:=∃ qs:List Addr,H p=some (.tup (qs.map V.ref))/\qs.length=ks.length/\∀ (i:Nat) q l,qs[i]?=some q->ks[i]?=some l->KnR H q l
theorem KnR.keep {H H':Hp} {q:Addr} {l:List (Str × Nat)} (t:Tups H H') (h:KnR H q l):KnR H' q l:=let ⟨ts,a,b,c⟩:=h; ⟨ts,t _ _ a,b,fun i x y h1 h2=>t _ _ (c i x y h1 h2)⟩
theorem Kn.keep {H H':Hp} {p:Addr} {ks:List (List (Str × Nat))} (t:Tups H H') (h:Kn H p ks):Kn H' p ks:=let ⟨qs,a,b,c⟩:=h; ⟨qs,t _ _ a,b,fun i x y h1 h2=>(c i x y h1 h2).keep t⟩
structure KsOk (ks:List (List (Str × Nat))):Prop where
 n:ks.flatten.length<=100
 s:∀ a∈ks.flatten,a.2<=9
def puts (l:List (Str × Nat)) (kvs:Kvs):Kvs:=l.foldl (fun kvs a=>putK kvs (.inr a.1) (.int (a.2:Int))) kvs
theorem Vg (a b:List (Str × Nat)) (kvs:Kvs):puts (a ++ b) kvs=puts b (puts a kvs):=List.foldl_append
structure Rm' (kvs:Kvs) (n:Nat):Prop where
 e:∀ kv∈kvs,∃ (t:Str) (n:Nat),kv=(.inr t,.int (n:Int))/\n<=9
 l:kvs.length<=n
theorem zal {kvs:Kvs} {n:Nat} {a:Str × Nat} (h:Rm' kvs n) (ha:a.2<=9):Rm' (putK kvs (.inr a.1) (.int (a.2:Int))) (n + 1):=by
 unfold putK
 split
 ·refine ⟨fun kv hkv=>?_,by rw [ub]; have:=h.l; lia⟩
  obtain ⟨x,hx,e⟩:=Ua.mp hkv
  obtain ⟨t,m,ex,hm⟩:=h.e x hx
  split at e
  ·rename_i c
   rw [<- e,c]
   exact ⟨_,_,rfl,ha⟩
  ·rw [<- e]
   exact ⟨t,m,ex,hm⟩
 ·refine ⟨fun kv hkv=>?_,by rw [uf]; have:=h.l; show _ + 1<=_; lia⟩
  rcases uN.mp hkv with z | z
  ·exact h.e kv z
  ·rw [uh.mp z]
   exact ⟨_,_,rfl,ha⟩
theorem YJ:∀ {l:List (Str × Nat)} {kvs:Kvs} {n:Nat},Rm' kvs n->(∀ a∈l,a.2<=9)->Rm' (puts l kvs) (n + l.length)
 | [],_,_,h,_=>h
 | a :: l,kvs,n,h,hs=>by
  have:=YJ (l:=l) (zal h (hs a uo)) fun x hx=>hs x (ut _ hx)
  rw [uD,show n + (l.length + 1)=n + 1 + l.length by lia]
  exact this
theorem KsOk.rm {ks:List (List (Str × Nat))} (h:KsOk ks):Rm (puts ks.flatten []):=by
 have r:=YJ (l:=ks.flatten) (kvs:=[]) (n:=0) ⟨(fun kv hk=>by cases hk),ui _⟩ h.s
 exact ⟨r.e,by have:=r.l; have:=h.n; lia⟩
theorem x9 {α:Type} {l:List α} {i:Nat} {x:α} (h:l[i]?=some x):l.take i ++ [x]=l.take (i + 1):=by
 rw [Ux,h]
 rfl
theorem YK {ks:List (List (Str × Nat))} {i:Nat} {k:List (Str × Nat)} (h:ks[i]?=some k):(ks.take (i + 1)).flatten=(ks.take i).flatten ++ k:=by
 rw [<- x9 h,List.flatten_append]
 simp
theorem zam {ks:List (List (Str × Nat))} {i:Nat} {k:List (Str × Nat)} (h:ks[i]?=some k):(ks.take i).flatten.length + k.length<=ks.flatten.length:=by
 have e:ks.flatten=(ks.take (i + 1)).flatten ++ (ks.drop (i + 1)).flatten:=by rw [<- List.flatten_append,UA]
 rw [e,uf,YK h,uf]
 lia
theorem Zc:∀ {l:List (Str × Nat)} {kvs:Kvs},(puts l kvs).length<=kvs.length + l.length
 | [],_=>ui _
 | a :: l,kvs=>by
  have:=Zc (l:=l) (kvs:=putK kvs (.inr a.1) (.int (a.2:Int)))
  have h2:(putK kvs (.inr a.1) (.int (a.2:Int))).length<=kvs.length + 1:=by
   unfold putK
   split
   ·rw [ub]; lia
   ·rw [uf]; exact ui _
  show (puts l (putK kvs (.inr a.1) (.int (a.2:Int)))).length<=_
  rw [uD]
  lia
theorem Rm.sz {kvs:Kvs} (h:Rm kvs) {t:Str}:(valV kvs (.inr t)=none/\szOf kvs t=none)\/∃ n:Nat,valV kvs (.inr t)=some (.int (n:Int))/\szOf kvs t=some n/\n<=9:=by
 unfold szOf
 cases e:valV kvs (.inr t) with
 | none=>exact .inl ⟨rfl,rfl⟩
 | some v =>
  unfold valV at e
  obtain ⟨kv,hk,ev⟩:=uk.mp e
  obtain ⟨t',n,e1,e2⟩:=h.e kv (uH hk)
  rw [e1] at ev
  subst ev
  exact .inr ⟨n,rfl,rfl,e2⟩
theorem Zd {kvs:Kvs}:∀ {a b:List V},hgt kvs b=none->hgt kvs (a ++ b)=none
 | [],_,h=>h
 | x :: a,b,h=>by
  have ih:=Zd (a:=a) h
  show (match hgt kvs (a ++ b),dl kvs x with | some n,some s=>if s<=n then some (n - s + 1) else none | _,_=>none)=none
  rw [ih]
def YL:Sp:=fun vs H Q _=>∃ (p:Addr) (ks:List (List (Str × Nat))),vs=[.ref p]/\Kn H p ks/\KsOk ks/\∀ (H':Hp) (d:Addr),Same H H'->H d=none->H' d=some (.dK (puts ks.flatten []))->Q (.ref d) H'
def YM (C:Addr):Sp:=fun vs H Q E=>∃ (t:Str) (d vl:Addr) (kvs:Kvs) (vals:List V),vs=[.str t,.ref d,.ref vl]/\H d=some (.dK kvs)/\Rm kvs/\H vl=some (.lst vals)/\vals.length<=300 /\
 (((szOf kvs t=none\/∃ s,szOf kvs t=some s/\vals.length < s)/\E (.ref C) none H) \/
   ∃ (s:Nat) (us rest:List V),szOf kvs t=some s/\vals=rest.reverse ++ us.reverse/\us.length=s/\∀ H' p q,But vl H H'->H' vl=some (.lst rest.reverse)->H' p=some (.tup [.str t,.ref q])->H' q=some (.tup us)->Q (.ref p) H')
def NotL (H:Hp) (v:V):Prop:=v=.non\/(∃ i,v=.int i)\/(∃ z,v=.str z)\/(∃ p xs,v=.ref p/\H p=some (.tup xs)/\∀ x∈xs,At x)\/∃ p,v=.ref p/\H p=some (.dK [])
def YN (C:Addr):Sp:=fun vs H Q E=>∃ (pk:Addr) (v:V) (ks:List (List (Str × Nat))),vs=[.ref pk,v]/\Kn H pk ks/\KsOk ks /\
 ((NotL H v/\E (.ref C) none H)\/∃ l xs,v=.ref l/\H l=some (.lst xs)/\xs.length<=300/\(∀ x∈xs,∃ b,Th H b x)/\(hgt (puts ks.flatten []) xs≠some 1->∀ H',Same H H'->E (.ref C) none H')/\(hgt (puts ks.flatten []) xs=some 1->∀ H' v,Same H H'->Pz (puts ks.flatten []) H' [v] xs->Q v H'))
section
variable {P:Program} {w:World} {K:ua} {mg:Str->Option Value} {base:Heap} {f C:Addr} {fd:FuncData}
theorem scSizes:FnScope ["kinds","found","kind","tag","size"] ["kinds"] (zp ZR):=⟨rfl,rfl,rfl,by decide +kernel,rfl,by decide +kernel,by decide +kernel⟩
theorem Vh (F:Fun K "sizes" "sizes" ZR f fd):FnOk P w K mg base CX0 1 f fd ["kinds"] YL:=by
 refine F.by scSizes (fun vs H Q E h=>?_) (fun cdv A outer s H vs Q E hr h=>?_)
 ·obtain ⟨p,ks,rfl,_⟩:=h
  rfl
 obtain ⟨p,ks,rfl,⟨qs,hp,hlen,hK⟩,hF,q⟩:=h
 refine ⟨_,
  (zi (zv (i:=1) scSizes.nd rfl (Or.inl rfl) xU)
  (zi (yE PassesOwn.never rfl (xJ (jv 0)) (zD (i:=2) scSizes.nd rfl (Or.inl rfl))
   (zk (yE PassesOwn.never rfl (xJ (jv 2)) (xI rfl (zO (zD (i:=3) scSizes.nd rfl (Or.inl rfl)) (zO (zD (i:=4) scSizes.nd rfl (Or.inl rfl)) yI)))
    (zk (y8 hr (jv 1) (jv 3) (jv 4))))))
  (zk (zx (jv 1))))),?_⟩
 have sl:=zQ
 intro d hd
 have s1:=same_new (o:=.dK []) hd
 refine ⟨_,rfl,_,rfl,⟨_,SqT.of (s1 _ _ hp)⟩,wu (xs:=qs.map V.ref) (fun i σ H'=>Same H H'/\H' d=some (.dK (puts (ks.take i).flatten []))/\∃ x y z,σ=[some (.ref p),some (.ref d),x,y,z]) ⟨s1,zf,none,none,none,rfl⟩ (fun i σ H' _ h=>SqT.of (h.1 _ _ hp)) ?_ ?_⟩
 ·rintro i v σ H1 hv ⟨s1,hd1,x,y,z,rfl⟩
  rw [uj] at hv
  obtain ⟨qq,hq,rfl⟩:=uk.mp hv
  have hi:i < qs.length:=(ud.mp hq).1
  have hk:ks[i]?=some (ks[i]'(by lia)):=ug _
  obtain ⟨k,ek⟩:∃ k,k=ks[i]'(by lia):=⟨_,rfl⟩
  rw [<- ek] at hk
  obtain ⟨ts,hts,htl,hT⟩:=hK i qq k hq hk
  have hl:=zam hk
  have hkl:=hF.n
  refine ⟨_,rfl,_,rfl,⟨_,SqT.of (s1 _ _ hts)⟩,wu (xs:=ts.map V.ref) (fun j σ H'=>Same H H'/\H' d=some (.dK (puts ((ks.take i).flatten ++ k.take j) []))/\∃ y z,σ=[some (.ref p),some (.ref d),some (.ref qq),y,z]) ⟨s1,by rw [List.take_zero,uO]; exact hd1,_,_,rfl⟩ (fun i σ H' _ h=>SqT.of (h.1 _ _ hts)) ?_ ?_⟩
  ·rintro j v σ H2 hv ⟨s2,hd2,y,z,rfl⟩
   rw [uj] at hv
   obtain ⟨tt,ht,rfl⟩:=uk.mp hv
   have hj:j < ts.length:=(ud.mp ht).1
   have ha:k[j]?=some (k[j]'(by lia)):=ug _
   obtain ⟨a,ea⟩:∃ a,a=k[j]'(by lia):=⟨_,rfl⟩
   rw [<- ea] at ha
   have e2:=hT j tt a ht ha
   refine ⟨_,_,rfl,SqT.of (s2 _ _ e2),rfl,_,_,rfl,_,_,rfl,rfl,_,rfl,_,rfl,_,rfl,d,_,rfl,DPut.k (k:=.inr a.1) hd2 ?_,s2.put hd,?_,_,_,rfl⟩
   ·have:=Zc (l:=(ks.take i).flatten ++ k.take j) (kvs:=[])
    rw [uf,uR] at this
    simp only [List.length_nil] at this
    lia
   ·rw [zf,<- x9 ha,<- uG,Vg _ [a]]
    rfl
  ·rintro σ H2 ⟨s2,hd2,y,z,rfl⟩
   rw [ub,htl,uE (ui _),<- YK hk] at hd2
   exact ⟨s2,hd2,_,_,_,rfl⟩
 ·rintro σ H1 ⟨s1,hd1,x,y,z,rfl⟩
  rw [ub,hlen,uE (ui _)] at hd1
  exact ⟨_,rfl,q _ d s1 hd hd1⟩
theorem scShape:FnScope ["tag","known_sizes","values","parts"] ["tag","known_sizes","values"] (zp ZU):=⟨rfl,rfl,rfl,by decide +kernel,rfl,by decide +kernel,by decide +kernel⟩
theorem J0:(["tag","known_sizes","values","parts","place"]:List Str).Nodup:=by decide +kernel
theorem Vi (F:Fun K "shape" "shape" ZU f fd) (mC:mg "NoValue"=some (.ref C)) (xC:XCl0 K C) (m_len:mg "len"=none) (m_range:mg "range"=none) (m_tuple:mg "tuple"=none):FnOk P w K mg base (CXf P w) 1 f fd ["tag","known_sizes","values"] (YM C):=by
 refine F.byx scShape (fun vs H Q E h=>?_) (fun cdv A outer s H vs Q E hr h=>?_)
 ·obtain ⟨t,d,vl,kvs,vals,rfl,_⟩:=h
  rfl
 obtain ⟨t,d,vl,kvs,vals,rfl,hd,hRm,hvl,hle,hq⟩:=h
 refine ⟨_,
  (zi (zH (jW.pt (wk (vG hr (jv 0) (jv 1)) (xH (zt jR (zX hr (jv 1) (jv 0) (fun _ _=>rfl)) (zG zz rfl m_len uC (ja_c (jv 2) zg)) (zw _)))))
   (zk (xA xC hr rfl mC yL))  zA)
  (zi (y7 ["place"] (i:=3) scShape.nd rfl (Or.inl rfl) rfl (yn rfl m_range (ja_c (zX hr (jv 1) (jv 0) (fun _ _=>rfl)) zg)) (fun _ _ _ _ _=>(zD (i:=4) J0 rfl (Or.inl rfl))) (fun _ _ _ _ _=>ya) (fun _ _ _ _ _=>(JZ K uV PySem.F.slot_list_pop PySem.F.type_list_pop ZK (jv 2))))
  (zk (zx (zB (ja_c (jv 0) (ja_c (yh zR rfl m_tuple uW (ja_c (jv 3) zg)) zg))))))),?_⟩
 have sl:=zQ
 have dg:DGet H d (.str t) (valV kvs (.inr t)):=DGet.k (k:=.inr t) hd
 refine ⟨_,rfl,_,rfl,d,_,rfl,dg,_,rfl,?_⟩
 rcases hq with ⟨hb,q⟩ | ⟨n,us,rest,hn,ev,hu,q⟩
 ·rcases hRm.sz (t:=t) with ⟨e1,e2⟩ | ⟨n,e1,e2,_⟩
  ·rw [e1]
   exact iteT q
  ·rw [e1]
   refine iteF ⟨_,rfl,_,rfl,d,_,rfl,by rw [<- e1]; exact dg,_,rfl,vl,_,rfl,.inl (SqL.of hvl),_,_,rfl,rfl,_,rfl,ite2 (fun _=>q) (fun c=>?_)⟩
   exfalso
   apply c
   rw [decide_eq_true_eq]
   rcases hb with z | ⟨s,z,z2⟩
   ·rw [e2] at z; cases z
   ·rw [e2] at z
    injection z with z
    lia
 ·rcases hRm.sz (t:=t) with ⟨e1,e2⟩ | ⟨n',e1,e2,n9⟩
  ·rw [e2] at hn; cases hn
  rw [e2] at hn
  injection hn with hn
  subst hn
  rw [e1]
  refine iteF ⟨_,rfl,_,rfl,d,_,rfl,by rw [<- e1]; exact dg,_,rfl,vl,_,rfl,.inl (SqL.of hvl),_,_,rfl,rfl,_,rfl,ite2 (fun c=>?_) (fun _=>?_)⟩
  ·exfalso
   rw [decide_eq_true_eq,ev,uf,uZ,uZ] at c
   lia
  refine ⟨_,rfl,_,rfl,d,_,rfl,by rw [<- e1]; exact dg,_,rfl,by lia,by lia,yz (lo:=0) (n:=(n':Int).toNat) (fun j τ ys H'=>But vl H H'/\H' vl=some (.lst (rest.reverse ++ (us.drop j).reverse))/\(∃ x,τ=[some (.str t),some (.ref d),some (.ref vl),none,x])/\ys=us.take j) ⟨.refl,by rw [List.drop_zero,<- ev]; exact hvl,⟨none,rfl⟩,rfl⟩ ?_ ?_⟩
  ·rintro j τ ys H1 hj ⟨b1,h1,⟨x,rfl⟩,rfl⟩
   have hj':j < us.length:=by lia
   have ed:=U6 hj'
   rw [ed,List.reverse_cons,<- uG] at h1
   refine ⟨_,rfl,.inl ⟨rfl,_,SqL.of h1⟩,vl,_,us[j],rfl,rfl,h1,by simp,?_⟩
   rw [List.dropLast_concat]
   refine ⟨by rw [uR]; lia,b1.trans .put,zf,⟨_,rfl⟩,?_⟩
   exact x9 (ug hj')
  ·rintro τ ys H1 ⟨b1,h1,_,rfl⟩ lp hlp
   rw [show (n':Int).toNat=us.length by lia,List.drop_length,List.reverse_nil,uO] at h1
   rw [show (n':Int).toNat=us.length by lia,List.take_length]
   have s2:=same_new (o:=.lst us) hlp
   refine ⟨_,rfl,_,rfl,lp,us,rfl,.inl ⟨SqL.of zf,fun q1 hq1=>⟨by show 2<=sizeLine; lia,fun p hp=>?_⟩⟩⟩
   have s3:=same_new (o:=.tup us) hq1
   have s4:=same_new (o:=.tup [.str t,.ref q1]) hp
   exact q _ p q1 (b1.trans (.of ((s2.trans s3).trans s4))) (s4 _ _ (s3 _ _ (s2 _ _ h1))) zf (s4 _ _ zf)
theorem scGrown:FnScope ["kinds","parts","known_sizes","values","thing"] ["kinds","parts"] (zp ZT):=⟨rfl,rfl,rfl,by decide +kernel,rfl,by decide +kernel,by decide +kernel⟩
theorem Vj (F:Fun K "grown" "grown" ZT f fd) (mC:mg "NoValue"=some (.ref C)) (xC:XCl0 K C) (m_len:mg "len"=none) (m_isinstance:mg "isinstance"=none) (m_list:mg "list"=none) (m_str:mg "str"=none) (m_reversed:mg "reversed"=none) (GS:Ca P w K mg base CX0 1 "sizes" ["kinds"] YL) (GH:Ca P w K mg base (CXf P w) 1 "shape" ["tag","known_sizes","values"] (YM C)) (GW:Ca P w K mg base CX0 1 "is_whole" ["thing"] Za) (GI:Ca P w K mg base CX0 1 "in_bounds" ["number"] spIn):FnOk P w K mg base (CXf P w) 2 f fd ["kinds","parts"] (YN C):=by
 refine F.byx scGrown (fun vs H Q E h=>?_) (fun cdv A outer s H vs Q E hr h=>?_)
 ·obtain ⟨pk,v,ks,rfl,_⟩:=h
  rfl
 obtain ⟨pk,v,ks,rfl,hK,hok,hq⟩:=h
 refine ⟨_,
  (zi (zH (y6 (ye (zG zY rfl m_isinstance uJ (ja_c (jv 1) (ja_c (yu (v:=.ty "list") rfl m_list UX rfl) zg)))))
   (zk (xA xC hr rfl mC yL))  zA)
  (zi (zv (i:=2) scGrown.nd rfl (Or.inl rfl) (zy GS.upx hr rfl yb (ja_c (jv 0) zg)))
  (zi (zv (i:=3) scGrown.nd rfl (Or.inl rfl) (zZ zg))
  (zi (yE ownx rfl (WF rfl m_reversed (ja_c (jv 1) zg)) (zD (i:=4) scGrown.nd rfl (Or.inl rfl))
   (zk (zH (ye (zG zY rfl m_isinstance uJ (ja_c (jv 4) (ja_c (yu (v:=.ty "str") rfl m_str PyProof.Rows.boot_str rfl) zg))))
    (zk (zU (xl uV Ue Uf yy (jv 3) (ja_c (zy GH hr rfl yb (ja_c (jv 4) (ja_c (jv 2) (ja_c (jv 3) zg)))) zg))))
    (zk (zH (jW.pt (wH (ye (zy GW.upx hr rfl yb (ja_c (jv 4) zg))) (wx (ye (zy GI.upx hr rfl yb (ja_c (jv 4) zg))))))
     (zk (zU (xl uV Ue Uf yy (jv 3) (ja_c (jv 4) zg))))
     (zk (xA xC hr rfl mC yL)))))))
  (zi (zH (zt xQ (zG zz rfl m_len uC (ja_c (jv 3) zg)) zh (zw _))
   (zk (xA xC hr rfl mC yL))  zA)
  (zk (zx (zq zE (jv 3) zh (fun _ _=>rfl))))))))),?_⟩
 have sl:=zQ
 rcases hq with ⟨hn,q⟩ | ⟨l,xs,rfl,hl,h300,hth,qE,qQ⟩
 ·rcases hn with rfl | ⟨i,rfl⟩ | ⟨z,rfl⟩ | ⟨p,ys,rfl,hp,_⟩ | ⟨p,rfl,hp⟩
  ·exact ⟨_,rfl,_,_,_,_,rfl,.non,rfl,_,rfl,iteT q⟩
  ·exact ⟨_,rfl,_,_,_,_,rfl,.int _,rfl,_,rfl,iteT q⟩
  ·exact ⟨_,rfl,_,_,_,_,rfl,.str _,rfl,_,rfl,iteT q⟩
  ·exact ⟨_,rfl,_,_,_,_,rfl,.tup hp,rfl,_,rfl,iteT q⟩
  ·exact ⟨_,rfl,_,_,_,_,rfl,.dK hp,rfl,_,rfl,iteT q⟩
 obtain ⟨kvs,ek⟩:∃ kvs,kvs=puts ks.flatten []:=⟨_,rfl⟩
 have hRm:Rm kvs:=by rw [ek]; exact hok.rm
 rw [<- ek] at qE qQ
 refine ⟨_,rfl,_,_,_,_,rfl,.lst hl,rfl,_,rfl,iteF ?_⟩
 refine ⟨_,rfl,pk,ks,rfl,hK,hok,fun H1 d s1 nd hd1=>?_⟩
 rw [<- ek] at hd1
 refine ⟨by show 0<=sizeLine; lia,fun vl hvl=>?_⟩
 have s2:=same_new (o:=.lst []) hvl
 have s02:=s1.trans s2
 have nvl:H vl=none:=s1.free hvl
 have nlv:l≠vl:=zo hl nvl
 have ndv:d≠vl:=zo hd1 hvl
 refine ⟨_,rfl,l,_,rfl,SqL.of (s02 _ _ hl),Yv (xs:=xs) (fun i σ H'=>∃ (vals:List V) (vt:Option V),σ=[some (.ref pk),some (.ref l),some (.ref d),some (.ref vl),vt]/\But vl H1 H'/\Same H H'/\H' vl=some (.lst vals)/\hgt kvs (xs.drop (xs.length - i))=some vals.length/\vals.length<=i/\Pz kvs H' vals.reverse (xs.drop (xs.length - i))) ⟨[],none,rfl,.of s2,s02,zf,by rw [Nat.sub_zero,List.drop_length]; rfl,ui _,by rw [Nat.sub_zero,List.drop_length]; exact .nil⟩ ?_ ?_ ?_⟩
 ·rintro i σ H' hi ⟨vals,vt,_,_,s',_⟩
  exact SqL.of (s' _ _ hl)
 ·rintro i x σ H2 hx ⟨vals,vt,rfl,b2,sm,gv,hg,hle,hP⟩
  have hi:i < xs.length:=by
   have:=(ud.mp hx).1
   rw [uZ] at this
   exact this
  rw [U0 hi] at hx
  have hdr:xs.drop (xs.length - (i + 1))=x :: xs.drop (xs.length - i):=by
   have h1:xs.length - (i + 1) < xs.length:=by lia
   rw [U6 h1,show xs.length - (i + 1) + 1=xs.length - i by lia]
   congr 1
   rw [show xs.length - 1 - i=xs.length - (i + 1) by lia] at hx
   exact (ud.mp hx).2
  have bad:dl kvs x=none\/(∃ s,dl kvs x=some s/\vals.length < s)->∀ H',Same H H'->E (.ref C) none H':=fun hb=>qE (by
   have e:xs=xs.take (xs.length - (i + 1)) ++ xs.drop (xs.length - (i + 1)):=(UA ..).symm
   have hz:hgt kvs (xs.drop (xs.length - (i + 1)))=none:=by
    rw [hdr]
    show (match hgt kvs (xs.drop (xs.length - i)),dl kvs x with | some n,some s=>if s<=n then some (n - s + 1) else none | _,_=>none)=none
    rw [hg]
    rcases hb with z | ⟨s,z,z2⟩
    ·rw [z]
    ·rw [z]
     show (if s<=vals.length then _ else _)=none
     rw [if_neg (by lia)]
   rw [e,Zd hz]
   intro z
   cases z)
  have hl300:vals.length<=300:=by lia
  have fin:∀ (H':Hp) (y:V) (vals':List V) (s:Nat),dl kvs x=some s->s<=vals.length->But vl H2 H'->vals'.length + s=vals.length->H' vl=some (.lst (vals' ++ [y]))->Pz kvs H' (y :: vals'.reverse) (x :: xs.drop (xs.length - i))->∃ (vals:List V) (vt:Option V),[some (.ref pk),some (.ref l),some (.ref d),some (.ref vl),some x]=[some (.ref pk),some (.ref l),some (.ref d),some (.ref vl),vt]/\But vl H1 H'/\Same H H'/\H' vl=some (.lst vals)/\hgt kvs (xs.drop (xs.length - (i + 1)))=some vals.length/\vals.length<=i + 1/\Pz kvs H' vals.reverse (xs.drop (xs.length - (i + 1))):=fun H' y vals' s e1 e2 b3 e3 g P=>by
   refine ⟨_,_,rfl,b2.trans b3,But.fresh sm nvl b3,g,?_,by rw [uf]; show _ + 1<=_; lia,by rw [hdr,U8]; exact P⟩
   rw [hdr]
   show (match hgt kvs (xs.drop (xs.length - i)),dl kvs x with | some n,some s=>if s<=n then some (n - s + 1) else none | _,_=>none)=_
   rw [hg,e1]
   show (if s<=vals.length then some (vals.length - s + 1) else none)=_
   rw [if_pos e2,uf]
   show some (vals.length - s + 1)=some (vals'.length + 1)
   rw [show vals.length - s + 1=vals'.length + 1 by lia]
  have gd2:H2 d=some (.dK kvs):=b2 _ _ ndv hd1
  obtain ⟨b,hT⟩:=hth x (uu hx)
  have hT2:=hT.keep sm
  cases hT2 with
  | str z =>
   refine ⟨_,rfl,_,_,_,_,rfl,.str _,rfl,_,rfl,iteT ?_⟩
   have ez:dl kvs (.str z)=szOf kvs z:=rfl
   refine ⟨_,rfl,.inl ⟨rfl,_,SqL.of gv⟩,_,rfl,_,rfl,_,rfl,z,d,vl,kvs,vals,rfl,gd2,hRm,gv,hl300,?_⟩
   rcases hRm.sz (t:=z) with ⟨_,e2⟩ | ⟨n,_,e2,n9⟩
   ·exact .inl ⟨.inl e2,bad (.inl (ez.trans e2)) _ sm⟩
   ·rcases Nat.lt_or_ge vals.length n with c | c
    ·exact .inl ⟨.inr ⟨n,e2,c⟩,bad (.inr ⟨n,ez.trans e2,c⟩) _ sm⟩
    ·have ev:vals=((vals.reverse).drop n).reverse ++ ((vals.reverse).take n).reverse:=by
      rw [<- U8,UA,List.reverse_reverse]
     have ul:((vals.reverse).take n).length=n:=by rw [uR,uZ]; lia
     refine .inr ⟨n,(vals.reverse).take n,(vals.reverse).drop n,e2,ev,ul,fun H3 p qq b3 g3 gp gq=>?_⟩
     refine ⟨vl,_,_,rfl,rfl,g3,by rw [uZ,UT,uZ]; lia,?_⟩
     have t3:Tups H2 H3:=b3.tups gv
     have nb:But vl H3 (upd H3 vl (.lst (((vals.reverse).drop n).reverse ++ [V.ref p]))):=.put
     have t4:=nb.tups g3
     refine fin _ (.ref p) _ n (ez.trans e2) c (b3.trans nb) (by rw [uZ,UT,uZ]; lia) zf ?_
     have hP':=hP
     rw [<- UA n vals.reverse] at hP'
     obtain ⟨xs1,xs2,ex,p1,p2⟩:=hP'.split
     rw [ex,List.reverse_reverse]
     exact .shp (t4 _ _ gp) (t4 _ _ gq) (by rw [ul]; exact e2) (by lia) (p1.keep (t3.trans t4)) (p2.keep (t3.trans t4))
  | int j =>
   refine ⟨_,rfl,_,_,_,_,rfl,.int _,rfl,_,rfl,iteF ?_⟩
   refine ⟨_,rfl,_,_,rfl,.int j,_,rfl,iteT ⟨_,rfl,_,rfl,_,rfl,?_⟩⟩
   by_cases c:-1000000000000000000000000000000 < j/\j < 1000000000000000000000000000000
   ·rw [decide_eq_true c]
    have ej:dl kvs (.int j)=some 0:=if_pos c
    refine iteT ⟨_,rfl,.inl ⟨rfl,_,SqL.of gv⟩,_,rfl,vl,_,_,rfl,rfl,gv,by lia,?_⟩
    have nb:But vl H2 (upd H2 vl (.lst (vals ++ [V.int j]))):=.put
    exact fin _ (.int j) vals 0 ej (u6 _) nb rfl zf (.num c (hP.keep (nb.tups gv)))
   ·rw [decide_eq_false c]
    have ej:dl kvs (.int j)=none:=if_neg c
    exact iteF (bad (.inl ej) _ sm)
  | bl j=>exact ⟨_,rfl,_,_,_,_,rfl,.bl _,rfl,_,rfl,iteF ⟨_,rfl,_,_,rfl,.bl j,_,rfl,iteF (iteF (bad (.inl rfl) _ sm))⟩⟩
  | non=>exact ⟨_,rfl,_,_,_,_,rfl,.non,rfl,_,rfl,iteF ⟨_,rfl,_,_,rfl,.non,_,rfl,iteF (iteF (bad (.inl rfl) _ sm))⟩⟩
  | lst h=>exact ⟨_,rfl,_,_,_,_,rfl,.lst h,rfl,_,rfl,iteF ⟨_,rfl,_,_,rfl,.lst h,_,rfl,iteF (iteF (bad (.inl rfl) _ sm))⟩⟩
  | tup h=>exact ⟨_,rfl,_,_,_,_,rfl,.tup h,rfl,_,rfl,iteF ⟨_,rfl,_,_,rfl,.tup h,_,rfl,iteF (iteF (bad (.inl rfl) _ sm))⟩⟩
  | dK h=>exact ⟨_,rfl,_,_,_,_,rfl,.dK h,rfl,_,rfl,iteF ⟨_,rfl,_,_,rfl,.dK h,_,rfl,iteF (iteF (bad (.inl rfl) _ sm))⟩⟩
 ·rintro σ H2 ⟨vals,vt,rfl,b2,sm,gv,hg,hle,hP⟩
  rw [UP,List.drop_zero] at hg hP
  refine ⟨_,rfl,vl,_,rfl,.inl (SqL.of gv),rfl,_,rfl,ite2 (fun c=>?_) (fun c=>?_)⟩
  ·refine qE (fun z=>?_) _ sm
   rw [hg] at z
   injection z with z
   rw [z] at c
   exact absurd c (by decide)
  ·have h1:vals.length=1:=by
    by_cases z:vals.length=1
    ·exact z
    ·exfalso
     apply c
     simp
     lia
   match vals,h1 with
   | [y],_=>exact ⟨_,rfl,ixL gv (zj (j:=0) rfl) (qQ hg _ y sm hP)⟩
end
end GN
namespace K31
open PySem L2
open GN (je xn sIn YD sRes)
theorem same_new {H:Hp} {p:Addr} (h:H p=none) (o:HO):Same H (upd H p o):=fun b u q=>by rw [zm (zo q h)]; exact q
theorem t30:(10:Int) ^ (30:Int).toNat=1000000000000000000000000000000:=by decide
def Sm (i:Int):Prop:=-1000000000000000000000000000000 < i/\i < 1000000000000000000000000000000
set_option exponentiation.threshold 2000 in
theorem zan {i:Int} (h:i.natAbs < 10 ^ 100):i.natAbs < BG:=ux h (by unfold BG; decide +kernel)
theorem Sm.big {i:Int} (h:Sm i):i.natAbs < BG:=zan (by unfold Sm at h; lia)
theorem ifT {b:Bool} {A B:Prop} (e:b=true) (h:A):if b=true then A else B:=by rw [if_pos e]; exact h
theorem ifF {b:Bool} {A B:Prop} (e:b=false) (h:B):if b=true then A else B:=by rw [if_neg (by rw [e]; decide)]; exact h
inductive Nu (H:Hp):V->Option Int->Prop
 | int {i:Int}:Sm i->Nu H (.int i) (some i)
 | tup {p:Addr} {xs:List V}:H p=some (.tup xs)->Nu H (.ref p) none
def res (w:Str) (i j:Int):Int:=if w="plus" then i + j else if w="minus" then i - j else if w="times" then i * j else if w="over" then i.fdiv j else if w="rest" then i.fmod j else if w="less" then (if i < j then 1 else 0) else (if i=j then 1 else 0)
def fw (w:Str):Option Int->Option Int->Str
 | some i,some j=>if j=0/\(w="over"\/w="rest") then "nought" else if -1000000000000000000000000000000 < res w i j/\res w i j < 1000000000000000000000000000000 then "" else "great"
 | _,_=>"nonumber"
theorem fw_ss (w:Str) (i j:Int):fw w (some i) (some j)=if j=0/\(w="over"\/w="rest") then ("nought":Str) else if -1000000000000000000000000000000 < res w i j/\res w i j < 1000000000000000000000000000000 then ("":Str) else ("great":Str):=rfl
def spWhole:Sp:=fun vs H Q _=>∃ v o,vs=[v]/\Nu H v o/\Q (.bl o.isSome) H
def spIn:Sp:=fun vs H Q _=>∃ i:Int,vs=[.int i]/\Q (.bl (decide (-1000000000000000000000000000000 < i/\i < 1000000000000000000000000000000))) H
def Qb:Sp:=fun vs H Q _=>∃ (w:Str) (i j:Int),vs=[.str w,.int i,.int j]/\Sm i/\Sm j/\(j=0->w≠"over"/\w≠"rest")/\Q (.int (res w i j)) H
def spFault (C:Addr):Sp:=fun vs H Q _=>∃ e v,vs=[.ref e,v]/\H e=some (XO e C none)/\∀ d,H d=none->d≠e->Q .non (upd (upd H d (XD d [("word",v)])) e (XO e C (some d)))
def spReck (C:Addr):Sp:=fun vs H Q E=>∃ (w:Str) (x y:V) (a b:Option Int),vs=[.str w,x,y]/\Nu H x a/\Nu H y b /\
 (fw w a b=""->∀ (i j:Int) (H':Hp),Same H H'->a=some i->b=some j->Q (.int (res w i j)) H')/\(fw w a b≠""->∀ d H',Same H H'->H' d=some (XD d [("word",.str (fw w a b))])->E (.ref C) (some d) H')
section
variable {P:Program} {w:World} {K:ua} {mg:Str->Option Value} {base:Heap} {f R C:Addr} {fd:FuncData}
theorem J2:FnScope ["self","word"] ["self","word"] (zp je):=⟨rfl,rfl,rfl,by decide +kernel,rfl,by decide +kernel,by decide +kernel⟩
theorem ok_fault {fi:Addr} (F:Fun K "__init__" "Fault.__init__" je f fd) (xw:UY K C "word"=some none) (M:XCl K C fi) (B:XBase K R) (mR:mg "ReuseError"=some (.ref R)):FnOk P w K mg base CX0 1 f fd ["self","word"] (spFault C):=by
 refine F.by J2 (fun vs H Q E h=>?_) (fun cdv A' outer s H vs Q E hr h=>?_)
 ·obtain ⟨e,v,rfl,_⟩:=h
  rfl
 obtain ⟨e,v,rfl,hX,q⟩:=h
 refine ⟨_,zi (zU ⟨Ww M B rfl mR (ja_c (jv 0) (ja_c (jv 1) zg)).out⟩) (zk ⟨JC M (jv 0).out (jv 1).out⟩),?_⟩
 refine ⟨_,rfl,_,rfl,e,[v],none,rfl,by show 1<=sizeLine; decide,hX,?_⟩
 exact ⟨_,rfl,_,rfl,e,rfl,hX,xw,fun d hd ne=>q d hd ne⟩
theorem scWhole:FnScope ["thing"] ["thing"] (zp xn):=⟨rfl,rfl,rfl,by decide +kernel,rfl,by decide +kernel,by decide +kernel⟩
theorem ok_whole (F:Fun K "is_whole" "is_whole" xn f fd) (m_isinstance:mg "isinstance"=none) (m_int:mg "int"=none) (m_bool:mg "bool"=none):FnOk P w K mg base CX0 1 f fd ["thing"] spWhole:=by
 refine F.by scWhole (fun vs H Q E h=>?_) (fun cdv A outer s H vs Q E hr h=>?_)
 ·obtain ⟨v,o,rfl,_⟩:=h
  rfl
 obtain ⟨v,o,rfl,h,q⟩:=h
 refine ⟨_,
  (zk (zx (wJ (zG zY rfl m_isinstance uJ (ja_c (jv 0) (ja_c (yu (v:=.ty "int") rfl m_int U1 rfl) zg))) (wI (vV (zG zY rfl m_isinstance uJ (ja_c (jv 0) (ja_c (yu (v:=.ty "bool") rfl m_bool UJ rfl) zg)))))))),?_⟩
 cases h with
 | int h=>exact ⟨_,rfl,_,_,_,_,rfl,.int _,rfl,_,rfl,iteT ⟨_,rfl,_,_,_,_,rfl,.int _,rfl,_,rfl,q⟩⟩
 | tup h=>exact ⟨_,rfl,_,_,_,_,rfl,.tup h,rfl,_,rfl,iteF q⟩
theorem scIn:FnScope ["number"] ["number"] (zp sIn):=⟨rfl,rfl,rfl,by decide +kernel,rfl,by decide +kernel,by decide +kernel⟩
theorem ok_in (F:Fun K "in_bounds" "in_bounds" sIn f fd):FnOk P w K mg base CX0 1 f fd ["number"] spIn:=by
 refine F.by scIn (fun vs H Q E h=>?_) (fun cdv A outer s H vs Q E hr h=>?_)
 ·obtain ⟨i,rfl,_⟩:=h
  rfl
 obtain ⟨i,rfl,q⟩:=h
 refine ⟨_,(zk (zx (jQ wm wm (xj (zF x8 zh zh)) (jv 0) (zF x8 zh zh)))),?_⟩
 refine ⟨_,_,rfl,rfl,⟨by decide,by decide,by decide⟩,_,rfl,_,rfl,_,_,rfl,rfl,?_⟩
 rw [t30]
 by_cases c:-1000000000000000000000000000000 < i
 ·refine ⟨_,rfl,itD c ?_⟩
  refine ⟨_,_,rfl,rfl,⟨by decide,by decide,by decide⟩,_,_,rfl,rfl,?_⟩
  rw [t30]
  have e:decide (-1000000000000000000000000000000 < i/\i < 1000000000000000000000000000000)=decide (i < 1000000000000000000000000000000):=by simp [c]
  rw [e] at q
  exact q
 ·refine ⟨_,rfl,itDN c ?_⟩
  have e:decide (-1000000000000000000000000000000 < i/\i < 1000000000000000000000000000000)=false:=by simp [c]
  rw [e] at q
  exact q
theorem scRes:FnScope ["word","a","b","holds"] ["word","a","b"] (zp sRes):=⟨rfl,rfl,rfl,by decide +kernel,rfl,by decide +kernel,by decide +kernel⟩
theorem ok_res (F:Fun K "result_of" "result_of" sRes f fd):FnOk P w K mg base CX0 1 f fd ["word","a","b"] Qb:=by
 refine F.by scRes (fun vs H Q E h=>?_) (fun cdv A outer s H vs Q E hr h=>?_)
 ·obtain ⟨w,i,j,rfl,_⟩:=h
  rfl
 obtain ⟨w,i,j,rfl,hi,hj,hz,q⟩:=h
 refine ⟨_,
  (zi (zH (zt zL (jv 0) zu (zw _)) (zk (zx (zF yr (jv 1) (jv 2)))) zA)
  (zi (zH (zt zL (jv 0) zu (zw _)) (zk (zx (zF yS (jv 1) (jv 2)))) zA)
  (zi (zH (zt zL (jv 0) zu (zw _)) (zk (zx (zF JV (jv 1) (jv 2)))) zA)
  (zi (zH (zt zL (jv 0) zu (zw _)) (zk (zx (zF W8 (jv 1) (jv 2)))) zA)
  (zi (zH (zt zL (jv 0) zu (zw _)) (zk (zx (zF JW (jv 1) (jv 2)))) zA)
  (zi (zv (i:=3) scRes.nd rfl (Or.inl rfl) (yU (zt zL (jv 0) zu (zw _)) (yH wm (jv 1) (jv 2) (zw _)) (yH zL (jv 1) (jv 2) (zw _))))
  (zk (zx (yU (ye (jv 3)) zh zh))))))))),?_⟩
 unfold res at q
 have sE:∀ a b:Str,(V.str a=V.str b)=(a=b):=fun a b=>by simp
 refine ⟨_,rfl,rfl,_,rfl,?_⟩
 by_cases c1:w="plus"
 ·rw [if_pos c1] at q
  rw [if_pos (by simp [c1])]
  exact ⟨_,rfl,_,rfl,_,_,rfl,rfl,q⟩
 rw [if_neg c1] at q
 rw [if_neg (by simp [c1])]
 refine ⟨_,rfl,rfl,_,rfl,?_⟩
 by_cases c2:w="minus"
 ·rw [if_pos c2] at q
  rw [if_pos (by simp [c2])]
  exact ⟨_,rfl,_,rfl,_,_,rfl,rfl,q⟩
 rw [if_neg c2] at q
 rw [if_neg (by simp [c2])]
 refine ⟨_,rfl,rfl,_,rfl,?_⟩
 by_cases c3:w="times"
 ·rw [if_pos c3] at q
  rw [if_pos (by simp [c3])]
  exact ⟨_,rfl,_,rfl,_,_,rfl,rfl,⟨hi.big,hj.big⟩,q⟩
 rw [if_neg c3] at q
 rw [if_neg (by simp [c3])]
 refine ⟨_,rfl,rfl,_,rfl,?_⟩
 by_cases c4:w="over"
 ·rw [if_pos c4] at q
  rw [if_pos (by simp [c4])]
  exact ⟨_,rfl,_,rfl,_,_,rfl,rfl,⟨fun z=>(hz z).1 c4,hj.big⟩,q⟩
 rw [if_neg c4] at q
 rw [if_neg (by simp [c4])]
 refine ⟨_,rfl,rfl,_,rfl,?_⟩
 by_cases c5:w="rest"
 ·rw [if_pos c5] at q
  rw [if_pos (by simp [c5])]
  exact ⟨_,rfl,_,rfl,_,_,rfl,rfl,(fun z=>(hz z).2 c5),q⟩
 rw [if_neg c5] at q
 rw [if_neg (by simp [c5])]
 refine ⟨_,rfl,rfl,_,rfl,?_⟩
 by_cases c6:w="less"
 ·rw [if_pos c6] at q
  rw [if_pos (by simp [c6])]
  refine ⟨_,rfl,_,rfl,_,_,rfl,rfl,_,rfl,_,rfl,?_⟩
  by_cases c7:i < j
  ·rw [if_pos c7] at q
   exact itD c7 q
  ·rw [if_neg c7] at q
   exact itDN c7 q
 ·rw [if_neg c6] at q
  rw [if_neg (by simp [c6])]
  refine ⟨_,rfl,_,rfl,rfl,_,rfl,_,rfl,?_⟩
  by_cases c7:i=j
  ·rw [if_pos c7] at q
   rw [if_pos (by simp [c7])]
   exact q
  ·rw [if_neg c7] at q
   rw [if_neg (by simp [c7])]
   exact q
theorem YO {x:Str}:∀ {l:List Str},inV (.str x) (l.map V.str)=decide (x∈l)
 | []=>rfl
 | y :: l=>by
  have ih:=YO (x:=x) (l:=l)
  unfold inV at ih ⊢
  rw [uP,UL,ih]
  show ((y == x) || decide (x∈l))=_
  by_cases e:y=x
  ·subst e; simp
  ·have e':(y == x)=false:=beq_eq_false_iff_ne.mpr e
   have e2:¬ x=y:=fun z=>e z.symm
   simp [e',e2]
theorem scReck:FnScope ["word","a","b","result"] ["word","a","b"] (zp YD):=⟨rfl,rfl,rfl,by decide +kernel,rfl,by decide +kernel,by decide +kernel⟩
theorem YQ {w:Str} {a b:Option Int} (h:¬ (a.isSome=true/\b.isSome=true)):fw w a b="nonumber":=by
 cases a with
 | none=>rfl
 | some i =>
  cases b with
  | none=>rfl
  | some j=>exact absurd ⟨rfl,rfl⟩ h
theorem raised {C:Addr} {H:Hp} {E:XK} {v:V} (hE:∀ d H',Same H H'->H' d=some (XD d [("word",v)])->E (.ref C) (some d) H') (e:Addr) (he:H e=none) :
  spFault C [.ref e,v] (upd H e (XO e C none)) (fun u H2=>u=.non/\∃ dx,H2 e=some (XO e C dx)/\E (.ref C) dx (drp H2 e)) E0:=by
 refine ⟨e,v,rfl,zf,fun d hd hne=>⟨rfl,some d,zf,?_⟩⟩
 have hd':H d=none:=by rw [zm hne] at hd; exact hd
 refine hE d _ (fun b u hb=>?_) ?_
 ·rw [wQ (zo hb he),zm (zo hb he),zm (zo hb hd'),zm (zo hb he)]
  exact hb
 ·rw [wQ hne,zm hne]
  exact zf
theorem ok_reck (F:Fun K "reckoned" "reckoned" YD f fd) (GX:Xa P w K mg base 1 "Fault" C ["self","word"] (spFault C)) (GW:Ca P w K mg base CX0 1 "is_whole" ["thing"] spWhole) (GR:Ca P w K mg base CX0 1 "result_of" ["word","a","b"] Qb) (GI:Ca P w K mg base CX0 1 "in_bounds" ["number"] spIn):FnOk P w K mg base (CXf P w) 3 f fd ["word","a","b"] (spReck C):=by
 refine F.byx scReck (fun vs H Q E h=>?_) (fun cdv A outer s H vs Q E hr h=>?_)
 ·obtain ⟨w,x,y,a,b,rfl,_⟩:=h
  rfl
 obtain ⟨w,x,y,a,b,rfl,hx,hy,q1,q2⟩:=h
 have hr1:Room 1 _:=hr.mono (by decide)
 refine ⟨_,
  (zi (zH (jW.pt (wk (y6 (ye (zy GW.upx hr1 rfl yb (ja_c (jv 1) zg)))) (xH (y6 (ye (zy GW.upx hr1 rfl yb (ja_c (jv 2) zg)))))))
   (zk (yM GX hr rfl yL (ja_c zu zg))) zA)
  (zi (zH (jW.pt (wH (zt zL (jv 2) zh (zw _)) (wx (zt Xs (jv 0) (zB (ja_c zu (ja_c zu zg))) (by with_unfolding_all rfl)))))
   (zk (yM GX hr rfl yL (ja_c zu zg))) zA)
  (zi (zv (i:=3) scReck.nd rfl (Or.inl rfl) (zy GR.upx hr1 rfl yb (ja_c (jv 0) (ja_c (jv 1) (ja_c (jv 2) zg)))))
  (zi (zH (y6 (ye (zy GI.upx hr1 rfl yb (ja_c (jv 3) zg))))
   (zk (yM GX hr rfl yL (ja_c zu zg))) zA)
  (zk (zx (jv 3))))))),?_⟩
 have bad:∀ (z:Str) (H':Hp),Same H H'->fw w a b=z->z≠""->(ZN C (spFault C) E (Yi (tC (.str z)) tNil):TS) { nx:=fun _ H'=>Q .non H',rt:=Q } (start ["word","a","b","result"] [.str w,x,y]) H':=fun z H' s' e hz=>by
  subst e
  refine ⟨by show 1<=sizeLine; decide,fun e he=>raised (fun d H2 s2 hd=>q2 hz d H2 (s'.trans s2) hd) e he⟩
 refine ⟨_,rfl,x,a,rfl,hx,_,rfl,?_⟩
 cases hx with
 | tup hx=>exact iteT (iteT (bad "nonumber" H (Same.refl _) (YQ (by simp)) (by decide)))
 | @int i hi =>
  refine iteF ⟨_,rfl,y,b,rfl,hy,_,rfl,?_⟩
  cases hy with
  | tup hy=>exact iteT (bad "nonumber" H (Same.refl _) (YQ (by simp)) (by decide))
  | @int j hj =>
   refine iteF ⟨_,rfl,rfl,_,rfl,?_⟩
   suffices tail:∀ (H1:Hp),Same H H1->¬ (j=0/\(w="over"\/w="rest"))->(tSeq _ _:TS) { nx:=fun _ H'=>Q .non H',rt:=Q } [some (.str w),some (.int i),some (.int j),none] H1 by
    by_cases hz:j=0
    ·refine ifT (by simp [hz]) ?_
     refine ⟨_,rfl,by show 2<=sizeLine; decide,fun p hp=>⟨p,_,rfl,.inr (SqT.of zf),rfl,rfl,_,rfl,?_⟩⟩
     have e2:inV (.str w) [.str "over",.str "rest"]=decide (w∈(["over","rest"]:List Str)):=YO (l:=["over","rest"])
     have s1:=same_new (o:=.tup [.str "over",.str "rest"]) hp
     by_cases hw:w="over"\/w="rest"
     ·refine ifT (e2.trans (decide_eq_true (by simpa using hw))) ?_
      exact bad "nought" _ s1 (by rw [fw_ss,if_pos ⟨hz,hw⟩]) (by decide)
     ·refine ifF (e2.trans (decide_eq_false (by simpa using hw))) ?_
      exact tail _ s1 fun z=>hw z.2
    ·refine ifF (by simp [hz]) ?_
     exact iteF (tail H (Same.refl _) fun z=>hz z.1)
   intro H1 s1 hn
   refine ⟨_,rfl,_,rfl,_,rfl,w,i,j,rfl,hi,hj,fun z=>⟨fun y=>hn ⟨z,.inl y⟩,fun y=>hn ⟨z,.inr y⟩⟩,?_⟩
   refine ⟨_,rfl,_,rfl,_,rfl,?_⟩
   by_cases c:-1000000000000000000000000000000 < res w i j/\res w i j < 1000000000000000000000000000000
   ·rw [decide_eq_true c]
    refine iteF ⟨_,rfl,q1 ?_ i j H1 s1 rfl rfl⟩
    rw [fw_ss]
    rw [if_neg hn,if_pos c]
   ·rw [decide_eq_false c]
    refine iteT ?_
    refine ⟨by show 1<=sizeLine; decide,fun e he=>?_⟩
    have e1:fw w (some i) (some j)="great":=by rw [fw_ss,if_neg hn,if_neg c]
    rw [e1] at q2
    exact raised (fun d H2 s2 hd=>q2 (by decide) d H2 (s1.trans s2) hd) e he
end
end K31
namespace L2
open PySem PySem.Spec PyProof.Rows
section
variable {X:Cx}
end
end L2
namespace L2
open PySem PySem.Spec PyProof.Rows
theorem Z4:(["__module__","__name__","__qualname__","__doc__","__annotations__"]:List Str).contains ("keys":Str)=false:=by decide +kernel
theorem yX:entryFor table "dict.update.loop"=some Builtin.«dict.update.loop»:=entryFor_of_tree (by kernel_rfl)
theorem yv:plainId "dict.update.loop"=true:=by decide +kernel
section
variable {prog:Program} {w:World} {A:Around}
end
section
variable {X:Cx}
end
end L2
namespace L2
open PySem PySem.Spec PyProof.Rows
theorem Z5:typeLookup (.type "zip") "keys"=pure none:=am_miss_of_fast (by decide +kernel)
theorem wa:typeLookup (.type "zip") "__getattr__"=pure none:=by rw [typeLookup_type,builtinLookup_eq_fast]; kernel_rfl
theorem yP:entryFor table "zip.__getattribute__"=some Builtin.«object.__getattribute__» :=
 entryFor_alias (id':="object.__getattribute__") (by kernel_rfl) (by decide +kernel) (by decide +kernel) (by kernel_rfl)
theorem yJ (a:Addr) (fs:Array Value) (sl:Array (Option Value)) (name:Str) (u:Tok) (hmiss:typeLookup (.type "zip") name=pure none) (hname:(["__module__","__name__","__qualname__","__doc__","__annotations__"]:List Str).contains name=false) (hsz:name.length + 100<=sizeLine:=by size_fits) :
  Meets (Builtin.«object.__getattribute__» ⟨[.ref a,.str name u],[]⟩) (fun A R s=>s.heap.get? a=some { cls:=.type "zip",dict:=none,data:=.fields fs,slots:=sl }/\raisesAttr (.ref a) name A R s) :=
 Meets.of_wp fun prog w A R s hs=>by
  obtain ⟨hp,g,d,tk,os⟩:=s
  obtain ⟨hx,hs⟩:=hs
  have hT:(⟨hp,g,d,tk,os⟩:Shared).TypeIs (.ref a) "zip":=⟨_,hx,rfl⟩
  unfold Builtin.«object.__getattribute__»
  repeat (any_goals (first | assumption | wp_step))
  simp only [hname,Bool.false_eq_true,if_false]
  repeat (any_goals (first | assumption | wp_step))
  exact wpAny_raiseAttrError hs.1 hs.2 (attrMsg_fits (by decide +kernel) hsz)
section
variable {prog:Program} {w:World} {A:Around}
theorem Z6 {E:Value->Shared->Prop} {s:Shared} {a:Addr} {fs:Array Value} {Q:Option Value->Shared->Prop} (hx:s.heap.get? a=some { cls:=.type "zip",data:=.fields fs }) (hA:A.handled=none)
  (h:∀ h' tk,(∀ b o,s.heap.get? b=some o->h'.get? b=some o)->Q none { s with heap:=h',toks:=tk }):wpAny (model prog w) A (getAttr? (.ref a) "keys") Q E s:=by
 obtain ⟨hp,g,d,tk,os⟩:=s
 have hT:∀ t',(⟨hp,g,d,t',os⟩:Shared).TypeIs (.ref a) "zip":=fun _=>⟨_,hx,rfl⟩
 have g1:=sub_AttributeError
 have g2:=UV.lookup
 have g3:=UV.bind (.ref a)
 have g4:=wa
 unfold getAttr? getAttrBy? getAttrBy
 repeat (any_goals (first | assumption | exact hT _ | ((with_reducible show wpAny _ _ (call (Value.builtin "zip.__getattribute__") _ _) _ _ _); refine call_meets UV (hT _) yP (PySem.F.args_zip_getattribute_2 _ _) (yJ a fs #[] "keys" _ Z5 Z4 (by show 4 + 100<=sizeLine; decide)) ⟨hx,hA,fun h' tk' e hx'=>?_⟩) | wp_step))
 obtain ⟨t',u',he⟩:=hx'.there
 show wpAny _ _ (getattributeRaised _ _ _ _ _ _ _) _ _ _
 unfold getattributeRaised
 repeat (any_goals (first | assumption | wp_step))
 exact h _ _ hx'.keeps
theorem Ze {κ:Type} [DecidableEq κ] {knd:KeyKind prog w κ} {R:Result->Shared->Prop} {k m:Bool} {B l r D:Nat} {xs ys:Array Value} {more:List (κ × Value)} {res:Value} (hh:A.handled=none) (ll:l < B) (rl:r < B) (hD:B + 4 < D) (hz:more.length<=sizeLine) (hx:xs.size=more.length)
  (hp:∀ (j:Nat) k v,more[j]?=some (k,v)->∃ ku,xs[j]?=some ku/\ys[j]?=some v/\knd.is k ku=true) :
  ∀ (d i:Nat) (s:Shared) (f g:Value),more.length - i=d->i<=more.length->ZS k m s.heap B l r i f g->ZF B s.heap f g->Sq k s.heap l xs->Sq m s.heap r ys->D < s.heap.objs.size->s.heap.DictOf knd D (merged [] (more.take i)) ->
   (∀ h' tk,(∀ (b:Nat) o,(b < B\/B + 4 < b)->b≠D->s.heap.get? b=some o->h'.get? b=some o)->h'.DictOf knd D (merged [] more)->R (.ok (.ret res)) { s with heap:=h',toks:=tk }) ->
   codeAny (model prog w) A (.builtin "dict.update.loop" ⟨[.ref D,.ref (B + 4),rawInt i,res],[]⟩) R s:=by
 intro d
 induction d with
 | zero =>
  intro i s f g hm hi Z hf hl hr hs hd hR
  have e:i=more.length:=by lia
  refine codeAny_builtin yX ?_
  rw [Around.under_plainId yv _]
  show wpAny _ A.in1 (pyNext (.ref (B + 4)) >>= _) _ _ s
  refine wpAny_bind (j2 (A:=A.in1) hh Z hf hl hr ll rl (.inl (Array.getElem?_eq_none (by lia))) fun h' kz=>?_)
  show wpAny _ A.in1 (Builtin.Dict.addKeywords D [] >>= fun _=>ret res) _ _ _
  refine wpAny_bind (wpAny_pure (wpAny_pure ?_))
  rw [e,uE (ui _)] at hd
  obtain ⟨o,es,ep,ho,hr'⟩:=hd
  exact hR h' s.toks (fun b o nb _ e'=>kz b o nb e') ⟨o,es,ep,kz _ _ (.inr hD) ho,hr'⟩
 | succ d ih =>
  intro i s f g hm hi Z hf hl hr hs hd hR
  have hlt:i < more.length:=by lia
  obtain ⟨kv,ekv⟩:∃ kv,more[i]?=some kv:=⟨_,ug hlt⟩
  obtain ⟨ke,v⟩:=kv
  obtain ⟨ku,e1,e2,e3⟩:=hp i ke v ekv
  refine codeAny_builtin yX ?_
  rw [Around.under_plainId yv _]
  show wpAny _ A.in1 (pyNext (.ref (B + 4)) >>= _) _ _ s
  refine wpAny_bind (WB (A:=A.in1) Z hf hl hr ll rl e1 e2 fun h' T ct z hT p sz kz=>?_)
  show wpAny _ A.in1 (holding [Value.ref s.heap.objs.size] _ >>= _) _ _ _
  refine wpAny_bind (wpAny_holding (wpAny_bind (wpAny_tryCatch ?_)))
  unfold Builtin.Dict.pairItems
  refine wpAny_bind (wpAny_typeOf ⟨_,p,rfl⟩ ?_)
  rw [if_pos (by decide +kernel)]
  refine wpAny_bind ?_
  unfold seqItems?
  refine wpAny_bind (wpAny_load p ?_)
  refine wpAny_pure (wpAny_pure ?_)
  show wpAny _ A.in1 (holding [ku,v] (dictSet D ku v)) _ _ _
  have hd':h'.DictOf knd D (merged [] (more.take i)):=by
   obtain ⟨o,es,ep,ho,hr'⟩:=hd
   exact ⟨o,es,ep,kz _ _ (.inr hD) ho,hr'⟩
  have lz:(merged [] (more.take i)).length<=sizeLine:=by
   have:=merged_length_le [] (more.take i)
   rw [uR] at this
   simp only [List.length_nil] at this
   lia
  refine wpAny_holding (wpAny_dictSet_pairs (hsz:=lz) e3 hd' fun h'' hd'' sb''=>?_)
  rw [<- merged_take_succ [] more i (ke,v) ekv] at hd''
  have up:∀ (b:Nat) o,b≠D->h'.get? b=some o->h''.get? b=some o:=fun b o nb e=>sb''.extBut b o nb e
  have sz'':s.heap.objs.size < h''.objs.size:=um (up _ _ (UI hs) p)
  refine wpAny_pure ⟨plainId_quiet yv _,ih (i + 1) _ (rawInt T) (.bool ct) (by lia) hlt (z.at fun b o h1 h2 e=>up b o (by lia) e) ?_ ((hl.at fun o e=>kz _ o (by lia) e).at fun o e=>up _ o (by lia) e) ((hr.at fun o e=>kz _ o (by lia) e).at fun o e=>up _ o (by lia) e) (Nat.lt_trans hs sz'') hd'' fun h3 tk k3 d3=>?_⟩
  ·rcases hT with e | ⟨lT,o,hT⟩
   ·subst e
    exact .inr ⟨_,ct,_,rfl,rfl,up _ _ (UI hs) p,by lia⟩
   ·by_cases c:T=D
    ·obtain ⟨o,es,ep,ho,_⟩:=hd''
     exact .inr ⟨T,ct,o,rfl,rfl,by rw [c]; exact ho,lT⟩
    ·exact .inr ⟨T,ct,o,rfl,rfl,up _ _ c (kz _ _ (by lia) hT),lT⟩
  ·exact hR h3 tk (fun b o b1 b2 e'=>k3 b o b1 b2 (up _ _ b2 (kz _ _ b1 e'))) d3
end
section
variable {X:Cx} {a b:Expr} {ta:TA} {p1 p2 pos1 pos2:Pos}
def zkv (ns:List Str) (ys:List V):List (Key × V):=(ns.zip ys).map fun p=>(.inr p.1,p.2)
def Vk (K:ua) (ta:TA):TE:=fun σ H Q=>ta σ H fun vs H1=>∃ (a b:Addr) (ns:List Str) (ys:List V),vs=[.ref a,.ref b]/\(SqL K H1 a (ns.map V.str)\/SqT K H1 a (ns.map V.str))/\(SqL K H1 b ys\/SqT K H1 b ys)/\ns.length=ys.length/\ns.Nodup/\∀ d,H1 d=none->Q (.ref d) (upd H1 d (.dK (zkv ns ys)))
theorem Vm {ns:List Str} {ys:List V} (h:ns.length=ys.length):(zkv ns ys).map (·.1)=ns.map Sum.inr:=by
 unfold zkv
 rw [List.map_map]
 have:((fun x=>x.1) ∘ fun (p:Str × V)=>((Sum.inr p.1:Key),p.2))=fun p=>(Sum.inr p.1:Key):=rfl
 rw [this]
 have e:=List.map_fst_zip (l₁:=ns) (l₂:=ys) (by lia)
 conv=>rhs; rw [<- e]
 rw [List.map_map]
 rfl
theorem Vn (hc:X.calm=true) (hgL:Gl X "dict") (hmL:X.mg "dict"=none) (hgZ:Gl X "zip") (hmZ:X.mg "zip"=none) (ha:PA X [a,b] ta)
  (h1:starEach [a,b] X.env=[(false,eval a X.env),(false,eval b X.env)]:=by rfl) (h2:starEach [b] X.env=[(false,eval b X.env)]:=by rfl):PE X (.Call (.Name "dict" p1) [.Call (.Name "zip" p2) [a,b] [] pos2] [] pos1) (Vk X.K ta):=by
 intro pins s σ H Q I h
 refine Call_ (yZ I hgL hmL PyProof.Rows.boot_dict (Uh (Calls.spliced_cons (Call_ (yZ I hgZ hmZ boot_zip (Uh (thn (ha pos2 pins s σ H _ I h) fun us s1 g=>?_) (by rw [h1,h2]) (by rw [h2]; rfl))))) rfl rfl))
 obtain ⟨vs,H1,I1,r1,a1,b1,ns,ys,rfl,hq1,hq2,ll,hn,q⟩:=g
 obtain ⟨u,u',rfl,e1,e2⟩:=X7 r1
 cases e1
 cases e2
 obtain ⟨k1,i1,v1,q1,z1,l1⟩:=I1.sq hq1
 obtain ⟨k2,i2,v2,q2,z2,l2⟩:=I1.sq hq2
 refine jY q1 q2 fun h' Z sz kp=>Calls.spliced_nil ?_
 have hh:X.A.handled=none:=I1.ok.hd hc
 have n1:=v1.length
 have n2:=v2.length
 rw [ub] at n1 z1
 have big:=I1.big
 obtain ⟨B,eB⟩:∃ B:Nat,B=s1.heap.objs.size:=⟨_,rfl⟩
 rw [<- eB] at Z sz l1 l2 ⊢
 obtain ⟨more,emore⟩:∃ more:List (Key × Value),more=(ns.zip i2).map fun p=>(.inr p.1,p.2):=⟨_,rfl⟩
 have lmore:more.length=ns.length:=by rw [emore,ub,List.length_zip]; lia
 have hmore:∀ (j:Nat) k v,more[j]?=some (k,v)->∃ ku,i1.toArray[j]?=some ku/\i2.toArray[j]?=some v/\(yd X.prog X.w).is k ku=true:=fun j k v hj=>by
  rw [emore,uj] at hj
  obtain ⟨⟨n,v'⟩,hz,e⟩:=uk.mp hj
  cases e
  rw [List.getElem?_zip_eq_some] at hz
  obtain ⟨ku,hu,ru⟩:=v1.get (i:=j) (x:=.str n) (by rw [uj,hz.1]; rfl)
  obtain ⟨t,rfl⟩:=ru
  exact ⟨_,by simpa using hu,by simpa using hz.2,we _ _ n t⟩
 have km:KV (zkv ns ys) more:=by
  have:∀ {ns:List Str} {ys:List V} {us:List Value},Vals ys us->ns.length=ys.length->KV (zkv ns ys) ((ns.zip us).map fun p=>((.inr p.1:Key),p.2)):=fun {ns ys us} hv hl=>by
   induction hv generalizing ns with
   | nil =>
    cases ns with
    | nil=>exact .nil
    | cons _ _=>simp at hl
   | cons r _ ih =>
    cases ns with
    | nil=>simp at hl
    | cons n ns=>exact .cons ⟨rfl,r⟩ (ih (by simpa using hl))
  rw [emore]
  exact this v2 ll
 have keys:more.map (·.1)=ns.map Sum.inr:=by
  rw [<- Vm ll]
  have:∀ {a:List (Key × V)} {b:List (Key × Value)},KV a b->b.map (·.1)=a.map (·.1):=fun {a b} z=>by
   induction z with
   | nil=>rfl
   | cons h _ ih=>rw [uP,uP,h.1,ih]
  exact this km
 refine callType_codes (Q₁:=fun obj s₁=>obj=.ref h'.objs.size/\s₁={ s1 with heap:=h'.push { cls:=.type "dict",data:=.dict #[] } }) PySem.F.kt_called_dict (PySem.F.kt_typeCall_dict_1 _) PySem.F.entry_dict_init (kt_code_dict_new _ ⟨rfl,rfl⟩) ?_
 rintro obj s₁ ⟨rfl,rfl⟩
 have new:(h'.push { cls:=.type "dict",data:=.dict #[] }).DictOf (yd X.prog X.w) h'.objs.size []:=Heap.DictOf.new h'
 have Z1:ZS k1 k2 (h'.push { cls:=.type "dict",data:=.dict #[] }) B a1 b1 0 .none (.bool false):=Z.at fun b o _ _ e=>uc _ e
 refine ⟨new.typeIs,PySem.F.args_dict_init_2 _ _,?_⟩
 unfold Builtin.«dict.__init__»
 refine wpAny_bind ?_
 unfold Builtin.Dict.selfAndRest
 refine wpAny_bind (wpAny_notOrdered_dict new.typeIs ?_)
 show wpAny _ _ (pure (h'.objs.size,[Value.ref (B + 4)])) _ _ _
 refine wpAny_pure ?_
 show wpAny _ _ (Builtin.Dict.updateFrom "dict.__init__" h'.objs.size (.ref (B + 4)) [] .none) _ _ _
 unfold Builtin.Dict.updateFrom
 refine wpAny_bind (wpAny_typeOf ⟨_,Z1.z,rfl⟩ ?_)
 rw [if_pos (by decide +kernel)]
 refine wpAny_bind (Z6 Z1.z hh fun h2 t2 k2'=>?_)
 rw [if_pos (show ((none:Option Value).isNone=true) from rfl)]
 have Z2:ZS k1 k2 h2 B a1 b1 0 .none (.bool false):=Z1.at fun b o _ _ e=>k2' _ _ e
 obtain ⟨o,es,ep,ho,hr⟩:=id new
 have ho1:=k2' _ _ ho
 have ltD:h'.objs.size < h2.objs.size:=um ho1
 have kall:∀ b o,s1.heap.get? b=some o->h2.get? b=some o:=fun b o e=>k2' _ _ (uc _ (kp _ _ e))
 have ty:∀ t,Shared.TypeIs { s1 with heap:=h2,toks:=t } (.ref (B + 4)) "zip":=fun t=>⟨_,Z2.z,rfl⟩
 refine wpAny_bind (wpAny_rule (wpAny_bind (wpAny_pyIter_slot (ty _) PySem.F.slot_zip_iter (wpAny_call_entry PySem.F.slot_zip_iter (ty _) PySem.F.entry_zip_iter ?_ (PySem.F.args_zip_iter_1 _)))))
 show wpAny _ _ (ret (.ref (B + 4))) _ _ _
 refine wpAny_pure ⟨_,rfl,"zip",_,ty _,PySem.F.slot_zip_next.lookup,?_⟩
 refine wpAny_pure ⟨plainId_quiet yv _,?_⟩
 refine Ze (A:=X.A.in1) (knd:=yd X.prog X.w) (B:=B) (xs:=i1.toArray) (ys:=i2.toArray) (more:=more) hh l1 l2 (by rw [sz]; lia) (by lia) (by rw [uz]; lia) hmore more.length 0 _ _ _ (by lia) (u6 _) Z2 (.inl rfl) (q1.at fun o e=>kall _ o e) (q2.at fun o e=>kall _ o e) ltD ⟨o,es,ep,ho1,hr⟩ (fun h3 tk kk dd=>?_)
 rw [merged_nil_of_nodup more (by rw [keys]; exact List.Pairwise.map _ (fun i j (ne:i≠j) e=>ne (Sum.inr.inj e)) hn)] at dd
 have hk:∀ b o,s1.heap.get? b=some o->h3.get? b=some o:=fun b o e=>by
  have lb:b < B:=by rw [eB]; exact um e
  exact kk b o (.inl lb) (uQ (ux lb (by rw [sz]; exact U3 _ _))) (kall _ _ e)
 refine ⟨rfl,.ref h'.objs.size,_,I1.laid (t':=tk) hk (by rw [sz,eB]; exact U3 _ _) (show ObjOk X.prog X.w _ h3 _ (.dK (zkv ns ys)) from ⟨by rw [Paired.length km]; lia,?_,more,km,dd⟩),rfl,q _ (I1.hok.fresh (by rw [sz,eB]; exact U3 _ _))⟩
 exact beq_eq_false_iff_ne.mpr (fun e=>by rw [sz,eB] at e; rw [<- e] at big; exact absurd big (Nat.not_lt.mpr (U3 _ _)))
theorem Zf (hc:X.calm=true) (hgL:Gl X "dict") (hmL:X.mg "dict"=none) (hgZ:Gl X "zip") (hmZ:X.mg "zip"=none) (ha:jA X [a,b] ta) (h1:zJ a=false:=by rfl) (h2:zJ b=false:=by rfl) :
  jE X (.Call (.Name "dict" p1) [.Call (.Name "zip" p2) [a,b] [] pos2] [] pos1) (Vk X.K ta):=⟨Vn hc hgL hmL hgZ hmZ ha.out (by rw [zK h1,zK h2]; rfl) (by rw [zK h2]; rfl)⟩
end
end L2
namespace L2
open PySem PySem.Spec PyProof.Rows
abbrev Cx.plusP (X:Cx) (pins:List (Addr × Obj)):Cx:={ X with pn:=X.pn ++ pins }
section
variable {X:Cx} {Ch:Addr} {x:Str} {np hpos tpos:Pos} {b0:Stmt} {suite body:List Stmt} {th:Addr->Obj->TS} {tb:XK->TS}
theorem Inv.ofPlus {pins pins':List (Addr × Obj)} {σ:St} {H:Hp} {s:Shared} (ok:X.Ok) (I:Inv (X.plusP pins) pins' σ H s):Inv X (pins ++ pins') σ H s :=
 ⟨ok,I.os,I.bare,I.base,I.loc,I.cell,I.free,I.freeC,fun q hq=>I.pin q (by simpa using hq),I.hok,I.len⟩
theorem Inv.few {pins pins':List (Addr × Obj)} {σ:St} {H:Hp} {s:Shared} (I:Inv X (pins ++ pins') σ H s):Inv X pins σ H s :=
 ⟨I.ok,I.os,I.bare,I.base,I.loc,I.cell,I.free,I.freeC,fun q hq=>I.pin q (by rw [<- uG]; exact Uj _ hq),I.hok,I.len⟩
end
end L2
namespace L2
open PySem PySem.Spec PyProof.Rows
def HB (X:Cx) (hs:List ExceptHandler) (Tk:Ends->XK):Prop:=∀ (pins:List (Addr × Obj)) (σ:St) (D:Ends) (e:Addr) (C:Value) (dx:Option Addr) (H':Hp) (T:Addr) (s:Shared),Tr s.heap e C dx T .none->Inv X pins σ H' s->H' e=none->H' T=none->X.s₀.heap.objs.size<=T->(∀ p∈X.pn ++ pins,p.1≠T)->Tk D C dx H' ->
 wpAny (model X.prog X.w) X.A (handleBy (.ref e) X.env hs) (SP X pins D) X.xe s
def xN (K:ua) (Ch:Addr) (i n:Nat) (th:Addr->Obj->TS) (Tk:Ends->XK):Ends->XK:=fun D C dx H =>
 (PySem.W.exmOne K C (.ref Ch)=some true/\∀ (e:Addr) (oe:Obj) (vs:Array Value) (σ:St),σ.length=n->oe.cls=C->oe.dict=dx->oe.data=.fields vs->vs[2]?=some .none->H e=none->th e oe (D.behind i) (σ.set i (some (.ref e))) H)\/(PySem.W.exmOne K C (.ref Ch)=some false/\Tk D C dx H)
def xNil:Ends->XK:=fun _ _ _ _=>False
section
variable {X:Cx} {Ch:Addr} {x n:Str} {i:Nat} {np hpos tpos:Pos} {b0:Stmt} {suite body:List Stmt} {th:Addr->Obj->TS} {tb:XK->TS} {h0:ExceptHandler} {hs:List ExceptHandler} {Tk:Ends->XK}
theorem zao:HB X [] xNil:=fun _ _ _ _ _ _ _ _ _ _ _ _ _ _ _ h=>False.elim h
theorem za5 (R:HB X hs Tk) (hN:X.N.Nodup) (hi:X.N[i]?=some n) (hg:Gl X x) (hm:X.mg x=some (.ref Ch)) (hS:∀ e oe,jSs (X.inEx (.ref e) [(e,oe)]) (b0 :: suite) (th e oe)) (hl:X.env.scope.names.lookup n=some .local:=by rfl) (hdb:(x == ("__debug__":Str))=false:=by decide) :
  HB X (.ExceptHandler (some (.Name x np)) (some n) (b0 :: suite) hpos :: hs) (xN X.K Ch i X.N.length th Tk):=by
 intro pins σ D e C dx H' T s t J ne nT sT pT h
 obtain ⟨oe,vs,g1,g2,g3,g4,g5⟩:=t.ex
 have Jm:Inv (X.inEx (.ref e) []) pins σ H' s:=J.inEx (.ref e) fun q hq=>nomatch hq
 have LT:PySem.W.Looks (model X.prog X.w) s.heap (typeOf (.ref e)) C:=g2 ▸ (PySem.W.Looks.ld g1).andThen .now
 refine wpAny_handleBy_cons (codeAny_handlers_test (xt Jm hg hm ?_ hdb)) (by intro q; cases q)
 rcases h with ⟨hex,hth⟩ | ⟨hex,hn⟩
 ·refine PySem.W.Looks.here (PySem.W.exm_one (K:=X.K) J.kIn LT hex) ?_
  refine codeAny_handlers_suite_as (wz (v:=none) t fun h3 t3 m3=>?_)
  have J3:Inv X pins σ H' { s with heap:=h3 }:=Inv.moved J (m3.mono (fun b z=>nomatch z) fun _ z=>z) fun b hb=>by
   rw [uh.mp hb]
   obtain ⟨ot,ts,q1,q2,_⟩:=t.tb
   exact ⟨nT,.inr sT,(J.apart q1 q2).1,(J.apart q1 q2).2,pT⟩
  obtain ⟨oe3,vs3,a1,a2,a3,a4,a5⟩:=t3.ex
  have ap:=Inv.apart (s:={ s with heap:=h3 }) J3 a1 a4
  have J4:Inv (X.inEx (.ref e) [(e,oe3)]) pins σ H' { s with heap:=h3 }:=J3.inEx (.ref e) fun q hq=>by
   rw [uh.mp hq]
   exact ⟨a1,ne,ap.1,fun z=>by
    obtain ⟨_,o,ho,nf⟩:=J3.funs.mem z
    have ho':h3.get? e=some o:=ho
    rw [a1] at ho'
    cases ho'
    exact nf vs3 a4,fun v z=>by rw [a4] at z; cases z⟩
  refine wC (X:=X.inEx (.ref e) [(e,oe3)]) (v:=.ref e) J4 hN hi (.inl hl) rfl (fun s4 J5=>?_) (.inr hl)
  refine wpAny_mono ((hS e oe3).out pins s4 _ H' (D.behind i) J5 (hth e oe3 vs3 _ J3.len a2 a3 a4 a5.2 ne)) (fun f s5 q=>?_) fun _ _ z=>False.elim z
  cases f with
  | next =>
   obtain ⟨σ',H5,I5,q⟩:=q
   exact xv (I5.outEx J.ok) hN hi hl fun s6 I6=>⟨_,_,I6,q⟩
  | brk =>
   obtain ⟨σ',H5,I5,q⟩:=q
   exact xv (I5.outEx J.ok) hN hi hl fun s6 I6=>⟨_,_,I6,q⟩
  | cont =>
   obtain ⟨σ',H5,I5,q⟩:=q
   exact xv (I5.outEx J.ok) hN hi hl fun s6 I6=>⟨_,_,I6,q⟩
  | ret w =>
   obtain ⟨v,σ',H5,I5,r,q⟩:=q
   exact xv (I5.outEx J.ok) hN hi hl fun s6 I6=>⟨v,_,_,I6,r,q⟩
 ·refine PySem.W.Looks.here (PySem.W.exm_one (K:=X.K) J.kIn LT hex) ?_
  exact R pins σ D e C dx H' T s t J ne nT sT pT hn
theorem XJ {pins:List (Addr × Obj)} {σ:St} {D:Ends} {u:Value} {s':Shared} (hst:X.stack=X.env :: X.outer) (hf:X.env.frame=some X.env.locals) (R:HB X hs Tk)
  (h:Air X pins σ (Tk D) u s') :
  wpAny (model X.prog X.w) X.A (noteFrame u X.env) (fun _ s2=>wpAny (model X.prog X.w) X.A (setFlight u none) (fun _ s3=>wpAny (model X.prog X.w) X.A (handleBy u X.env hs) (SP X pins D) X.xe s3) X.xe s2) X.xe s':=by
 obtain ⟨e,C,dx,H',k,rfl,I,ne,hk,he,hp,st,hth⟩:=h
 have fr:X.A.frames=some (X.env :: X.outer):=hst ▸ I.ok.frames
 have fs:s'.heap.FunFrames X.base (X.env :: X.outer):=hst ▸ I.stack
 have pk:∀ b,k<=b->∀ p∈X.pn ++ pins,p.1≠b:=fun b hb p q z=>absurd (ux (hp p q) hb) (by rw [z]; exact Us _)
 have two:∀ (h1:Heap) (T:Addr) (xs:List Addr),Tr h1 e C dx T (rawInt X.env.locals)->Mv ((X.env :: X.outer).filterMap (·.frame)) xs s'.heap h1->(∀ b∈xs,H' b=none/\X.s₀.heap.objs.size<=b/\(∀ p∈X.pn ++ pins,p.1≠b)/\∃ o vs,s'.heap.get? b=some o/\o.data=.fields vs)->s'.heap.objs.size<=T ->
   wpAny (model X.prog X.w) X.A (setFlight (.ref e) none) (fun _ s3=>wpAny (model X.prog X.w) X.A (handleBy (.ref e) X.env hs) (SP X pins D) X.xe s3) X.xe { s' with heap:=h1 }:=by
  intro h1 T xs t m hxs hT
  have J1:Inv X pins σ H' { s' with heap:=h1 }:=I.moved (hst ▸ m) fun b hb=>by
   obtain ⟨r1,r2,r3,o,vs,r4,r5⟩:=hxs b hb
   exact ⟨r1,.inr r2,(I.apart r4 r5).1,(I.apart r4 r5).2,r3⟩
  have nT:H' T=none:=I.hok.fresh hT
  have sT:X.s₀.heap.objs.size<=T:=uX I.sz hT
  have pT:∀ p∈X.pn ++ pins,p.1≠T:=fun p q z=>absurd (ux (um (I.pin p q).1) hT) (by rw [z]; exact Us _)
  refine wz (s:={ s' with heap:=h1 }) (v:=none) t fun h2 t2 m2=>R pins σ D e C dx H' T { s' with heap:=h2 } t2 (Inv.moved (s:={ s' with heap:=h1 }) J1 (m2.mono (fun b z=>nomatch z) fun _ z=>z) fun b hb=>?_) ne nT sT pT hth
  rw [uh.mp hb]
  obtain ⟨ot,ts,q1,q2,_⟩:=t.tb
  exact ⟨nT,.inr sT,(J1.apart q1 q2).1,(J1.apart q1 q2).2,pT⟩
 rcases st with ⟨oe,vs,h1,rfl,rfl,h4,h5,h6⟩ | ⟨T0,t0,n0,s0⟩
 ·refine vy fr fs hf h1 h4 h5 h6 fun h' T hs t m=>two h' T [e] t m (fun b hb=>?_) hs
  rw [uh.mp hb]
  exact ⟨ne,uX hk he,pk e he,oe,vs,h1,h4⟩
 ·refine jU fr fs hf t0 fun h' T hs t m=>two h' T [e,T0] t m (fun b hb=>?_) hs
  rcases uq.mp hb with r | hb
  ·rw [r]
   obtain ⟨oe,vs,q1,_,_,q4,_⟩:=t0.ex
   exact ⟨ne,uX hk he,pk e he,oe,vs,q1,q4⟩
  ·rw [uh.mp hb]
   obtain ⟨ot,ts,q1,q2,_⟩:=t0.tb
   exact ⟨n0,uX hk s0,pk T0 s0,ot,ts,q1,q2⟩
end
end L2
namespace L2
open PySem PySem.Spec PyProof.Rows
def onW (X:Cx) (pins:List (Addr × Obj)) (hs:List ExceptHandler) (D:Ends):Value->Shared->Prop:=fun u s2=>wpAny (model X.prog X.w) X.A (setFlight u none) (fun _ s3=>wpAny (model X.prog X.w) X.A (handleBy u X.env hs) (SP X pins D) X.xe s3) X.xe s2
abbrev Cx.inTryW (X:Cx) (pins:List (Addr × Obj)) (hs:List ExceptHandler) (D:Ends):Cx:={ X with pn:=X.pn ++ pins,xe:=fun u s'=>wpAny (model X.prog X.w) X.A (noteFrame u X.env) (fun _ s2=>onW X pins hs D u s2) X.xe s' }
section
variable {X:Cx} {tpos:Pos} {body:List Stmt} {tb:Ends->TS} {h0:ExceptHandler} {hs:List ExceptHandler} {Tk:Ends->XK}
theorem Inv.toTryW {pins:List (Addr × Obj)} {σ:St} {H:Hp} {s:Shared} {D:Ends} (I:Inv X pins σ H s):Inv (X.inTryW pins hs D) [] σ H s :=
 ⟨⟨I.ok.mod,I.ok.kind,I.ok.glob,I.ok.blt,I.ok.above,I.ok.inj,I.ok.has,I.ok.cab,I.ok.hd,I.ok.frames,I.ok.stk,I.ok.exf,I.ok.bs,I.ok.bsz,I.ok.noex,I.ok.exfs,I.ok.funs,I.ok.frf⟩,I.os,I.bare,I.base,I.loc,I.cell,I.free,I.freeC,fun q hq=>I.pin q (by simpa using hq),I.hok,I.len⟩
theorem Inv.ofTryW {pins:List (Addr × Obj)} {σ:St} {H:Hp} {s:Shared} {D:Ends} (ok:X.Ok) (I:Inv (X.inTryW pins hs D) [] σ H s):Inv X pins σ H s :=
 ⟨ok,I.os,I.bare,I.base,I.loc,I.cell,I.free,I.freeC,fun q hq=>I.pin q (by simpa using hq),I.hok,I.len⟩
theorem Vo {pins:List (Addr × Obj)} {D:Ends}:PassesOwn (model (X.inTryW pins hs D).prog (X.inTryW pins hs D).w) (X.inTryW pins hs D).A (X.inTryW pins hs D).env (X.inTryW pins hs D).xe:=PassesOwn.looking
theorem XL {pins:List (Addr × Obj)} {D:Ends} (R:HB X hs Tk) (ok:X.Ok) (hst:X.stack=X.env :: X.outer:=by rfl) (hf:X.env.frame=some X.env.locals:=by rfl):yo (CXf X.prog X.w) (X.inTryW pins hs D) (Tk D):=fun pins' σ H1 s1 u s2 I h=>by
 have I0:Inv (X.plusP pins) pins' σ H1 s1:=⟨⟨I.ok.mod,I.ok.kind,I.ok.glob,I.ok.blt,I.ok.above,I.ok.inj,I.ok.has,I.ok.cab,I.ok.hd,I.ok.frames,I.ok.stk,I.ok.exf,I.ok.bs,I.ok.bsz,I.ok.noex,I.ok.exfs,I.ok.funs,I.ok.frf⟩,I.os,I.bare,I.base,I.loc,I.cell,I.free,I.freeC,I.pin,I.hok,I.len⟩
 obtain ⟨e,C,dx,H',k,rfl,I5,ne,hk,he,hp,st,hE⟩:=Ws (X:=X.plusP pins) rfl rfl I0 h
 have a:Air X (pins ++ pins') σ (Tk D) (.ref e) s2:=⟨e,C,dx,H',k,rfl,I5.ofPlus ok,ne,hk,he,fun p q=>hp p (by simpa using q),st,hE⟩
 have g:=XJ hst hf R a
 have sp:∀ f s3,SP X (pins ++ pins') D f s3->SP X pins D f s3:=fun f s3 q=>by
  cases f with
  | next=>obtain ⟨σ',H5,I5,q⟩:=q; exact ⟨_,_,I5.few,q⟩
  | brk=>obtain ⟨σ',H5,I5,q⟩:=q; exact ⟨_,_,I5.few,q⟩
  | cont=>obtain ⟨σ',H5,I5,q⟩:=q; exact ⟨_,_,I5.few,q⟩
  | ret w=>obtain ⟨v,σ',H5,I5,r,q⟩:=q; exact ⟨v,_,_,I5.few,r,q⟩
 exact wpAny_mono g (fun _ s2 q=>wpAny_mono q (fun _ s3 q=>wpAny_mono q sp fun _ _ z=>z) fun _ _ z=>z) fun _ _ z=>z
def za6 (tb:Ends->TS):TS:=fun D σ H=>tb D D σ H
theorem J6 (hb:∀ pins D,X.Ok->jSs (X.inTryW pins (h0 :: hs) D) body (tb D)):jS X (.Try body (h0 :: hs) [] [] tpos) (za6 tb):=by
 constructor
 intro pins s σ H D I h
 refine wpAny_Try_except (wpAny_mono ((hb pins D I.ok).out [] s σ H D I.toTryW h) (fun f s1 q=>?_) (fun u s1 q=>q))
 cases f with
 | next =>
  obtain ⟨σ',H5,I5,q⟩:=q
  exact wpAny_execs_nil ⟨_,_,I5.ofTryW I.ok,q⟩
 | brk =>
  obtain ⟨σ',H5,I5,q⟩:=q
  exact ⟨_,_,I5.ofTryW I.ok,q⟩
 | cont =>
  obtain ⟨σ',H5,I5,q⟩:=q
  exact ⟨_,_,I5.ofTryW I.ok,q⟩
 | ret w =>
  obtain ⟨v,σ',H5,I5,r,q⟩:=q
  exact ⟨v,_,_,I5.ofTryW I.ok,r,q⟩
def zap (tc:TT) (tb:Ends->TS):TS:=fun D σ H=>vN tc (tb D) D σ H
theorem Vp {c:Expr} {sts:List Stmt} {wpos:Pos} {tc:TT} (hc:∀ pins D,X.Ok->jT (X.inTryW pins (h0 :: hs) D) c tc) (hb:∀ pins D,X.Ok->jSs (X.inTryW pins (h0 :: hs) D) sts (tb D)):jS X (.Try [.While c sts [] wpos] (h0 :: hs) [] [] tpos) (zap tc tb) :=
 J6 (tb:=fun D=>vN tc (tb D)) fun pins D ok=>zk (wK Vo (hc pins D ok) (hb pins D ok))
end
end L2
namespace PySem.W
open PySem PySem.Spec PySem.Calls PyProof.Rows
section
variable {prog:Program} {w:World} {A:Around} {E:Value->Shared->Prop} {s:Shared} {K:Frag} {e C:Addr} {ox:Obj} {od:Option Obj}
end
end PySem.W
namespace L2
open PySem PySem.Spec PyProof.Rows
inductive ClsV:V->Value->Prop where
 | ref (C:Addr):ClsV (.ref C) (.ref C)
 | ty (T:String):ClsV (.ty T) (.type T)
inductive ClsVs:List V->List Value->Prop where
 | nil:ClsVs [] []
 | cons {D:V} {c:Value} {Ds:List V} {cs:List Value} (h:ClsV D c) (t:ClsVs Ds cs):ClsVs (D :: Ds) (c :: cs)
inductive Asked (K:ua) (t:Value) (H:Hp):V->Bool->Prop where
 | one {D:V} {c:Value} {b:Bool} (h:ClsV D c) (e:PySem.W.kitOne K t c=some b):Asked K t H D b
 | tup {tp:Addr} {Ds:List V} {cs:List Value} {b:Bool} (ht:H tp=some (.tup Ds)) (h:ClsVs Ds cs) (e:PySem.W.kitAny K t cs=some b):Asked K t H (.ref tp) b
section
variable {X:Cx} {e C d:Addr} {oe:Obj} {pins:List (Addr × Obj)} {s:Shared} {σ:St} {H:Hp} {od:Option Obj} {D:V} {b:Bool} {u:Value} {Q:VK}
end
section
variable {X:Cx} {k:Nat} {C f:Addr} {ps:List Str} {sp:Sp} {x name:Str} {np cpos pos:Pos} {a ex:Expr} {as:List Expr} {t:TA} {te:TE}
end
end L2
namespace GN
open PySem L2 K11
theorem nxt {D:Ends} {σ:St} {H:Hp} (h:D.nx σ H):Yc D σ H:=h
theorem zV {b:Bool} {A B:Prop} (e:b=true) (h:A):if b=true then A else B:=by rw [if_pos e]; exact h
theorem zI {b:Bool} {A B:Prop} (e:b=false) (h:B):if b=true then A else B:=by rw [if_neg (by rw [e]; decide)]; exact h
def KX (S:List Addr) (H H':Hp):Prop:=∀ b o,b ∉ S->H b=some o->H' b=some o
section
variable {S S':List Addr} {H H1 H2:Hp} {a:Addr} {o:HO}
theorem KX.refl:KX S H H:=fun _ _ _ h=>h
theorem KX.trans (x:KX S H H1) (y:KX S H1 H2):KX S H H2:=fun b o n h=>y b o n (x b o n h)
theorem KX.mono (x:KX S H H1) (h:∀ b∈S,b∈S'):KX S' H H1:=fun b o n q=>x b o (fun z=>n (h b z)) q
theorem KX.of (h:Same H H1):KX S H H1:=fun b o _ q=>h b o q
theorem KX.put (x:KX S H H1) (h:a∈S):KX S H (upd H1 a o):=fun b u n q=>by
 rw [zm (fun z=>n (by rw [z]; exact h))]
 exact x b u n q
theorem KX.putN (x:KX S H H1) (h:H a=none):KX S H (upd H1 a o):=fun b u n q=>by
 rw [zm (zo q h)]
 exact x b u n q
theorem KX.new (x:KX S H H1) (h:H1 a=none):KX S H (upd H1 a o):=fun b u n q=>by
 have:=x b u n q
 rw [zm (zo this h)]
 exact this
end
inductive Dd
 | num (i:Int)
 | op (w a b:Str)
 | mk (t:Str) (ns:List Str)
def IsDd (H:Hp):Dd->Addr->Prop
 | .num i,p=>H p=some (.tup [.str "num",.int i])
 | .op w a b,p=>H p=some (.tup [.str "op",.str w,.str a,.str b])
 | .mk t ns,p=>∃ q,H p=some (.tup [.str "make",.str t,.ref q])/\H q=some (.tup (ns.map V.str))
theorem IsDd.keep {H H':Hp} (t:Tups H H'):∀ {d:Dd} {p:Addr},IsDd H d p->IsDd H' d p
 | .num _,_,h=>t _ _ h
 | .op _ _ _,_,h=>t _ _ h
 | .mk _ _,_,⟨q,a,b⟩=>⟨q,t _ _ a,t _ _ b⟩
def IsBy (H:Hp):List (Str × Dd)->Str->Addr->Prop
 | [],x,p=>H p=some (.tup [.str "give",.str x])
 | (n,d) :: r,x,p=>∃ pd pb,H p=some (.tup [.str "let",.str n,.ref pd,.ref pb])/\IsDd H d pd/\IsBy H r x pb
abbrev En:=List (Str × List V)
def valE (e:En) (n:Str):Option (List V):=(e.find? fun p=>decide (p.1=n)).map (·.2)
def putE (e:En) (n:Str) (v:List V):En:=if (e.any fun p=>decide (p.1=n))=true then e.map (fun p=>if p.1=n then (p.1,v) else p) else e ++ [(n,v)]
theorem yO (n:Str):∀ e:En,(e.any fun p=>decide (p.1=n))=(valE e n).isSome
 | []=>rfl
 | p :: r=>by
  rw [UL]
  unfold valE
  rw [Uk]
  by_cases c:p.1=n
  ·simp [c]
  ·rw [decide_eq_false c,Bool.false_or]
   exact yO n r
theorem Zg {e:En} {n m:Str} {v:List V} (h:m=n\/(valE e m).isSome=true):(valE (putE e n v) m).isSome=true:=by
 rw [<- yO,List.any_eq_true]
 unfold putE
 by_cases a:(e.any fun p=>decide (p.1=n))=true
 ·rw [if_pos a]
  have:(e.any fun p=>decide (p.1=m))=true:=by
   rcases h with rfl | h
   ·exact a
   ·rw [yO]; exact h
  obtain ⟨p,hp,hd⟩:=List.any_eq_true.mp this
  refine ⟨_,Ua.mpr ⟨p,hp,rfl⟩,?_⟩
  split
  ·exact hd
  ·exact hd
 ·rw [if_neg a]
  rcases h with rfl | h
  ·exact ⟨_,uM _ (uh.mpr rfl),by simp⟩
  ·rw [<- yO] at h
   obtain ⟨p,hp,hd⟩:=List.any_eq_true.mp h
   exact ⟨p,Uj _ hp,hd⟩
inductive ER (R:V->List V->Prop):List (Key × V)->En->Prop
 | nil:ER R [] []
 | cons {n:Str} {v:V} {f:List V} {kvs:List (Key × V)} {e:En}:R v f->ER R kvs e->ER R ((.inr n,v) :: kvs) ((n,f) :: e)
section
variable {R R':V->List V->Prop} {kvs:List (Key × V)} {e:En} {n:Str} {v:V} {f:List V}
theorem ER.mono (h:ER R kvs e) (g:∀ v f,R v f->R' v f):ER R' kvs e:=by
 induction h with
 | nil=>exact .nil
 | cons a _ ih=>exact .cons (g _ _ a) ih
theorem ER.val (h:ER R kvs e) (g:valE e n=some f):∃ v,valV kvs (.inr n)=some v/\R v f:=by
 induction h with
 | nil=>cases g
 | @cons m u w kvs e a _ ih =>
  unfold valE at g
  rw [Uk] at g
  by_cases c:m=n
  ·rw [decide_eq_true c] at g
   cases g
   exact ⟨u,yk (by rw [c]),a⟩
  ·rw [decide_eq_false c] at g
   obtain ⟨v,h1,h2⟩:=ih g
   exact ⟨v,by rw [ym (fun z=>c (Sum.inr.inj z))]; exact h1,h2⟩
theorem ER.any (h:ER R kvs e):(kvs.any fun kv=>decide (kv.1=(Sum.inr n:Key)))=(e.any fun p=>decide (p.1=n)):=by
 induction h with
 | nil=>rfl
 | @cons m u w kvs e a _ ih =>
  rw [UL,UL,ih]
  congr 1
  by_cases c:m=n
  ·rw [decide_eq_true c,decide_eq_true (by rw [c])]
  ·rw [decide_eq_false c,decide_eq_false (fun z=>c (Sum.inr.inj z))]
theorem ER.app {k2:List (Key × V)} {e2:En} (h:ER R kvs e) (g:ER R k2 e2):ER R (kvs ++ k2) (e ++ e2):=by
 induction h with
 | nil=>exact g
 | cons a _ ih=>exact .cons a ih
theorem ER.mapput (h:ER R kvs e) (g:R v f):ER R (kvs.map fun kv=>if kv.1=Sum.inr n then (kv.1,v) else kv) (e.map fun p=>if p.1=n then (p.1,f) else p):=by
 induction h with
 | nil=>exact .nil
 | @cons m u w kvs e a _ ih =>
  rw [uP,uP]
  by_cases c:m=n
  ·rw [if_pos (by rw [c]),if_pos c]
   exact .cons g ih
  ·rw [if_neg (fun z=>c (Sum.inr.inj z)),if_neg c]
   exact .cons a ih
theorem ER.put (h:ER R kvs e) (g:R v f):ER R (putK kvs (.inr n) v) (putE e n f):=by
 unfold putK putE
 rw [h.any]
 split
 ·exact h.mapput g
 ·exact h.app (.cons g .nil)
end
def Vl (H:Hp) (v:V) (f:List V):Prop:=PtL H [v] f/\∀ i,v=.int i->Sm i
def nf:List V->Option Int
 | .int i :: _=>some i
 | _=>none
theorem Vl.nu {H:Hp} {v:V} {f:List V} (h:Vl H v f):K31.Nu H v (nf f):=by
 obtain ⟨h1,h2⟩:=h
 cases h1 with
 | num _=>exact .int (h2 _ rfl)
 | shp a _ _ _ _=>exact .tup a
def outE (e:En):Dd->List V ⊕ Str
 | .num i=>.inl [.int i]
 | .op w a b=>if K31.fw w (nf ((valE e a).getD [])) (nf ((valE e b).getD []))="" then .inl [.int (K31.res w ((nf ((valE e a).getD [])).getD 0) ((nf ((valE e b).getD [])).getD 0))] else .inr (K31.fw w (nf ((valE e a).getD [])) (nf ((valE e b).getD [])))
 | .mk t ns=>.inl (.str t :: (ns.map fun n=>(valE e n).getD []).flatten)
def OkD (ks:List Str):Dd->Prop
 | .num i=>Sm i
 | .op _ a b=>a∈ks/\b∈ks
 | .mk _ ns=>(∀ n∈ns,n∈ks)/\ns.length<=9
def Bnd (ks:List Str) (e:En):Prop:=∀ n∈ks,(valE e n).isSome=true
theorem Bnd.get {ks:List Str} {e:En} (h:Bnd ks e) {n:Str} (m:n∈ks):∃ f,valE e n=some f:=UD.mp (h n m)
theorem Bnd.put {ks:List Str} {e:En} (h:Bnd ks e) {n:Str} {f:List V}:Bnd (ks ++ [n]) (putE e n f):=fun m hm=>by
 rcases uN.mp hm with hm | hm
 ·exact Zg (.inr (h m hm))
 ·exact Zg (.inl (uh.mp hm))
theorem J7 {w:Str} {x y:Option Int} (h:K31.fw w x y=""):∃ i j,x=some i/\y=some j/\-1000000000000000000000000000000 < K31.res w i j/\K31.res w i j < 1000000000000000000000000000000:=by
 match x,y,h with
 | some i,some j,h =>
  rw [K31.fw_ss] at h
  split at h
  ·cases h
  ·split at h
   ·rename_i c
    exact ⟨i,j,rfl,rfl,c⟩
   ·cases h
 | none,_,h=>cases h
 | some _,none,h=>cases h
end GN
namespace GN
open PySem L2 K11
structure Rn (K:ua) (cR:Addr):Prop where
 cl:Cls K cR
 a1:NoAttr K cR "defs"
 a2:NoAttr K cR "steps"
 a3:NoAttr K cR "done"
 a4:NoAttr K cR "waiting"
 a5:NoAttr K cR "body"
 a6:NoAttr K cR "names"
 a7:NoAttr K cR "end"
abbrev RF (d:Addr) (st dn:Int) (wl:Addr) (b:V) (nd:Addr) (e:V):List (Str × V):=[("defs",.ref d),("steps",.int st),("done",.int dn),("waiting",.ref wl),("body",b),("names",.ref nd),("end",e)]
def RO (cR dx d:Addr) (st dn:Int) (wl:Addr) (b:V) (nd:Addr) (e:V):HO:=.ins cR dx (RF d st dn wl b nd e)
def ErrW (C:Addr) (E:XK) (H:Hp) (w:Str):Prop:=∀ dd H',Same H H'->H' dd=some (XD dd [("word",.str w)])->E (.ref C) (some dd) H'
theorem ErrW.at {C:Addr} {E:XK} {H H1:Hp} {w:Str} (h:ErrW C E H w) (s:Same H H1):ErrW C E H1 w:=fun dd H' s' e=>h dd H' (s.trans s') e
def vals (kvs:List (Key × V)) (ns:List Str):List V:=ns.map fun n=>(valV kvs (.inr n)).getD .non
def xZ (cR:Addr):Sp:=fun vs H Q _=>∃ (r dx d wl nd q:Addr) (st dn:Int) (b en:V) (kvs:List (Key × V)) (ns:List Str),vs=[.ref r,.ref q]/\H r=some (RO cR dx d st dn wl b nd en)/\H nd=some (.dK kvs)/\H q=some (.tup (ns.map V.str))/\(∀ n∈ns,∃ v,valV kvs (.inr n)=some v)/\ns.length<=1000/\∀ H' l,Same H H'->H l=none->H' l=some (.lst (vals kvs ns))->Q (.ref l) H'
section
variable {P:Program} {w:World} {K:ua} {mg:Str->Option Value} {base:Heap} {f R C cR:Addr} {fd:FuncData}
theorem Vq:FnScope ["self","names"] ["self","names"] (zp jh):=⟨rfl,rfl,rfl,by decide +kernel,rfl,by decide +kernel,by decide +kernel⟩
theorem Vr:(["self","names","name"]:List Str).Nodup:=by decide +kernel
theorem XM (F:Fun K "valued" "Run.valued" jh f fd) (T:Rn K cR):FnOk P w K mg base CX0 1 f fd ["self","names"] (xZ cR):=by
 refine F.by Vq (fun vs H Q E h=>?_) (fun cdv A outer s H vs Q E hr h=>?_)
 ·obtain ⟨r,dx,d,wl,nd,q,st,dn,b,en,kvs,ns,rfl,_⟩:=h
  rfl
 obtain ⟨r,dx,d,wl,nd,q,st,dn,b,en,kvs,ns,rfl,hR,hN,hq,hall,hl,qq⟩:=h
 refine ⟨_,(zk (zx (yA ["name"] rfl (xJ (jv 1)) (fun _ _ _ _ _=>(zD (i:=2) Vr rfl (Or.inl rfl))) (fun _ _ _ _ _=>ya) (fun _ _ _ _ _=>(zX hr (YC K (jv 0)) (jv 2)))))),?_⟩
 have sl:=zQ
 refine ⟨_,rfl,_,rfl,⟨_,SqT.of hq⟩,ZP (xs:=ns.map V.str) (fun j τ ys H'=>H'=H/\(∃ v,τ=[some (.ref r),some (.ref q),v])/\ys=vals kvs (ns.take j)) ⟨rfl,⟨none,rfl⟩,rfl⟩ (fun j τ ys H' _ h=>by rw [h.1]; exact SqT.of hq) ?_ ?_⟩
 ·rintro j v τ ys H1 hv ⟨rfl,⟨u,rfl⟩,rfl⟩
  rw [uj] at hv
  obtain ⟨n,hn,rfl⟩:=uk.mp hv
  obtain ⟨v,hv⟩:=hall n (uu hn)
  have hj:=(ud.mp hn).1
  refine ⟨_,rfl,r,cR,dx,_,_,rfl,hR,T.cl,T.a6,rfl,_,rfl,nd,v,rfl,?_,?_,rfl,⟨_,rfl⟩,?_⟩
  ·rw [<- hv]
   exact DGet.k (k:=.inr n) hN
  ·unfold vals
   rw [ub,uR]
   lia
  ·unfold vals
   rw [Ux,hn,uF]
   show _=_ ++ [(valV kvs (.inr n)).getD .non]
   rw [hv]
   rfl
 ·rintro τ ys H1 ⟨rfl,_,rfl⟩ l hl'
  rw [ub,uE (ui _)]
  exact qq _ l (same_new hl' _) hl' zf
theorem scOut:FnScope ["self","deed","tag"] ["self","deed"] (zp sOut):=⟨rfl,rfl,rfl,by decide +kernel,rfl,by decide +kernel,by decide +kernel⟩
end
end GN
namespace GN
open PySem L2 K11
theorem KX.tups {S:List Addr} {H H':Hp} (k:KX S H H') (h:∀ a∈S,∀ xs,H a≠some (.tup xs)):Tups H H':=fun p xs q=>k p _ (fun z=>h p z xs q) q
theorem x3 (kvs:List (Key × V)) (k:Key) (v:V):(putK kvs k v).length<=kvs.length + 1:=by
 unfold putK
 split
 ·rw [ub]; lia
 ·rw [uf]; exact ui _
inductive Dx
 | dd (d:Dd)
 | call (g:Str) (ns:List Str)
 | fn (g:Str) (ns:List Str)
 | ask (x:Str) (ns:List Str)
def IsDx (H:Hp):Dx->Addr->Prop
 | .dd d,p=>IsDd H d p
 | .call g ns,p=>∃ q,H p=some (.tup [.str "call",.str g,.ref q])/\H q=some (.tup (ns.map V.str))
 | .fn g ns,p=>∃ q,H p=some (.tup [.str "func",.str g,.ref q])/\H q=some (.tup (ns.map V.str))
 | .ask g ns,p=>∃ q,H p=some (.tup [.str "ask",.str g,.ref q])/\H q=some (.tup (ns.map V.str))
theorem IsDx.keep {H H':Hp} (t:Tups H H'):∀ {d:Dx} {p:Addr},IsDx H d p->IsDx H' d p
 | .dd _,_,h=>IsDd.keep t h
 | .call _ _,_,⟨q,a,b⟩=>⟨q,t _ _ a,t _ _ b⟩
 | .fn _ _,_,⟨q,a,b⟩=>⟨q,t _ _ a,t _ _ b⟩
 | .ask _ _,_,⟨q,a,b⟩=>⟨q,t _ _ a,t _ _ b⟩
mutual
inductive Bd
 | lt (n:Str) (d:Dx) (b:Bd)
 | give (x:Str)
 | iff (x:Str) (b c:Bd)
 | cs (x:Str) (as:Arms)
inductive Arms
 | nil
 | cons (t:Str) (ns:List Str) (b:Bd) (r:Arms)
end
mutual
def Bd.sz:Bd->Nat
 | .lt _ _ b=>b.sz + 1
 | .give _=>1
 | .iff _ b c=>b.sz + c.sz + 1
 | .cs _ as=>as.sz + 1
def Arms.sz:Arms->Nat
 | .nil=>0
 | .cons _ ns b r=>ns.length + b.sz + r.sz + 1
end
mutual
def IsBd (H:Hp):Bd->Addr->Prop
 | .lt n d b,p=>∃ q r,H p=some (.tup [.str "let",.str n,.ref q,.ref r])/\IsDx H d q/\IsBd H b r
 | .give x,p=>H p=some (.tup [.str "give",.str x])
 | .iff x b c,p=>∃ q r,H p=some (.tup [.str "if",.str x,.ref q,.ref r])/\IsBd H b q/\IsBd H c r
 | .cs x as,p=>∃ q ts,H p=some (.tup [.str "case",.str x,.ref q])/\H q=some (.tup (ts.map V.ref))/\IsArms H as ts
def IsArms (H:Hp):Arms->List Addr->Prop
 | .nil,ts=>ts=[]
 | .cons t ns b r,ts=>∃ p q s ts',ts=p :: ts'/\H p=some (.tup [.str t,.ref q,.ref s])/\H q=some (.tup (ns.map V.str))/\IsBd H b s/\IsArms H r ts'
end
mutual
theorem IsBd.keep {H H':Hp} (t:Tups H H'):∀ {b:Bd} {p:Addr},IsBd H b p->IsBd H' b p
 | .lt n d b,p,h=>let ⟨q,r,a,e,f⟩:=h; ⟨q,r,t _ _ a,e.keep t,IsBd.keep t f⟩
 | .give x,p,h=>t _ _ h
 | .iff x b c,p,h=>let ⟨q,r,a,e,f⟩:=h; ⟨q,r,t _ _ a,IsBd.keep t e,IsBd.keep t f⟩
 | .cs x as,p,h=>let ⟨q,ts,a,e,f⟩:=h; ⟨q,ts,t _ _ a,t _ _ e,IsArms.keep t f⟩
theorem IsArms.keep {H H':Hp} (t:Tups H H'):∀ {as:Arms} {ts:List Addr},IsArms H as ts->IsArms H' as ts
 | .nil,ts,h=>h
 | .cons g ns b r,ts,h=>let ⟨p,q,s,ts',e,a1,a2,a3,a4⟩:=h; ⟨p,q,s,ts',e,t _ _ a1,t _ _ a2,IsBd.keep t a3,IsArms.keep t a4⟩
end
def Arms.hs:Arms->List (Str × List Str × Bd)
 | .nil=>[]
 | .cons t ns b r=>(t,ns,b) :: r.hs
theorem Arms.hs_sz:∀ {as:Arms} {a:Str × List Str × Bd},a∈as.hs->a.2.2.sz + a.2.1.length < as.sz
 | .nil,_,h=>by cases h
 | .cons t ns b r,a,h=>by
  rcases uq.mp h with rfl | h
  ·show b.sz + ns.length < ns.length + b.sz + r.sz + 1; lia
  ·have:=Arms.hs_sz h
   show _ < ns.length + b.sz + r.sz + 1
   lia
theorem IsArms.get {H:Hp}:∀ {as:Arms} {ts:List Addr},IsArms H as ts->ts.length=as.hs.length/\∀ (i:Nat) (p:Addr) (a:Str × List Str × Bd),ts[i]?=some p->as.hs[i]?=some a->∃ q s,H p=some (.tup [.str a.1,.ref q,.ref s])/\H q=some (.tup (a.2.1.map V.str))/\IsBd H a.2.2 s
 | .nil,ts,h=>by
  have h':ts=[]:=h
  subst h'
  exact ⟨rfl,fun i p a e=>by simp at e⟩
 | .cons t ns b r,ts,h=>by
  obtain ⟨p',q,s,ts',rfl,a1,a2,a3,a4⟩:=h
  obtain ⟨l,g⟩:=IsArms.get a4
  refine ⟨by show ts'.length + 1=r.hs.length + 1; lia,fun i p a e1 e2=>?_⟩
  match i,e1,e2 with
  | 0,e1,e2=>cases e1; cases e2; exact ⟨q,s,a1,a2,a3⟩
  | i + 1,e1,e2=>exact g i p a (by simpa using e1) (by rw [Arms.hs,List.getElem?_cons_succ] at e2; exact e2)
def pcs (kvs:Kvs):Nat->List V->List V->List (List V)
 | _,[],acc=>if acc=[] then [] else [acc]
 | lack,x :: xs,acc =>
  if lack - 1 + (dl kvs x).getD 0=0 then (acc ++ [x]) :: pcs kvs 1 xs [] else pcs kvs (lack - 1 + (dl kvs x).getD 0) xs (acc ++ [x])
theorem wY (kvs:Kvs) (n:Nat) (x:V) (xs acc:List V):pcs kvs n (x :: xs) acc=if n - 1 + (dl kvs x).getD 0=0 then (acc ++ [x]) :: pcs kvs 1 xs [] else pcs kvs (n - 1 + (dl kvs x).getD 0) xs (acc ++ [x]):=rfl
theorem zaq {kvs:Kvs} {H:Hp} {xs:List V} (h:Pz kvs H [] xs):xs=[]:=by cases h; rfl
theorem Vs {kvs:Kvs} {H:Hp} {us xs:List V} (h:Pz kvs H us xs):∀ (n:Nat) (ys acc:List V),0 < us.length->us.length<=n->pcs kvs n (xs ++ ys) acc=if us.length=n then (acc ++ xs) :: pcs kvs 1 ys [] else pcs kvs (n - us.length) ys (acc ++ xs):=by
 induction h with
 | nil=>intro n ys acc h; exact absurd h (by decide)
 | @num i vs xs hi hv ih =>
  intro n ys acc _ hn
  have hn:vs.length + 1<=n:=hn
  rw [Uc,wY]
  have d0:(dl kvs (.int i)).getD 0=0:=by
   have:dl kvs (.int i)=some 0:=if_pos hi
   rw [this]; rfl
  rw [d0]
  show _=if vs.length + 1=n then _ else _
  by_cases c:vs=[]
  ·subst c
   cases hv
   by_cases c1:n=1
   ·rw [if_pos (by lia),if_pos (by show 0 + 1=n; lia)]
    rfl
   ·rw [if_neg (by lia),if_neg (by show ¬ 0 + 1=n; lia)]
    rfl
  ·have lv:0 < vs.length:=by cases vs with | nil=>exact absurd rfl c | cons _ _=>exact Nat.succ_pos _
   rw [if_neg (by lia),ih (n - 1 + 0) ys _ lv (by lia),uG]
   by_cases c1:vs.length + 1=n
   ·rw [if_pos (by lia),if_pos c1]; rfl
   ·rw [if_neg (by lia),if_neg c1,show n - 1 + 0 - vs.length=n - (vs.length + 1) by lia]; rfl
 | @shp p q t us vs xs zs h1 h2 hs h9 g1 g2 ih1 ih2 =>
  intro n ys acc _ hn
  have hn:vs.length + 1<=n:=hn
  rw [Uc,wY]
  have d0:(dl kvs (.str t)).getD 0=us.length:=by
   have:dl kvs (.str t)=some us.length:=hs
   rw [this]; rfl
  rw [d0]
  show _=if vs.length + 1=n then _ else _
  have tail:∀ acc':List V,n≠1->pcs kvs (n - 1) (zs ++ ys) acc'=if vs.length + 1=n then (acc' ++ zs) :: pcs kvs 1 ys [] else pcs kvs (n - (vs.length + 1)) ys (acc' ++ zs):=fun acc' c1=>by
   by_cases c:vs=[]
   ·subst c
    cases g2
    rw [if_neg (by show ¬ 0 + 1=n; lia),uO]
    rfl
   ·have lv:0 < vs.length:=by cases vs with | nil=>exact absurd rfl c | cons _ _=>exact Nat.succ_pos _
    rw [ih2 (n - 1) ys _ lv (by lia)]
    by_cases c2:vs.length + 1=n
    ·rw [if_pos (by lia),if_pos c2]
    ·rw [if_neg (by lia),if_neg c2,show n - 1 - vs.length=n - (vs.length + 1) by lia]
  by_cases cu:us=[]
  ·subst cu
   cases g1
   by_cases c1:n=1
   ·have:vs=[]:=by cases vs with | nil=>rfl | cons _ _=>simp at hn; lia
    subst this
    cases g2
    rw [if_pos (by show n - 1 + 0=0; lia),if_pos (by show 0 + 1=n; lia)]
    rfl
   ·rw [if_neg (by show ¬ n - 1 + 0=0; lia)]
    have:=tail (acc ++ [.str t]) c1
    rw [uG] at this
    exact this
  ·have lu:0 < us.length:=by cases us with | nil=>exact absurd rfl cu | cons _ _=>exact Nat.succ_pos _
   rw [if_neg (by lia),uG,ih1 (n - 1 + us.length) (zs ++ ys) _ lu (by lia)]
   by_cases c1:n=1
   ·have:vs=[]:=by cases vs with | nil=>rfl | cons _ _=>simp at hn; lia
    subst this
    cases g2
    rw [if_pos (by lia),if_pos (by show 0 + 1=n; lia),uG,uO]
    rfl
   ·rw [if_neg (by lia),show n - 1 + us.length - us.length=n - 1 by lia,tail _ c1,uG,uG]
    rfl
theorem wA {kvs:Kvs} {H:Hp}:∀ {us xs:List V},Pz kvs H us xs->∃ fs,pcs kvs 1 xs []=fs/\fs.length=us.length/\∀ (j:Nat) u f,us[j]?=some u->fs[j]?=some f->Pz kvs H [u] f
 | [],xs,h=>by
  rw [zaq h]
  exact ⟨[],rfl,rfl,fun j u f h=>by simp at h⟩
 | u :: us,xs,h=>by
  obtain ⟨x1,x2,rfl,a,b⟩:=Pz.split (us:=[u]) (vs:=us) h
  obtain ⟨fs,e,l,g⟩:=wA b
  refine ⟨x1 :: fs,?_,by rw [uD,uD,l],fun j u' f h1 h2=>?_⟩
  ·rw [Vs a 1 x2 [] (by show 0 < 1; decide) (by show 1<=1; decide),if_pos (by rfl:[u].length=1),e]
   rfl
  ·match j,h1,h2 with
   | 0,h1,h2=>cases h1; cases h2; exact a
   | j + 1,h1,h2=>exact g j u' f (by simpa using h1) (by simpa using h2)
end GN
namespace GN
open PySem L2 K11
theorem Zh {kvs:Kvs} {H:Hp} {v:V} {f:List V} (h:Pz kvs H [v] f):Vl H v f:=⟨h.pt,fun i e=>by
 rw [e] at h
 cases h with
 | num a _=>exact a⟩
def tgf:List V->Str
 | .str t :: _=>t
 | _=>""
def fnd (as:Arms) (t:Str):Option (Str × List Str × Bd):=as.hs.find? fun a=>decide (a.1=t)
def putA (e:En):List Str->List (List V)->En
 | n :: ns,f :: fs=>putA (putE e n f) ns fs
 | _,_=>e
def OkA (kvs:Kvs) (as:Arms):Prop:=∀ a∈as.hs,a.1≠""/\szOf kvs a.1=some a.2.1.length
def Qc (C:Addr):Sp:=fun vs H Q E=>∃ (q:Addr) (t:Str) (ts:List Addr) (as:Arms),vs=[.ref q,.str t]/\H q=some (.tup (ts.map V.ref))/\IsArms H as ts/\(∀ (i:Nat) p a,ts[i]?=some p->as.hs[i]?=some a->fnd as t=some a->Q (.ref p) H)/\(fnd as t=none->ErrW C E H "noshape")
def Zi (cR C:Addr):Sp:=fun vs H Q E=>∃ (r dx d wl nd p q1 q2:Addr) (st dn:Int) (b v:V) (z x:Str) (f:List V),vs=[.ref r,.ref p,v]/\H r=some (RO cR dx d st dn wl b nd .non)/\H p=some (.tup [.str z,.str x,.ref q1,.ref q2])/\Vl H v f /\
 (∀ i,nf f=some i->∀ H',KX [r] H H'->H' r=some (RO cR dx d st dn wl (.ref (if i≠0 then q1 else q2)) nd .non)->Q .non H')/\(nf f=none->ErrW C E H "nonumber")
def Vt (cR C:Addr):Sp:=fun vs H Q E=>∃ (r dx d wl nd q:Addr) (st dn:Int) (b v:V) (f:List V) (ts:List Addr) (as:Arms) (kvs:Kvs) (ks:List (Key × V)) (e:En),vs=[.ref r,.ref q,v]/\H r=some (RO cR dx d st dn wl b nd .non)/\H nd=some (.dK ks)/\ks.length<=1000/\ER (fun v f=>Pz kvs H [v] f) ks e/\H q=some (.tup (ts.map V.ref))/\IsArms H as ts/\OkA kvs as/\Pz kvs H [v] f /\
 (∀ a,fnd as (tgf f)=some a->∀ H' ks' s,KX [r,nd] H H'->H' r=some (RO cR dx d st dn wl (.ref s) nd .non)->IsBd H' a.2.2 s->H' nd=some (.dK ks')->ER (fun v f=>Pz kvs H' [v] f) ks' (putA e a.2.1 (pcs kvs 1 f.tail []))->ks'.length<=ks.length + a.2.1.length->Q .non H')/\(fnd as (tgf f)=none->ErrW C E H "noshape")
theorem vH:∀ {ns:List Str} {fs:List (List V)} {j:Nat} {n:Str} {f:List V} {e:En},ns[j]?=some n->fs[j]?=some f->putA e (ns.take (j + 1)) (fs.take (j + 1))=putE (putA e (ns.take j) (fs.take j)) n f
 | [],_,_,_,_,_,h,_=>by simp at h
 | _ :: _,[],_,_,_,_,_,h=>by simp at h
 | m :: ns,g :: fs,0,n,f,e,h1,h2=>by cases h1; cases h2; rfl
 | m :: ns,g :: fs,j + 1,n,f,e,h1,h2=>by
  rw [UH,UH,UH,UH]
  show putA (putE e m g) (ns.take (j + 1)) (fs.take (j + 1))=putE (putA (putE e m g) (ns.take j) (fs.take j)) n f
  exact vH (by simpa using h1) (by simpa using h2)
theorem wb {α:Type} {p:α->Bool}:∀ {l:List α} {i:Nat} {a:α},(∀ j b,j < i->l[j]?=some b->p b=false)->l[i]?=some a->p a=true->l.find? p=some a
 | [],i,a,_,h,_=>by simp at h
 | x :: l,0,a,_,h,hp=>by cases h; rw [Uk,hp]
 | x :: l,i + 1,a,g,h,hp=>by
  rw [Uk,g 0 x (by lia) rfl]
  exact wb (i:=i) (fun j b hj hb=>g (j + 1) b (by lia) (by simpa using hb)) (by simpa using h) hp
section
variable {P:Program} {w:World} {K:ua} {mg:Str->Option Value} {base:Heap} {f R C cR T:Addr} {fd:FuncData}
theorem scArm:FnScope ["arms","tag","arm"] ["arms","tag"] (zp ZY):=⟨rfl,rfl,rfl,by decide +kernel,rfl,by decide +kernel,by decide +kernel⟩
theorem zar (F:Fun K "arm_of" "arm_of" ZY f fd) (GX:Xa P w K mg base 1 "Fault" C ["self","word"] (K31.spFault C)):FnOk P w K mg base (CXf P w) 3 f fd ["arms","tag"] (Qc C):=by
 refine F.byx scArm (fun vs H Q E h=>?_) (fun cdv A outer s H vs Q E hr h=>?_)
 ·obtain ⟨q,t,ts,as,rfl,_⟩:=h
  rfl
 obtain ⟨q,t,ts,as,rfl,hq,hA,q1,q2⟩:=h
 refine ⟨_,
  (zi (yE ownx rfl (xJ (jv 0)) (zD (i:=2) scArm.nd rfl (Or.inl rfl))
   (zk (zH (zt zL (zq zr (jv 2) zh (fun _ _=>rfl)) (jv 1) (zw _))
    (zk (zx (jv 2))) zA)))
  (zk (yM GX hr rfl yL (ja_c zu zg)))),?_⟩
 obtain ⟨lt,hg⟩:=hA.get
 refine ⟨_,rfl,_,rfl,⟨_,SqT.of hq⟩,wu (xs:=ts.map V.ref) (fun i σ H'=>H'=H/\(∃ x,σ=[some (.ref q),some (.str t),x])/\∀ j a,j < i->as.hs[j]?=some a->a.1≠t) ⟨rfl,⟨none,rfl⟩,fun j a h=>absurd h (by lia)⟩ (fun i σ H' _ h=>by rw [h.1]; exact SqT.of hq) ?_ ?_⟩
 ·rintro i v σ H1 hv ⟨rfl,⟨x,rfl⟩,hno⟩
  rw [uj] at hv
  obtain ⟨p,hp,rfl⟩:=uk.mp hv
  have hi:=(ud.mp hp).1
  obtain ⟨a,ha⟩:∃ a,as.hs[i]?=some a:=⟨_,ug (by lia)⟩
  obtain ⟨q',s',g1,g2,g3⟩:=hg i p a hp ha
  refine ⟨_,rfl,ixT g1 (zj (j:=0) rfl) ⟨_,rfl,rfl,_,rfl,?_⟩⟩
  by_cases c:a.1=t
  ·refine zV (decide_eq_true (by rw [c])) ⟨_,rfl,q1 i p a hp ha ?_⟩
   exact wb (fun j b hj hb=>decide_eq_false (hno j b hj hb)) ha (decide_eq_true c)
  ·refine zI (decide_eq_false (fun e=>c (V.str.inj e))) (nxt ⟨rfl,⟨_,rfl⟩,fun j b hj hb=>?_⟩)
   by_cases cj:j=i
   ·subst cj
    rw [ha] at hb
    cases hb
    exact c
   ·exact hno j b (by lia) hb
 ·rintro σ H1 ⟨rfl,⟨x,rfl⟩,hno⟩
  rw [ub,lt] at hno
  refine ⟨by show 1<=sizeLine; decide,fun e he=>K31.raised (fun d H2 s2 hd=>q2 ?_ d H2 s2 hd) e he⟩
  refine UN.mpr fun a ha=>?_
  obtain ⟨j,hj⟩:=Ud ha
  have:=hno j a (ud.mp hj).1 hj
  simpa using this
theorem Vu:FnScope ["self","body","value"] ["self","body","value"] (zp jg):=⟨rfl,rfl,rfl,by decide +kernel,rfl,by decide +kernel,by decide +kernel⟩
theorem XN (F:Fun K "choose" "Run.choose" jg f fd) (N:Rn K cR) (GX:Xa P w K mg base 1 "Fault" C ["self","word"] (K31.spFault C)) (GW:Ca P w K mg base CX0 1 "is_whole" ["thing"] K31.spWhole):FnOk P w K mg base (CXf P w) 3 f fd ["self","body","value"] (Zi cR C):=by
 refine F.byx Vu (fun vs H Q E h=>?_) (fun cdv A outer s H vs Q E hr h=>?_)
 ·obtain ⟨r,dx,d,wl,nd,p,q1,q2,st,dn,b,v,z,x,f,rfl,_⟩:=h
  rfl
 obtain ⟨r,dx,d,wl,nd,p,q1,q2,st,dn,b,v,z,x,f,rfl,hR,hp,hv,k1,k2⟩:=h
 have r1:Room 1 _:=hr.mono (by decide)
 refine ⟨_,
  (zi (zH (y6 (ye (zy GW.upx r1 rfl yb (ja_c (jv 2) zg))))
   (zk (yM GX hr rfl yL (ja_c zu zg))) zA)
  (zk (yf (jv 0) (yU (zt xQ (jv 2) zh (zw _)) (zq zr (jv 1) zh (fun _ _=>rfl)) (zq zr (jv 1) zh (fun _ _=>rfl)))))),?_⟩
 have nu:=hv.nu
 refine ⟨_,rfl,v,nf f,rfl,nu,_,rfl,?_⟩
 cases ho:nf f with
 | none =>
  exact iteT ⟨by show 1<=sizeLine; decide,fun e he=>K31.raised (fun d H2 s2 hd=>k2 ho d H2 s2 hd) e he⟩
 | some i =>
  rw [ho] at nu
  cases nu with
  | int hi =>
   refine iteF (nxt ?_)
   refine ⟨_,rfl,rfl,_,rfl,?_⟩
   by_cases c:i=0
   ·refine zI (by simp [c]) ⟨_,rfl,ixT hp (zj (j:=3) rfl) ⟨_,rfl,r,cR,dx,_,rfl,hR,N.cl,N.a5,by show 7 < 1000; decide,?_⟩⟩
    refine k1 i ho _ (KX.refl.put (by simp)) ?_
    rw [if_neg (fun h=>h c)]
    exact zf
   ·refine zV (by simp [c]) ⟨_,rfl,ixT hp (zj (j:=2) rfl) ⟨_,rfl,r,cR,dx,_,rfl,hR,N.cl,N.a5,by show 7 < 1000; decide,?_⟩⟩
    refine k1 i ho _ (KX.refl.put (by simp)) ?_
    rw [if_pos c]
    exact zf
theorem scTake:FnScope ["self","arms","value","shape","arm","name","part"] ["self","arms","value"] (zp wV):=⟨rfl,rfl,rfl,by decide +kernel,rfl,by decide +kernel,by decide +kernel⟩
theorem J8 (F:Fun K "take_arm" "Run.take_arm" wV f fd) (N:Rn K cR) (GA:Ca P w K mg base (CXf P w) 3 "arm_of" ["arms","tag"] (Qc C)) (GW:Ca P w K mg base CX0 1 "is_whole" ["thing"] K31.spWhole) (m_zip:mg "zip"=none):FnOk P w K mg base (CXf P w) 4 f fd ["self","arms","value"] (Vt cR C):=by
 refine F.byx scTake (fun vs H Q E h=>?_) (fun cdv A outer s H vs Q E hr h=>?_)
 ·obtain ⟨r,dx,d,wl,nd,q,st,dn,b,v,f,ts,as,kvs,ks,e,rfl,_⟩:=h
  rfl
 obtain ⟨r,dx,d,wl,nd,q,st,dn,b,v,f,ts,as,kvs,ks,e,rfl,hR,hN,hk,hE,hq,hA,hO,hv,k1,k2⟩:=h
 have r1:Room 1 _:=hr.mono (by decide)
 refine ⟨_,
  (zi (zv (i:=3) scTake.nd rfl (Or.inl rfl) (yU (ye (zy GW.upx r1 rfl yb (ja_c (jv 2) zg))) (zB (ja_c zu (ja_c (zB zg) zg))) (jv 2)))
  (zi (zv (i:=4) scTake.nd rfl (Or.inl rfl) (zy GA hr rfl yb (ja_c (jv 1) (ja_c (zq zr (jv 3) zh (fun _ _=>rfl)) zg))))
  (zi (yE ownx rfl (Q4 rfl m_zip (ja_c (zq zr (jv 4) zh (fun _ _=>rfl)) (ja_c (zq zr (jv 3) zh (fun _ _=>rfl)) zg))) (xI rfl (zO (zD (i:=5) scTake.nd rfl (Or.inl rfl)) (zO (zD (i:=6) scTake.nd rfl (Or.inl rfl)) yI)))
   (zk (y8 hr (zS (jv 0)) (jv 5) (jv 6))))
  (zk (yf (jv 0) (zq zr (jv 4) zh (fun _ _=>rfl))))))),?_⟩
 have sl:=zQ
 have nu:=(Zh hv).nu
 obtain ⟨lt,hg⟩:=hA.get
 have nrn:nd≠r:=fun z=>by
  rw [z,hR] at hN
  cases hN
 have tu:∀ {H':Hp},KX [r,nd] H H'->Tups H H':=fun {H'} k=>k.tups fun a ha xs z=>by
  rcases uq.mp ha with e | ha
  ·rw [e,hR] at z; cases z
  ·rw [uh.mp ha,hN] at z; cases z
 refine ⟨_,rfl,v,nf f,rfl,nu,_,rfl,?_⟩
 cases hv with
 | @num i _ xs hi hn =>
  cases hn
  have nof:fnd as (tgf [.int i])=none:=UN.mpr fun a ha e=>(hO a ha).1 (of_decide_eq_true e)
  refine iteT ⟨by show 0<=sizeLine; decide,fun t1 h1=>⟨by show 2<=sizeLine; decide,fun t2 h2=>?_⟩⟩
  have n2:=(same_new h1 (.tup [])).new (o:=.tup [.str "",.ref t1]) h2
  refine ⟨_,rfl,_,rfl,ixT zf (zj (j:=0) rfl) ⟨q,"",ts,as,rfl,n2 _ _ hq,hA.keep (.of n2),fun i' p a _ _ e=>?_,fun _=>(k2 nof).at n2⟩⟩
  have e':fnd as (tgf [.int i])=some a:=e
  rw [nof] at e'
  cases e'
 | @shp p q' t us _ xs ys h1 h2 hs h9 g1 g2 =>
  cases g2
  rw [uO] at *
  refine iteF ⟨_,rfl,?_⟩
  refine ⟨_,rfl,_,rfl,ixT h1 (zj (j:=0) rfl) ⟨q,t,ts,as,rfl,hq,hA,fun i p' a hp' ha hf=>?_,fun hno=>k2 hno⟩⟩
  obtain ⟨q2,s2,a1,a2,a3⟩:=hg i p' a hp' ha
  have am:a∈as.hs:=uu ha
  have at_:a.1=t:=by simpa using UG hf
  have ln:a.2.1.length=us.length:=by
   have h1:=(hO a am).2
   rw [at_,hs] at h1
   exact (Ul.inj h1).symm
  obtain ⟨fs,efs,lf,hfs⟩:=wA g1
  refine ⟨_,rfl,ixT a1 (zj (j:=1) rfl) ⟨_,rfl,ixT h1 (zj (j:=1) rfl) ⟨q2,q',false,false,_,_,rfl,SqT.of a2,SqT.of h2,JN (xs:=a.2.1.map V.str) (ys:=us) (by rw [ub]; exact ln) (fun j σ H'=>KX [r,nd] H H'/\H' r=some (RO cR dx d st dn wl b nd .non)/\(∃ x y,σ=[some (.ref r),some (.ref q),some (.ref p),some (.ref p),some (.ref p'),x,y])/\∃ ks',H' nd=some (.dK ks')/\ks'.length<=ks.length + j/\ER (fun v f=>Pz kvs H' [v] f) ks' (putA e (a.2.1.take j) (fs.take j))) ⟨KX.refl,hR,⟨none,none,rfl⟩,ks,hN,by lia,hE⟩ (fun j σ H' _ h=>⟨?_,?_⟩) ?_ ?_⟩⟩⟩
  ·exact SqT.of (tu h.1 _ _ a2)
  ·exact SqT.of (tu h.1 _ _ h2)
  ·rintro j x y T' σ H1 hx hy hT ⟨kx,hR1,⟨x',y',rfl⟩,ks',hN1,lk,hE1⟩
   rw [uj] at hx
   obtain ⟨n,hn,rfl⟩:=uk.mp hx
   have hj:=(ud.mp hy).1
   obtain ⟨ff,hff⟩:∃ ff,fs[j]?=some ff:=⟨_,ug (by lia)⟩
   have n1:=same_new hT (.tup [.str n,y])
   have hy1:=(hfs j y ff hy hff).keep (tu kx)
   refine ⟨_,_,rfl,SqT.of zf,rfl,_,_,rfl,_,_,rfl,rfl,?_⟩
   have nTr:r≠T':=zo hR1 hT
   have nTn:nd≠T':=zo hN1 hT
   refine ⟨_,rfl,_,rfl,r,cR,dx,_,_,rfl,n1 _ _ hR1,N.cl,N.a6,rfl,_,rfl,nd,_,rfl,DPut.k (k:=.inr n) (n1 _ _ hN1) (by lia),?_⟩
   have t2:Tups H1 (upd (upd H1 T' (.tup [.str n,y])) nd (.dK (putK ks' (.inr n) y))):=fun c xs hc=>by
    rw [zm (z9 hc hN1 (by intro z; cases z))]
    exact n1 _ _ hc
   refine ⟨(kx.new hT).put (by simp),by rw [zm nrn.symm]; exact n1 _ _ hR1,⟨_,_,rfl⟩,_,zf,by have:=x3 ks' (.inr n) y; lia,?_⟩
   rw [vH hn hff]
   exact (hE1.mono fun v f h=>h.keep t2).put (hy1.keep t2)
  ·rintro σ H1 ⟨kx,hR1,⟨x',y',rfl⟩,ks',hN1,lk,hE1⟩
   rw [ub] at lk hE1
   rw [uE (ui _),uE (by lia)] at hE1
   have tk:=tu kx
   refine ⟨_,rfl,ixT (tk _ _ a1) (zj (j:=2) rfl) ⟨_,rfl,r,cR,dx,_,rfl,hR1,N.cl,N.a5,by show 7 < 1000; decide,?_⟩⟩
   have t2:Tups H1 (upd H1 r (RO cR dx d st dn wl (.ref s2) nd .non)):=fun c xs hc=>by
    rw [zm (z9 hc hR1 (by intro z; cases z))]
    exact hc
   refine k1 a hf _ ks' s2 (kx.put (by simp)) zf ((a3.keep tk).keep t2) (by rw [zm nrn]; exact hN1) ?_ lk
   show ER _ ks' (putA e a.2.1 (pcs kvs 1 xs []))
   rw [efs]
   exact hE1.mono fun v f h=>h.keep t2
end
end GN
namespace L2
open PySem
theorem FnOk.dn {P:Program} {w:World} {K:ua} {mg:Str->Option Value} {base:Heap} {k:Nat} {f:Addr} {fd:FuncData} {ps:List Str} {sp sp':Sp} (F:FnOk P w K mg base (CXf P w) k f fd ps sp) (h:∀ vs H Q E,sp' vs H Q E->sp vs H Q E0):FnOk P w K mg base CX0 k f fd ps sp' :=
 ⟨fun vs H Q E q=>F.len _ _ _ _ (h vs H Q E q),fun A outer s H args us vs Q E hr he hb hv hs=>codeAny_mono (F.run A outer s H args us vs Q E0 hr he hb hv (h vs H Q E hs)) fun r s' q=>by
  cases r with
  | error e =>
   obtain ⟨_,_,_,_,_,_,_,_,_,_,_,_,_,z⟩:=q
   exact z.elim
  | ok fl =>
   cases fl with
   | ret u=>exact q
   | _=>exact q⟩
theorem Ca.dn {P:Program} {w:World} {K:ua} {mg:Str->Option Value} {base:Heap} {k:Nat} {x:Str} {ps:List Str} {sp sp':Sp} (F:Ca P w K mg base (CXf P w) k x ps sp) (h:∀ vs H Q E,sp' vs H Q E->sp vs H Q E0):Ca P w K mg base CX0 k x ps sp':=let ⟨f,fd,a,r⟩:=F.ex; ⟨f,fd,a.dn h,r⟩
end L2
namespace GN
open PySem L2 K11
def YR (cR:Addr):Sp:=fun vs H Q _=>∃ (b dx d:Addr) (st:Int),vs=[.ref b,.ref d,.int st]/\H b=some (.ins cR dx [])/\∀ H' wl nd,KX [b] H H'->H wl=none->H nd=none->H' b=some (RO cR dx d st 0 wl .non nd .non)->H' wl=some (.lst [])->H' nd=some (.dK [])->Q .non H'
def jr (cR:Addr):Sp:=fun vs H Q _=>∃ (r dx d wl nd vl one pp pb:Addr) (st dn:Int) (b:V) (n:Str) (kvs:List (Key × V)) (ps:List Str) (us:List V),vs=[.ref r,.str n,.ref vl]/\H r=some (RO cR dx d st dn wl b nd .non)/\H d=some (.dK kvs)/\valV kvs (.inr n)=some (.ref one)/\H one=some (.tup [.str n,.ref pp,.ref pb])/\H pp=some (.tup (ps.map V.str))/\ps.Nodup/\H vl=some (.lst us)/\ps.length=us.length /\
 ∀ H' nd',KX [r] H H'->H nd'=none->H' r=some (RO cR dx d st dn wl (.ref pb) nd' .non)->H' nd'=some (.dK (zkv ps us))->Q .non H'
section
variable {P:Program} {w:World} {K:ua} {mg:Str->Option Value} {base:Heap} {f R C cR T:Addr} {fd:FuncData}
theorem J9:FnScope ["self","defs","steps"] ["self","defs","steps"] (zp Z0):=⟨rfl,rfl,rfl,by decide +kernel,rfl,by decide +kernel,by decide +kernel⟩
theorem Vv (F:Fun K "__init__" "Run.__init__" Z0 f fd) (N:Rn K cR):FnOk P w K mg base CX0 1 f fd ["self","defs","steps"] (YR cR):=by
 refine F.by J9 (fun vs H Q E h=>?_) (fun cdv A outer s H vs Q E hr h=>?_)
 ·obtain ⟨b,dx,d,st,rfl,_⟩:=h
  rfl
 obtain ⟨b,dx,d,st,rfl,hb,q⟩:=h
 refine ⟨_,
  (zi (yf (jv 0) (jv 1))
  (zi (yf (jv 0) (jv 2))
  (zi (yf (jv 0) zh)
  (zi (yf (jv 0) (zZ zg))
  (zi (yf (jv 0) Wq)
  (zi (yf (jv 0) xU)
  (zk (yf (jv 0) Wq)))))))),?_⟩
 have sl:=zQ
 refine ⟨_,rfl,_,rfl,b,cR,dx,_,rfl,hb,N.cl,N.a1,by show 0 < 1000; decide,?_⟩
 refine ⟨_,rfl,_,rfl,b,cR,dx,_,rfl,zf,N.cl,N.a2,by show 1 < 1000; decide,?_⟩
 refine ⟨_,rfl,b,cR,dx,_,rfl,zf,N.cl,N.a3,by show 2 < 1000; decide,?_⟩
 have k1:KX [b] H (upd (upd (upd H b (.ins cR dx (putF "defs" (.ref d) []))) b (.ins cR dx (putF "steps" (.int st) (putF "defs" (.ref d) [])))) b (.ins cR dx (putF "done" (.int 0) (putF "steps" (.int st) (putF "defs" (.ref d) []))))):=((KX.refl.put (by simp)).put (by simp)).put (by simp)
 have b1:=zf (H:=upd (upd H b (.ins cR dx (putF "defs" (.ref d) []))) b (.ins cR dx (putF "steps" (.int st) (putF "defs" (.ref d) [])))) (a:=b) (o:=.ins cR dx (putF "done" (.int 0) (putF "steps" (.int st) (putF "defs" (.ref d) []))))
 generalize upd (upd (upd H b (.ins cR dx (putF "defs" (.ref d) []))) b (.ins cR dx (putF "steps" (.int st) (putF "defs" (.ref d) [])))) b (.ins cR dx (putF "done" (.int 0) (putF "steps" (.int st) (putF "defs" (.ref d) []))))=H1 at *
 have fr:∀ {H2:Hp} {z:Addr},KX [b] H H2->H2 b≠none->H2 z=none->H z=none/\z≠b:=fun {H2 z} k n e=>by
  have nz:z≠b:=fun c=>n (by rw [<- c]; exact e)
  refine ⟨?_,nz⟩
  cases c:H z with
  | none=>rfl
  | some o =>
   have:=k z o (by simp [nz]) c
   rw [e] at this
   cases this
 refine ⟨by show 0<=sizeLine; decide,fun wl hwl=>?_⟩
 obtain ⟨fw,nwb⟩:=fr k1 (by rw [b1]; intro z; cases z) hwl
 refine ⟨_,rfl,b,cR,dx,_,rfl,by rw [zm nwb.symm]; exact b1,N.cl,N.a4,by show 3 < 1000; decide,?_⟩
 refine ⟨_,rfl,b,cR,dx,_,rfl,zf,N.cl,N.a5,by show 4 < 1000; decide,?_⟩
 obtain ⟨fs2,efs2⟩:∃ fs,fs=putF "body" V.non (putF "waiting" (.ref wl) (putF "done" (.int 0) (putF "steps" (.int st) (putF "defs" (.ref d) [])))):=⟨_,rfl⟩
 rw [<- efs2]
 have k2:KX [b] H (upd (upd (upd H1 wl (.lst [])) b (.ins cR dx (putF "waiting" (.ref wl) (putF "done" (.int 0) (putF "steps" (.int st) (putF "defs" (.ref d) [])))))) b (.ins cR dx fs2)):=((k1.new hwl).put (by simp)).put (by simp)
 have b2:=zf (H:=upd (upd H1 wl (.lst [])) b (.ins cR dx (putF "waiting" (.ref wl) (putF "done" (.int 0) (putF "steps" (.int st) (putF "defs" (.ref d) [])))))) (a:=b) (o:=.ins cR dx fs2)
 have w2:upd (upd (upd H1 wl (.lst [])) b (.ins cR dx (putF "waiting" (.ref wl) (putF "done" (.int 0) (putF "steps" (.int st) (putF "defs" (.ref d) [])))))) b (.ins cR dx fs2) wl=some (.lst []):=by
  rw [zm nwb,zm nwb]
  exact zf
 generalize upd (upd (upd H1 wl (.lst [])) b (.ins cR dx (putF "waiting" (.ref wl) (putF "done" (.int 0) (putF "steps" (.int st) (putF "defs" (.ref d) [])))))) b (.ins cR dx fs2)=H2 at *
 intro nd hnd
 obtain ⟨fn,nnb⟩:=fr k2 (by rw [b2]; intro z; cases z) hnd
 refine ⟨_,rfl,b,cR,dx,_,rfl,by rw [zm nnb.symm]; exact b2,N.cl,N.a6,by rw [efs2]; show 5 < 1000; decide,?_⟩
 refine ⟨_,rfl,b,cR,dx,_,rfl,zf,N.cl,N.a7,by rw [efs2]; show 6 < 1000; decide,?_⟩
 have nwn:wl≠nd:=zo w2 hnd
 refine q _ wl nd (((k2.new hnd).put (by simp)).put (by simp)) fw fn ?_ ?_ ?_
 ·rw [zf,efs2]
  rfl
 ·rw [zm nwb,zm nwb,zm nwn]
  exact w2
 ·rw [zm nnb,zm nnb]
  exact zf
theorem scBegin:FnScope ["self","name","values","one"] ["self","name","values"] (zp Z3):=⟨rfl,rfl,rfl,by decide +kernel,rfl,by decide +kernel,by decide +kernel⟩
theorem Vw (F:Fun K "begin_def" "Run.begin_def" Z3 f fd) (N:Rn K cR) (m_dict:mg "dict"=none) (m_zip:mg "zip"=none):FnOk P w K mg base CX0 1 f fd ["self","name","values"] (jr cR):=by
 refine F.by scBegin (fun vs H Q E h=>?_) (fun cdv A outer s H vs Q E hr h=>?_)
 ·obtain ⟨r,dx,d,wl,nd,vl,one,pp,pb,st,dn,b,n,kvs,ps,us,rfl,_⟩:=h
  rfl
 obtain ⟨r,dx,d,wl,nd,vl,one,pp,pb,st,dn,b,n,kvs,ps,us,rfl,hR,hd,hv,h1,hp,hn,hl,ll,q⟩:=h
 refine ⟨_,
  (zi (zv (i:=3) scBegin.nd rfl (Or.inl rfl) (zX hr (zS (jv 0)) (jv 1)))
  (zi (yf (jv 0) (zq zr (jv 3) zh (fun _ _=>rfl)))
  (zk (yf (jv 0) (Zf rfl rfl m_dict rfl m_zip (ja_c (zq zr (jv 3) zh (fun _ _=>rfl)) (ja_c (jv 2) zg))))))),?_⟩
 have sl:=zQ
 refine ⟨_,rfl,r,cR,dx,_,_,rfl,hR,N.cl,N.a1,rfl,_,rfl,d,.ref one,rfl,by rw [<- hv]; exact DGet.k (k:=.inr n) hd,?_⟩
 refine ⟨_,rfl,ixT h1 (zj (j:=2) rfl) ⟨_,rfl,r,cR,dx,_,rfl,hR,N.cl,N.a5,by show 7 < 1000; decide,?_⟩⟩
 have k1:KX [r] H (upd H r (.ins cR dx (putF "body" (.ref pb) (RF d st dn wl b nd .non)))):=KX.refl.put (by simp)
 have r1:upd H r (.ins cR dx (putF "body" (.ref pb) (RF d st dn wl b nd .non))) r=some (RO cR dx d st dn wl (.ref pb) nd .non):=zf
 generalize upd H r (.ins cR dx (putF "body" (.ref pb) (RF d st dn wl b nd .non)))=H1 at *
 have ne1:∀ {z:Addr} {o:HO},H z=some o->(∀ C dx fs,o≠.ins C dx fs)->z ∉ [r]:=fun {z o} e n c=>by
  rw [uh.mp c,hR] at e
  cases e
  exact n _ _ _ rfl
 have h11:=k1 _ _ (ne1 h1 (by intro _ _ _ z; cases z)) h1
 have hp1:=k1 _ _ (ne1 hp (by intro _ _ _ z; cases z)) hp
 have hl1:=k1 _ _ (ne1 hl (by intro _ _ _ z; cases z)) hl
 refine ⟨_,rfl,ixT h11 (zj (j:=1) rfl) ⟨_,rfl,pp,vl,ps,us,rfl,.inr (SqT.of hp1),.inl (SqL.of hl1),ll,hn,fun nd' hnd'=>?_⟩⟩
 have nnr:nd'≠r:=fun z=>by
  rw [z,r1] at hnd'
  cases hnd'
 have fn:H nd'=none:=by
  cases c:H nd' with
  | none=>rfl
  | some o =>
   have:=k1 nd' o (by simp [nnr]) c
   rw [hnd'] at this
   cases this
 refine ⟨_,rfl,r,cR,dx,_,rfl,by rw [zm nnr.symm]; exact r1,N.cl,N.a6,by show 7 < 1000; decide,?_⟩
 exact q _ nd' ((k1.new hnd').put (by simp)) fn zf (by rw [zm nnr]; exact zf)
end
end GN
namespace GN
open PySem L2 K11
theorem Pz.flat {kv:Kvs} {H:Hp}:∀ {vs:List V} {fs:List (List V)},vs.length=fs.length->(∀ (j:Nat) v f,vs[j]?=some v->fs[j]?=some f->Pz kv H [v] f)->Pz kv H vs fs.flatten
 | [],[],_,_=>.nil
 | [],_ :: _,h,_=>by simp at h
 | _ :: _,[],h,_=>by simp at h
 | v :: vs,f :: fs,h,g=>by
  have:=Pz.app (g 0 v f rfl rfl) (Pz.flat (vs:=vs) (fs:=fs) (by simpa using h) fun j v f h1 h2=>g (j + 1) v f (by simpa using h1) (by simpa using h2))
  exact this
def OkZ (kv:Kvs) (dd:Dd):Prop:=∀ t ns,dd=.mk t ns->szOf kv t=some ns.length
def Vx (cR C:Addr):Sp:=fun vs H Q E=>∃ (r dx d wl nd p:Addr) (st dn:Int) (b en:V) (kvs:List (Key × V)) (e:En) (ks:List Str) (dd:Dd) (kv:Kvs),vs=[.ref r,.ref p]/\H r=some (RO cR dx d st dn wl b nd en)/\H nd=some (.dK kvs)/\ER (fun v f=>Pz kv H [v] f) kvs e/\Bnd ks e/\OkD ks dd/\OkZ kv dd/\IsDd H dd p /\
 (∀ f,outE e dd=.inl f->∀ H' v,Same H H'->Pz kv H' [v] f->Q v H')/\∀ w,outE e dd=.inr w->ErrW C E H w
section
variable {P:Program} {w:World} {K:ua} {mg:Str->Option Value} {base:Heap} {f R C cR T:Addr} {fd:FuncData}
theorem qb (F:Fun K "outcome" "Run.outcome" sOut f fd) (T:Rn K cR) (GV:Me P w K mg base CX0 1 cR "valued" ["self","names"] (xZ cR)) (GR:Ca P w K mg base (CXf P w) 3 "reckoned" ["word","a","b"] (K31.spReck C)) (m_tuple:mg "tuple"=none):FnOk P w K mg base (CXf P w) 4 f fd ["self","deed"] (Vx cR C):=by
 refine F.byx scOut (fun vs H Q E h=>?_) (fun cdv A outer s H vs Q E hr h=>?_)
 ·obtain ⟨r,dx,d,wl,nd,p,st,dn,b,en,kvs,e,ks,dd,kv,rfl,_⟩:=h
  rfl
 obtain ⟨r,dx,d,wl,nd,p,st,dn,b,en,kvs,e,ks,dd,kv,rfl,hR,hN,hE,hB,hO,hOz,hD,q1,q2⟩:=h
 have r1:Room 1 _:=hr.mono (by decide)
 refine ⟨_,
  (zi (zH (zt zL (zq zr (jv 1) zh (fun _ _=>rfl)) zu (zw _)) (zk (zx (zq zr (jv 1) zh (fun _ _=>rfl)))) zA)
  (zi (zH (zt zL (zq zr (jv 1) zh (fun _ _=>rfl)) zu (zw _)) (zk (zx (zy GR hr rfl yb (ja_c (zq zr (jv 1) zh (fun _ _=>rfl)) (ja_c (zX hr (zS (jv 0)) (zq zr (jv 1) zh (fun _ _=>rfl))) (ja_c (zX hr (zS (jv 0)) (zq zr (jv 1) zh (fun _ _=>rfl))) zg)))))) zA)
  (zi (zv (i:=2) scOut.nd rfl (Or.inl rfl) (yU (zt zL (zq zr (jv 1) zh (fun _ _=>rfl)) zu (zw _)) (zq zr (jv 1) zh (fun _ _=>rfl)) Zb))
  (zk (zx (zB (ja_c (jv 2) (ja_c (yh zR rfl m_tuple uW (ja_c (yQ (jv 0) T.cl GV.upx r1 yb (ja_c (zq zr (jv 1) zh (fun _ _=>rfl)) zg)) zg)) zg)))))))),?_⟩
 have sl:=zQ
 match dd,hO,hOz,hD with
 | .num i,hO,hOz,hD =>
  have hD:H p=some (.tup [.str "num",.int i]):=hD
  refine ⟨_,rfl,ixT hD rfl ⟨rfl,_,rfl,zV (by decide +kernel) ?_⟩⟩
  exact ⟨_,rfl,ixT hD (zj (j:=1) rfl) (q1 _ rfl _ _ (Same.refl _) (.num hO .nil))⟩
 | .op ww a b',hO,hOz,hD =>
  have hD:H p=some (.tup [.str "op",.str ww,.str a,.str b']):=hD
  obtain ⟨fa,ea⟩:=hB.get hO.1
  obtain ⟨fb,eb⟩:=hB.get hO.2
  obtain ⟨va,a1,a2⟩:=hE.val ea
  obtain ⟨vb,b1,b2⟩:=hE.val eb
  refine ⟨_,rfl,ixT hD rfl ⟨rfl,_,rfl,zI (by decide +kernel) (nxt ?_)⟩⟩
  refine ⟨_,rfl,ixT hD rfl ⟨rfl,_,rfl,zV (by decide +kernel) ?_⟩⟩
  refine ⟨_,rfl,ixT hD (zj (j:=1) rfl) ⟨_,rfl,r,cR,dx,_,_,rfl,hR,T.cl,T.a6,rfl,_,rfl,ixT hD (zj (j:=2) rfl) ⟨nd,va,rfl,?_,_,rfl,r,cR,dx,_,_,rfl,hR,T.cl,T.a6,rfl,_,rfl,ixT hD (zj (j:=3) rfl) ⟨nd,vb,rfl,?_,ww,va,vb,nf fa,nf fb,rfl,(Zh a2).nu,(Zh b2).nu,fun hf i j H' s' e1 e2=>?_,fun hf dd H' s' hd=>?_⟩⟩⟩⟩
  ·rw [<- a1]; exact DGet.k (k:=.inr a) hN
  ·rw [<- b1]; exact DGet.k (k:=.inr b') hN
  ·have eo:outE e (.op ww a b')=.inl [.int (K31.res ww i j)]:=by
    unfold outE
    dsimp only
    rw [ea,eb]
    show (if K31.fw ww (nf fa) (nf fb)="" then _ else _)=_
    rw [if_pos hf]
    show Sum.inl [V.int (K31.res ww ((nf fa).getD 0) ((nf fb).getD 0))]=_
    rw [e1,e2]
    rfl
   obtain ⟨i',j',c1,c2,c3⟩:=J7 hf
   rw [e1] at c1
   rw [e2] at c2
   cases c1
   cases c2
   exact q1 _ eo _ _ s' (.num c3 .nil)
  ·have eo:outE e (.op ww a b')=.inr (K31.fw ww (nf fa) (nf fb)):=by
    unfold outE
    dsimp only
    rw [ea,eb]
    show (if K31.fw ww (nf fa) (nf fb)="" then _ else _)=_
    rw [if_neg hf]
    rfl
   exact q2 _ eo dd H' s' hd
 | .mk t ns,hO,hOz,hD =>
  obtain ⟨pq,hD,hQ⟩:∃ q,H p=some (.tup [.str "make",.str t,.ref q])/\H q=some (.tup (ns.map V.str)):=hD
  have hall:∀ n∈ns,∃ v,valV kvs (.inr n)=some v:=fun n hn=>by
   obtain ⟨fa,ea⟩:=hB.get (hO.1 n hn)
   obtain ⟨va,a1,_⟩:=hE.val ea
   exact ⟨va,a1⟩
  have l3:=hO.2
  refine ⟨_,rfl,ixT hD rfl ⟨rfl,_,rfl,zI (by decide +kernel) (nxt ?_)⟩⟩
  refine ⟨_,rfl,ixT hD rfl ⟨rfl,_,rfl,zI (by decide +kernel) (nxt ?_)⟩⟩
  refine ⟨_,rfl,ixT hD rfl ⟨rfl,_,rfl,zV (by decide +kernel) ?_⟩⟩
  refine ⟨_,rfl,ixT hD (zj (j:=1) rfl) ?_⟩
  refine ⟨_,rfl,_,rfl,r,dx,_,rfl,hR,rfl,_,rfl,ixT hD (zj (j:=2) rfl) ⟨r,dx,d,wl,nd,pq,st,dn,b,en,kvs,ns,rfl,hR,hN,hQ,hall,by lia,fun H1 l s1 _ hl=>?_⟩⟩
  refine ⟨l,_,rfl,.inl ⟨SqL.of hl,fun tp htp=>⟨by show 2<=sizeLine; decide,fun tv htv=>?_⟩⟩⟩
  have n1:=(same_new htp (.tup (vals kvs ns))).new (o:=.tup [.str t,.ref tp]) htv
  have s2:=s1.trans n1
  refine q1 _ rfl _ _ s2 ?_
  have hsz:szOf kv t=some (vals kvs ns).length:=by unfold vals; rw [ub]; exact hOz t ns rfl
  have:=Pz.shp (kvs:=kv) (vs:=[]) (ys:=[]) (zf (H:=upd H1 tp (.tup (vals kvs ns))) (a:=tv) (o:=.tup [.str t,.ref tp])) (old htv zf) hsz (by unfold vals; rw [ub]; lia) (Pz.flat (fs:=ns.map fun n=>(valE e n).getD []) (by unfold vals; rw [ub,ub]) fun j v f h1 h2=>?_) .nil
  ·rw [uO] at this
   exact this
  ·unfold vals at h1
   rw [uj] at h1 h2
   obtain ⟨n,hn,rfl⟩:=uk.mp h1
   rw [hn] at h2
   have h2:some ((valE e n).getD [])=some f:=h2
   cases h2
   obtain ⟨fa,ea⟩:=hB.get (hO.1 n (uu hn))
   obtain ⟨va,a1,a2⟩:=hE.val ea
   rw [a1,ea]
   exact a2.keep (.of s2)
end
end GN
namespace GN
open PySem L2 K11
structure Wn (K:ua) (cW:Addr):Prop where
 cl:Cls K cW
 b1:NoAttr K cW "wants"
 b2:NoAttr K cW "body"
 b3:NoAttr K cW "names"
def WO (cW dx:Addr) (n:Str) (pb nd:Addr):HO:=.ins cW dx [("wants",.str n),("body",.ref pb),("names",.ref nd)]
def YS (cW:Addr):Sp:=fun vs H Q _=>∃ (x dx pb nd:Addr) (n:Str),vs=[.ref x,.str n,.ref pb,.ref nd]/\H x=some (.ins cW dx [])/\∀ H',KX [x] H H'->H' x=some (WO cW dx n pb nd)->Q .non H'
def Z7 (cR:Addr):Sp:=fun vs H Q _=>∃ (r dx d wl nd vl bh one pp pb:Addr) (st dn:Int) (b:V) (n:Str) (kvs:List (Key × V)) (ps:List Str) (us ws:List V),vs=[.ref r,.ref bh,.str n,.ref vl]/\H r=some (RO cR dx d st dn wl b nd .non)/\H wl=some (.lst ws)/\ws.length<=10000/\H d=some (.dK kvs)/\valV kvs (.inr n)=some (.ref one)/\H one=some (.tup [.str n,.ref pp,.ref pb])/\H pp=some (.tup (ps.map V.str))/\ps.Nodup/\H vl=some (.lst us)/\vl≠wl/\ps.length=us.length /\
 (dn=st->∀ H' tp,KX [r] H H'->H' r=some (RO cR dx d st dn wl b nd (.ref tp))->H' tp=some (.tup [.str "late",.int st])->Q .non H') /\
 (dn≠st->∀ H' nd',KX [r,wl] H H'->H nd'=none->H' r=some (RO cR dx d st (dn + 1) wl (.ref pb) nd' .non)->H' wl=some (.lst (ws ++ [.ref bh]))->H' nd'=some (.dK (zkv ps us))->Q .non H')
section
variable {P:Program} {w:World} {K:ua} {mg:Str->Option Value} {base:Heap} {f R C cR cW T:Addr} {fd:FuncData}
theorem qc:FnScope ["self","wants","body","names"] ["self","wants","body","names"] (zp ZZ):=⟨rfl,rfl,rfl,by decide +kernel,rfl,by decide +kernel,by decide +kernel⟩
theorem Vy (F:Fun K "__init__" "Waiting.__init__" ZZ f fd) (N:Wn K cW):FnOk P w K mg base CX0 1 f fd ["self","wants","body","names"] (YS cW):=by
 refine F.by qc (fun vs H Q E h=>?_) (fun cdv A outer s H vs Q E hr h=>?_)
 ·obtain ⟨x,dx,pb,nd,n,rfl,_⟩:=h
  rfl
 obtain ⟨x,dx,pb,nd,n,rfl,hx,q⟩:=h
 refine ⟨_,(zi (yf (jv 0) (jv 1)) (zi (yf (jv 0) (jv 2)) (zk (yf (jv 0) (jv 3))))),?_⟩
 refine ⟨_,rfl,_,rfl,x,cW,dx,_,rfl,hx,N.cl,N.b1,by show 0 < 1000; decide,?_⟩
 refine ⟨_,rfl,_,rfl,x,cW,dx,_,rfl,zf,N.cl,N.b2,by show 1 < 1000; decide,?_⟩
 refine ⟨_,rfl,_,rfl,x,cW,dx,_,rfl,zf,N.cl,N.b3,by show 2 < 1000; decide,?_⟩
 exact q _ (((KX.refl.put (by simp)).put (by simp)).put (by simp)) zf
theorem qd:FnScope ["self","behind","name","values"] ["self","behind","name","values"] (zp WL):=⟨rfl,rfl,rfl,by decide +kernel,rfl,by decide +kernel,by decide +kernel⟩
theorem qe (F:Fun K "call" "Run.call" WL f fd) (N:Rn K cR) (GB:Me P w K mg base CX0 1 cR "begin_def" ["self","name","values"] (jr cR)):FnOk P w K mg base CX0 2 f fd ["self","behind","name","values"] (Z7 cR):=by
 refine F.by qd (fun vs H Q E h=>?_) (fun cdv A outer s H vs Q E hr h=>?_)
 ·obtain ⟨r,dx,d,wl,nd,vl,bh,one,pp,pb,st,dn,b,n,kvs,ps,us,ws,rfl,_⟩:=h
  rfl
 obtain ⟨r,dx,d,wl,nd,vl,bh,one,pp,pb,st,dn,b,n,kvs,ps,us,ws,rfl,hR,hW,lw,hd,hv,h1,hp,hn,hl,nvw,ll,q1,q2⟩:=h
 refine ⟨_,
  (zi (zH (zt zL (zS (jv 0)) (zS (jv 0)) (zw _))
   (zi (yf (jv 0) (zB (ja_c zu (ja_c (zS (jv 0)) zg)))) (zk Jx)) zA)
  (zi (yf (jv 0) (zF yr (zS (jv 0)) zh))
  (zi (zU (xl uV Ue Uf yy (zS (jv 0)) (ja_c (jv 1) zg)))
  (zk (zU (yQ (jv 0) N.cl GB hr zC (ja_c (jv 2) (ja_c (jv 3) zg)))))))),?_⟩
 have sl:=zQ
 have nwr:wl≠r:=fun z=>by
  rw [z,hR] at hW
  cases hW
 refine ⟨_,rfl,r,cR,dx,_,_,rfl,hR,N.cl,N.a3,rfl,_,rfl,r,cR,dx,_,_,rfl,hR,N.cl,N.a2,rfl,rfl,_,rfl,ite2 (fun c=>?_) (fun c=>nxt ?_)⟩
 ·have c:dn=st:=V.int.inj (of_decide_eq_true c)
  refine ⟨_,rfl,r,cR,dx,_,_,rfl,hR,N.cl,N.a2,rfl,by show 2<=sizeLine; decide,fun tp htp=>?_⟩
  have nrt:r≠tp:=zo hR htp
  refine ⟨_,rfl,r,cR,dx,_,rfl,by rw [zm nrt]; exact hR,N.cl,N.a7,by show 7 < 1000; decide,?_⟩
  exact q1 c _ tp ((KX.refl.new htp).put (by simp)) zf (by rw [zm nrt.symm]; exact zf)
 ·have c:dn≠st:=fun e=>c (decide_eq_true (by rw [e]))
  refine ⟨_,rfl,r,cR,dx,_,_,rfl,hR,N.cl,N.a3,rfl,_,_,rfl,rfl,_,rfl,r,cR,dx,_,rfl,hR,N.cl,N.a3,by show 7 < 1000; decide,?_⟩
  have k1:KX [r] H (upd H r (.ins cR dx (putF "done" (.int (dn + 1)) (RF d st dn wl b nd .non)))):=KX.refl.put (by simp)
  have r1:upd H r (.ins cR dx (putF "done" (.int (dn + 1)) (RF d st dn wl b nd .non))) r=some (RO cR dx d st (dn + 1) wl b nd .non):=zf
  generalize upd H r (.ins cR dx (putF "done" (.int (dn + 1)) (RF d st dn wl b nd .non)))=H1 at *
  have hW1:=k1 _ _ (by simp [nwr]) hW
  refine ⟨_,rfl,r,cR,dx,_,_,rfl,r1,N.cl,N.a4,rfl,.inl ⟨rfl,_,SqL.of hW1⟩,_,rfl,wl,_,_,rfl,rfl,hW1,by lia,?_⟩
  have k2:KX [r,wl] H (upd H1 wl (.lst (ws ++ [.ref bh]))):=(k1.mono (by simp)).put (by simp)
  have r2:upd H1 wl (.lst (ws ++ [.ref bh])) r=some (RO cR dx d st (dn + 1) wl b nd .non):=by rw [zm nwr.symm]; exact r1
  have w2:=zf (H:=H1) (a:=wl) (o:=.lst (ws ++ [.ref bh]))
  generalize upd H1 wl (.lst (ws ++ [.ref bh]))=H2 at *
  have kp:∀ {z:Addr} {o:HO},H z=some o->z≠r->z≠wl->H2 z=some o:=fun {z o} e n1 n2=>k2 _ _ (by simp [n1,n2]) e
  have nr:∀ {z:Addr} {o:HO},H z=some o->(∀ C dx fs,o≠.ins C dx fs)->z≠r:=fun {z o} e n c=>by
   rw [c,hR] at e
   cases e
   exact n _ _ _ rfl
  have hd2:=kp hd (nr hd (by intro _ _ _ z; cases z)) (z9 hd hW (by intro z; cases z))
  have h12:=kp h1 (nr h1 (by intro _ _ _ z; cases z)) (z9 h1 hW (by intro z; cases z))
  have hp2:=kp hp (nr hp (by intro _ _ _ z; cases z)) (z9 hp hW (by intro z; cases z))
  have hl2:=kp hl (nr hl (by intro _ _ _ z; cases z)) nvw
  refine ⟨_,rfl,r,dx,_,rfl,r2,rfl,_,rfl,_,rfl,r,dx,d,wl,nd,vl,one,pp,pb,st,dn + 1,b,n,kvs,ps,us,rfl,r2,hd2,hv,h12,hp2,hn,hl2,ll,fun H3 nd' k3 f3 g1 g2=>?_⟩
  have fn:H nd'=none:=by
   cases e:H nd' with
   | none=>rfl
   | some o =>
    by_cases z1:nd'=r
    ·rw [z1,r2] at f3; cases f3
    by_cases z2:nd'=wl
    ·rw [z2,w2] at f3; cases f3
    rw [kp e z1 z2] at f3
    cases f3
  exact q2 c H3 nd' (k2.trans (k3.mono (by simp))) fn g1 (k3 _ _ (by simp [nwr]) w2) g2
end
end GN
namespace GN
open PySem L2 K11
def YT (cR cW T:Addr):Sp:=fun vs H Q _=>∃ (r dx d wl nd:Addr) (st dn:Int) (b v:V) (f:List V) (ws:List V),vs=[.ref r,v]/\H r=some (RO cR dx d st dn wl b nd .non)/\H wl=some (.lst ws)/\ws.length<=10000/\Tb T H/\Vl H v f /\
 (ws=[]->∀ H' tp l,KX [r,T] H H'->Tb T H'->H' r=some (RO cR dx d st dn wl b nd (.ref tp))->H' tp=some (.tup [.str "told",.ref l])->H' l=some (.lst (f.take 100))->H l=none->Q .non H') /\
 (ws≠[]->∃ (ws':List V) (x dxw pb nd2:Addr) (n:Str) (ks:List (Key × V)),ws=ws' ++ [.ref x]/\H x=some (WO cW dxw n pb nd2)/\H nd2=some (.dK ks)/\ks.length<=1000/\∀ H',KX [r,wl,nd2] H H'->H' r=some (RO cR dx d st dn wl (.ref pb) nd2 .non)->H' wl=some (.lst ws')->H' nd2=some (.dK (putK ks (.inr n) v))->Q .non H')
section
variable {P:Program} {w:World} {K:ua} {mg:Str->Option Value} {base:Heap} {f R C cR cW T:Addr} {fd:FuncData}
theorem scGiveG:FnScope ["self","value","last"] ["self","value"] (zp WK):=⟨rfl,rfl,rfl,by decide +kernel,rfl,by decide +kernel,by decide +kernel⟩
theorem Vz (F:Fun K "give" "Run.give" WK f fd) (N:Rn K cR) (W:Wn K cW) (GP:CaD P w K mg base CX0 3 "parts_of" ["value","most"] [.int 100] (YF T)) (m_len:mg "len"=none):FnOk P w K mg base CX0 4 f fd ["self","value"] (YT cR cW T):=by
 refine F.by scGiveG (fun vs H Q E h=>?_) (fun cdv A outer s H vs Q E hr h=>?_)
 ·obtain ⟨r,dx,d,wl,nd,st,dn,b,v,ff,ws,rfl,_⟩:=h
  rfl
 obtain ⟨r,dx,d,wl,nd,st,dn,b,v,ff,ws,rfl,hR,hW,lw,hT,hv,q1,q2⟩:=h
 refine ⟨_,
  (zk (zH (zt zL (zG zz rfl m_len uC (ja_c (zS (jv 0)) zg)) zh (zw _))
   (zk (yf (jv 0) (zB (ja_c zu (ja_c (zag GP hr rfl zC (ja_c (jv 1) zg)) zg)))))
   (zi (zv (i:=2) scGiveG.nd rfl (Or.inl rfl) (ZH uV PySem.F.slot_list_pop PySem.F.type_list_pop ZK (zS (jv 0))))
   (zi (yf (jv 0) (zS (jv 2)))
   (zi (yf (jv 0) (zS (jv 2)))
   (zk (y8 hr (zS (jv 0)) (zS (jv 2)) (jv 1)))))))),?_⟩
 have sl:=zQ
 have nwr:wl≠r:=fun z=>by
  rw [z,hR] at hW
  cases hW
 by_cases c:ws=[]
 ·have hW:H wl=some (.lst []):=by rw [<- c]; exact hW
  refine ⟨_,rfl,r,cR,dx,_,_,rfl,hR,N.cl,N.a4,rfl,wl,_,rfl,.inl (SqL.of hW),rfl,_,rfl,zV rfl ?_⟩
  obtain ⟨ps0,hTt⟩:=hT.tbl
  have nTr:r≠T:=fun z=>by
   rw [z,hTt] at hR
   cases hR
  refine ⟨_,rfl,v,100,ff,rfl,by decide,hT,hv.1,fun H1 l k1 T1 hl0 hl=>⟨by show 2<=sizeLine; decide,fun tp htp=>?_⟩⟩
  have hR1:=k1 _ _ nTr hR
  have nrl:r≠tp:=zo hR1 htp
  refine ⟨_,rfl,r,cR,dx,_,rfl,by rw [zm nrl]; exact hR1,N.cl,N.a7,by show 7 < 1000; decide,?_⟩
  have n2:=same_new htp (.tup [.str "told",.ref l])
  have nlr:l≠r:=fun z=>by
   rw [z,hR] at hl0
   cases hl0
  refine q1 c _ tp l ?_ ?_ zf (by rw [zm nrl.symm]; exact zf) (by rw [zm nlr]; exact n2 _ _ hl) hl0
  ·have:KX [r,T] H H1:=fun a o na ha=>k1 a o (fun z=>na (by simp [z])) ha
   exact (this.new htp).put (by simp)
  ·obtain ⟨ps,e1,e2⟩:=T1.same n2
   refine ⟨ps,by rw [zm nTr.symm]; exact e1,?_⟩
   rcases e2 with e2 | ⟨c,e2,e3⟩
   ·exact .inl e2
   ·exact .inr ⟨c,e2,by rw [zm (z9 e3 (n2 _ _ hR1) (by unfold CodO RO; intro z; cases z))]; exact e3⟩
 ·obtain ⟨ws',x,dxw,pb,nd2,n,ks,ews,hx,hk,lk,q⟩:=q2 c
  have l0:ws.length≠0:=fun e=>c (List.length_eq_zero_iff.mp e)
  refine ⟨_,rfl,r,cR,dx,_,_,rfl,hR,N.cl,N.a4,rfl,wl,_,rfl,.inl (SqL.of hW),rfl,_,rfl,zI (decide_eq_false (by intro e; injection e with e; lia)) ?_⟩
  refine ⟨_,rfl,r,cR,dx,_,_,rfl,hR,N.cl,N.a4,rfl,.inl ⟨rfl,_,SqL.of hW⟩,wl,_,.ref x,rfl,rfl,hW,by rw [ews,uf]; simp,?_⟩
  rw [ews,List.dropLast_concat]
  have r1:upd H wl (.lst ws') r=some (RO cR dx d st dn wl b nd .non):=by rw [zm nwr.symm]; exact hR
  have x1:upd H wl (.lst ws') x=some (WO cW dxw n pb nd2):=by rw [zm (z9 hx hW (by intro z; cases z))]; exact hx
  have k1:upd H wl (.lst ws') nd2=some (.dK ks):=by rw [zm (z9 hk hW (by intro z; cases z))]; exact hk
  have w1:=zf (H:=H) (a:=wl) (o:=.lst ws')
  have kx1:KX [r,wl,nd2] H (upd H wl (.lst ws')):=KX.refl.put (by simp)
  generalize upd H wl (.lst ws')=H1 at *
  have nxr:x≠r:=fun z=>by
   rw [z,r1] at x1
   have:(7:Nat)=3:=congrArg (fun o:Option HO=>match o with | some (.ins _ _ fs)=>fs.length | _=>0) x1
   exact absurd this (by decide)
  have nkr:nd2≠r:=fun z=>by
   rw [z,r1] at k1
   cases k1
  refine ⟨_,rfl,x,cW,dxw,_,_,rfl,x1,W.cl,W.b2,rfl,_,rfl,r,cR,dx,_,rfl,r1,N.cl,N.a5,by show 7 < 1000; decide,?_⟩
  refine ⟨_,rfl,x,cW,dxw,_,_,rfl,by rw [zm nxr]; exact x1,W.cl,W.b3,rfl,_,rfl,r,cR,dx,_,rfl,zf,N.cl,N.a6,by show 7 < 1000; decide,?_⟩
  refine ⟨_,rfl,_,rfl,r,cR,dx,_,_,rfl,zf,N.cl,N.a6,rfl,_,rfl,x,cW,dxw,_,_,rfl,by rw [zm nxr,zm nxr]; exact x1,W.cl,W.b1,rfl,nd2,_,rfl,DPut.k (k:=.inr n) (by rw [zm nkr,zm nkr]; exact k1) (by lia),?_⟩
  refine q _ (((kx1.put (by simp)).put (by simp)).put (by simp)) (by rw [zm nkr.symm]; exact zf) ?_ zf
  have nwk:wl≠nd2:=z9 w1 k1 (by intro z; cases z)
  rw [zm nwk,zm nwr,zm nwr]
  exact w1
end
end GN
namespace L2
open PySem PySem.Spec PyProof.Rows
section
variable {X:Cx}
def tFs (a b:Str) (t1 t2:TE):TE:=fun σ H Q=>a.length<=sizeLine/\t1 σ H fun v1 H1=>∃ x,v1=.str x/\a.length + x.length + b.length<=sizeLine/\t2 σ H1 fun v2 H2=>∃ i:Int,v2=.int i/\i.natAbs.log2 < 1920/\a.length + x.length + b.length + (Str.ofString (toString i)).length<=sizeLine/\Q (.str (Str.empty ++ a ++ x ++ b ++ Str.ofString (toString i))) H2
theorem za7 {a b:Str} {e1 e2:Expr} {t1 t2:TE} {j j'} {p1 p2 p3 p4 pos:Pos} (h1:PE X e1 t1) (h2:PE X e2 t2) :
  PE X (.JoinedStr [.Constant (.str a) j p1,.FormattedValue e1 (-1) none p2,.Constant (.str b) j' p3,.FormattedValue e2 (-1) none p4] pos) (tFs a b t1 t2):=by
 intro pins s σ H Q I hq
 obtain ⟨la,hq⟩:=hq
 have l0:Str.empty.length=0:=rfl
 refine wpAny_JoinedStr ?_
 refine Calls.Constant_str ⟨a,_,rfl,by rw [strLen_append]; lia,?_⟩
 refine wpAny_FormattedValue_plain (thn (h1 pins _ σ H _ (I.tok _) hq) fun v s1 hv=>?_)
 obtain ⟨u,H1,I1,r1,x,e1,lx,q1⟩:=hv
 subst e1
 obtain ⟨t,rfl⟩:=r1
 have key:∀ s2,Inv X pins σ H1 s2->∀ t',∃ y t0,Value.str x t'=.str y t0/\(Str.empty ++ a ++ y).length<=sizeLine/\Joins (model X.prog X.w) X.A X.xe (evalEach [.Constant (.str b) j' p3,.FormattedValue e2 (-1) none p4] X.env) (Str.empty ++ a ++ y) (fun out s₁=>out.length<=sizeLine/\EP X pins σ Q (.str out s₁.toks) { s₁ with toks:=s₁.toks + 1 }) s2:=fun s2 I2 t'=>by
  refine ⟨x,t',rfl,by rw [strLen_append,strLen_append]; lia,?_⟩
  refine Calls.Constant_str ⟨b,_,rfl,by rw [strLen_append,strLen_append,strLen_append]; lia,?_⟩
  refine wpAny_FormattedValue_plain (thn (h2 pins _ σ H1 _ (I2.tok _) q1) fun v s3 hv=>?_)
  obtain ⟨u,H3,I3,r3,i,e3,li,lt,q3⟩:=hv
  subst e3
  obtain ⟨t,rfl⟩:=r3
  refine wpAny_formatField_int li ⟨_,_,rfl,by rw [strLen_append,strLen_append,strLen_append,strLen_append]; lia,by rw [strLen_append,strLen_append,strLen_append,strLen_append]; lia,?_⟩
  exact ⟨.str _,H3,(I3.tok _),⟨_,rfl⟩,q3⟩
 exact wpAny_formatField_str (key _ I1 _) (key _ (I1.tok _) _) (by lia)
theorem za8 {a b:Str} {e1 e2:Expr} {t1 t2:TE} {j j'} {p1 p2 p3 p4 pos:Pos} (h1:jE X e1 t1) (h2:jE X e2 t2) :
  jE X (.JoinedStr [.Constant (.str a) j p1,.FormattedValue e1 (-1) none p2,.Constant (.str b) j' p3,.FormattedValue e2 (-1) none p4] pos) (tFs a b t1 t2):=⟨za7 h1.out h2.out⟩
end
end L2
namespace K11
open PySem PySem.Spec PyProof.Rows Builtin Builtin.Str NumText
end K11
namespace L2
open PySem
theorem FnOk.or {P:Program} {w:World} {K:ua} {mg:Str->Option Value} {base:Heap} {CX:CXT} {k:Nat} {f:Addr} {fd:FuncData} {ps:List Str} {s1 s2:Sp} (h1:FnOk P w K mg base CX k f fd ps s1) (h2:FnOk P w K mg base CX k f fd ps s2):FnOk P w K mg base CX k f fd ps (fun vs H Q E=>s1 vs H Q E\/s2 vs H Q E) :=
 ⟨fun vs H Q E h=>h.elim (h1.len vs H Q E) (h2.len vs H Q E),fun A outer s H args us vs Q E hr he hb hv h=>h.elim (h1.run A outer s H args us vs Q E hr he hb hv) (h2.run A outer s H args us vs Q E hr he hb hv)⟩
end L2
namespace GN
open PySem L2 K11
abbrev Ez (kv:Kvs) (H:Hp) (ks:List (Key × V)) (e:En):Prop:=ER (fun v f=>Pz kv H [v] f) ks e
def ftag (g:Str) (n:Nat):Str:=Str.empty ++ "func " ++ g ++ " " ++ Str.ofString (toString ((n:Nat):Int))
def outX (e:En):Dx->List V ⊕ Str
 | .dd d=>outE e d
 | .fn g ns=>.inl (.str (ftag g ns.length) :: (ns.map fun n=>(valE e n).getD []).flatten)
 | _=>.inr ""
def OkO (kv:Kvs) (ks:List Str):Dx->Prop
 | .dd d=>OkD ks d/\OkZ kv d
 | .fn g ns=>(∀ n∈ns,n∈ks)/\ns.length<=9/\g.length<=1000/\szOf kv (ftag g ns.length)=some ns.length
 | _=>False
def Qd:Sp:=fun vs H Q _=>∃ (g:Str) (n:Nat),vs=[.str g,.int (n:Nat)]/\g.length<=1000/\n<=9/\Q (.str (ftag g n)) H
def VA (cR:Addr):Sp:=fun vs H Q _=>∃ (r dx d wl nd p:Addr) (st dn:Int) (b en:V) (kvs:List (Key × V)) (e:En) (ks:List Str) (g:Str) (ns:List Str) (kv:Kvs),vs=[.ref r,.ref p]/\H r=some (RO cR dx d st dn wl b nd en)/\H nd=some (.dK kvs)/\Ez kv H kvs e/\Bnd ks e/\OkO kv ks (.fn g ns)/\IsDx H (.fn g ns) p /\
 ∀ H' v,Same H H'->Pz kv H' [v] (.str (ftag g ns.length) :: (ns.map fun n=>(valE e n).getD []).flatten)->Q v H'
def VB (cR C:Addr):Sp:=fun vs H Q E=>∃ (r dx d wl nd p:Addr) (st dn:Int) (b en:V) (kvs:List (Key × V)) (e:En) (ks:List Str) (dd:Dx) (kv:Kvs),vs=[.ref r,.ref p]/\H r=some (RO cR dx d st dn wl b nd en)/\H nd=some (.dK kvs)/\Ez kv H kvs e/\Bnd ks e/\OkO kv ks dd/\IsDx H dd p /\
 (∀ f,outX e dd=.inl f->∀ H' v,Same H H'->Pz kv H' [v] f->Q v H')/\∀ w,outX e dd=.inr w->ErrW C E H w
theorem VC:∀ n:Fin 10,(Str.ofString (toString ((n.val:Nat):Int))).length<=3/\((n.val:Nat):Int).natAbs.log2 < 1920:=by decide +kernel
theorem js {n:Nat} (h:n<=9):(Str.ofString (toString ((n:Nat):Int))).length<=3/\((n:Nat):Int).natAbs.log2 < 1920:=VC ⟨n,by lia⟩
section
variable {P:Program} {w:World} {K:ua} {mg:Str->Option Value} {base:Heap} {f R C cR T:Addr} {fd:FuncData}
theorem za9:FnScope ["name","many"] ["name","many"] (zp wU):=⟨rfl,rfl,rfl,by decide +kernel,rfl,by decide +kernel,by decide +kernel⟩
theorem zas (F:Fun K "func_tag" "func_tag" wU f fd):FnOk P w K mg base CX0 1 f fd ["name","many"] Qd:=by
 refine F.by za9 (fun vs H Q E h=>?_) (fun cdv A outer s H vs Q E hr h=>?_)
 ·obtain ⟨g,n,rfl,_⟩:=h
  rfl
 obtain ⟨g,n,rfl,lg,ln,q⟩:=h
 have sl:=zQ
 obtain ⟨l1,l2⟩:=js ln
 have a5:Str.length "func "=5:=by decide +kernel
 have a1:Str.length " "=1:=by decide +kernel
 exact ⟨_,zk (zx (za8 (jv 0) (jv 1))),by lia,_,rfl,g,rfl,by lia,_,rfl,_,rfl,l2,by lia,q⟩
theorem qf (F:Fun K "outcome" "Run.outcome" sOut f fd) (T:Rn K cR) (GV:Me P w K mg base CX0 1 cR "valued" ["self","names"] (xZ cR)) (GT:Ca P w K mg base CX0 1 "func_tag" ["name","many"] Qd) (m_tuple:mg "tuple"=none) (m_len:mg "len"=none):FnOk P w K mg base (CXf P w) 4 f fd ["self","deed"] (VA cR):=by
 refine F.byx scOut (fun vs H Q E h=>?_) (fun cdv A outer s H vs Q E hr h=>?_)
 ·obtain ⟨r,dx,d,wl,nd,p,st,dn,b,en,kvs,e,ks,g,ns,kv,rfl,_⟩:=h
  rfl
 obtain ⟨r,dx,d,wl,nd,p,st,dn,b,en,kvs,e,ks,g,ns,kv,rfl,hR,hN,hE,hB,⟨o1,o2,o3,o4⟩,hD,q1⟩:=h
 have r1:Room 1 _:=hr.mono (by decide)
 refine ⟨_,
  (zi (zH (zt zL (zq zr (jv 1) zh (fun _ _=>rfl)) zu (zw _)) (zk yW) zA)
  (zi (zH (zt zL (zq zr (jv 1) zh (fun _ _=>rfl)) zu (zw _)) (zk yW) zA)
  (zi (zv (i:=2) scOut.nd rfl (Or.inl rfl) (yU (zt zL (zq zr (jv 1) zh (fun _ _=>rfl)) zu (zw _)) Zb (zy GT.upx r1 rfl yb (ja_c (zq zr (jv 1) zh (fun _ _=>rfl)) (ja_c (zG zz rfl m_len uC (ja_c (zq zr (jv 1) zh (fun _ _=>rfl)) zg)) zg)))))
  (zk (zx (zB (ja_c (jv 2) (ja_c (yh zR rfl m_tuple uW (ja_c (yQ (jv 0) T.cl GV.upx r1 yb (ja_c (zq zr (jv 1) zh (fun _ _=>rfl)) zg)) zg)) zg)))))))),?_⟩
 have sl:=zQ
 obtain ⟨pq,hD,hQ⟩:∃ q,H p=some (.tup [.str "func",.str g,.ref q])/\H q=some (.tup (ns.map V.str)):=hD
 have hall:∀ n∈ns,∃ v,valV kvs (.inr n)=some v:=fun n hn=>by
  obtain ⟨fa,ea⟩:=hB.get (o1 n hn)
  obtain ⟨va,a1,_⟩:=hE.val ea
  exact ⟨va,a1⟩
 refine ⟨_,rfl,ixT hD rfl ⟨rfl,_,rfl,zI (by decide +kernel) (nxt ?_)⟩⟩
 refine ⟨_,rfl,ixT hD rfl ⟨rfl,_,rfl,zI (by decide +kernel) (nxt ?_)⟩⟩
 refine ⟨_,rfl,ixT hD rfl ⟨rfl,_,rfl,zI (by decide +kernel) ?_⟩⟩
 refine ⟨_,rfl,ixT hD (zj (j:=1) rfl) ⟨_,rfl,ixT hD (zj (j:=2) rfl) ⟨pq,_,rfl,.inr (SqT.of hQ),g,ns.length,by rw [ub]; rfl,o3,o2,?_⟩⟩⟩
 refine ⟨_,rfl,_,rfl,r,dx,_,rfl,hR,rfl,_,rfl,ixT hD (zj (j:=2) rfl) ⟨r,dx,d,wl,nd,pq,st,dn,b,en,kvs,ns,rfl,hR,hN,hQ,hall,by lia,fun H1 l s1 _ hl=>?_⟩⟩
 refine ⟨l,_,rfl,.inl ⟨SqL.of hl,fun tp htp=>⟨by show 2<=sizeLine; decide,fun tv htv=>?_⟩⟩⟩
 have n1:=(same_new htp (.tup (vals kvs ns))).new (o:=.tup [.str (ftag g ns.length),.ref tp]) htv
 have s2:=s1.trans n1
 refine q1 _ _ s2 ?_
 have hsz:szOf kv (ftag g ns.length)=some (vals kvs ns).length:=by unfold vals; rw [ub]; exact o4
 have:=Pz.shp (kvs:=kv) (vs:=[]) (ys:=[]) (zf (H:=upd H1 tp (.tup (vals kvs ns))) (a:=tv) (o:=.tup [.str (ftag g ns.length),.ref tp])) (old htv zf) hsz (by unfold vals; rw [ub]; lia) (Pz.flat (fs:=ns.map fun n=>(valE e n).getD []) (by unfold vals; rw [ub,ub]) fun j v f h1 h2=>?_) .nil
 ·rw [uO] at this
  exact this
 ·unfold vals at h1
  rw [uj] at h1 h2
  obtain ⟨n,hn,rfl⟩:=uk.mp h1
  rw [hn] at h2
  have h2:some ((valE e n).getD [])=some f:=h2
  cases h2
  obtain ⟨fa,ea⟩:=hB.get (o1 n (uu hn))
  obtain ⟨va,a1,a2⟩:=hE.val ea
  rw [a1,ea]
  exact a2.keep (.of s2)
theorem qg (h1:FnOk P w K mg base (CXf P w) 4 f fd ["self","deed"] (Vx cR C)) (h2:FnOk P w K mg base (CXf P w) 4 f fd ["self","deed"] (VA cR)):FnOk P w K mg base (CXf P w) 4 f fd ["self","deed"] (VB cR C) :=
 (h1.or h2).imp fun vs H Q E h=>by
  obtain ⟨r,dx,d,wl,nd,p,st,dn,b,en,kvs,e,ks,dd,kv,rfl,hR,hN,hE,hB,hO,hD,q1,q2⟩:=h
  match dd,hO,hD,q1,q2 with
  | .dd d',hO,hD,q1,q2=>exact .inl ⟨r,dx,d,wl,nd,p,st,dn,b,en,kvs,e,ks,d',kv,rfl,hR,hN,hE,hB,hO.1,hO.2,hD,q1,q2⟩
  | .fn g ns,hO,hD,q1,q2=>exact .inr ⟨r,dx,d,wl,nd,p,st,dn,b,en,kvs,e,ks,g,ns,kv,rfl,hR,hN,hE,hB,hO,hD,fun H' v s' hv=>q1 _ rfl H' v s' hv⟩
end
end GN
namespace GN
open PySem L2 K11
def noBl (t:Str):Prop:=32 ∉ cl t
abbrev numS (n:Nat):Str:=Str.ofString (toString ((n:Nat):Int))
theorem qh:∀ n:Fin 10,32 ∉ cl (numS n):=by decide +kernel
theorem zat {n:Nat} (h:n<=9):noBl (numS n):=qh ⟨n,by lia⟩
theorem yR (g:Str) (n:Nat):cl (ftag g n)=cl "func" ++ 32 :: (cl g ++ 32 :: cl (numS n)):=by
 unfold ftag
 rw [zP,zP,zP,zP,show cl Str.empty=[] from rfl,show cl "func "=cl "func" ++ [32] by decide +kernel,show cl (" ":Str)=[32] by decide +kernel]
 simp only [List.nil_append,uG,List.singleton_append]
 rfl
theorem Z8 {g:Str} {n:Nat} (h:noBl g) (hn:n<=9):Txt.split (ftag g n) " "=[("func":Str),g,numS n]:=by
 have e:ftag g n=Str.join (sg 32) [("func":Str),g,numS n]:=by
  refine xX ?_
  rw [yR,yc,yc]
  rfl
 rw [e,show (" ":Str)=sg 32 from rfl]
 refine wT (by simp) fun x hx=>?_
 simp only [uq,UC,or_false] at hx
 rcases hx with rfl | rfl | rfl
 ·decide +kernel
 ·exact h
 ·exact zat hn
theorem VD {g:Str} {n:Nat} (h:g.length<=1000) (hn:n<=9):(ftag g n).length<=2000:=by
 have:(numS n).length<=3:=(js hn).1
 rw [<- yN,yR,uf,uD,uf,uD,yN g,yN (numS n),show (cl ("func":Str)).length=4 by decide +kernel]
 lia
theorem YU (g:Str) (n:Nat):¬ noBl (ftag g n):=fun h=>h (by rw [yR]; simp)
theorem Zj {g g':Str} {n n':Nat} (h:noBl g) (h':noBl g') (e:ftag g n=ftag g' n'):g=g':=by
 have e:=congrArg cl e
 rw [yR,yR] at e
 have e1:=List.append_cancel_left e
 injection e1 with _ e2
 exact xX (y9 h h' e2).1
def YV (C:Addr):Sp:=fun vs H Q E=>∃ (d:Addr) (t:Str) (had more:Int) (dks:List (Key × V)),vs=[.ref d,.str t,.int had,.int more]/\H d=some (.dK dks)/\t.length<=2000 /\
 ((noBl t/\ErrW C E H "nofunc")\/∃ (g:Str) (n:Nat) (one pp pb:Addr) (ps:List Str),t=ftag g n/\n<=9/\noBl g/\valV dks (.inr g)=some (.ref one)/\H one=some (.tup [.str g,.ref pp,.ref pb])/\H pp=some (.tup (ps.map V.str))/\(had + more≠(ps.length:Nat)->ErrW C E H "nofunc")/\(had + more=(ps.length:Nat)->∀ H',Same H H'->Q (.str g) H'))
def Qe (cR C:Addr):Sp:=fun vs H Q E=>∃ (r dx d wl nd vl bh:Addr) (st dn:Int) (b v:V) (us ws:List V) (dks:List (Key × V)),vs=[.ref r,.ref bh,v,.ref vl]/\H r=some (RO cR dx d st dn wl b nd .non)/\H wl=some (.lst ws)/\ws.length<=10000/\H d=some (.dK dks)/\H vl=some (.lst us)/\us.length<=1000 /\
 ((∃ i:Int,v=.int i/\Sm i/\ErrW C E H "nofunc")\/∃ (p q:Addr) (t:Str) (ys:List V),v=.ref p/\H p=some (.tup [.str t,.ref q])/\H q=some (.tup ys)/\ys.length<=9/\t.length<=2000 /\
  ((noBl t/\ErrW C E H "nofunc")\/∃ (g:Str) (n:Nat) (one pp pb:Addr) (ps:List Str),t=ftag g n/\n<=9/\noBl g/\valV dks (.inr g)=some (.ref one)/\H one=some (.tup [.str g,.ref pp,.ref pb])/\H pp=some (.tup (ps.map V.str))/\ps.Nodup/\(ys.length + us.length≠ps.length->ErrW C E H "nofunc") /\
   (ys.length + us.length=ps.length->(dn=st->∀ H' tp,KX [r] H H'->H' r=some (RO cR dx d st dn wl b nd (.ref tp))->H' tp=some (.tup [.str "late",.int st])->Q .non H') /\
    (dn≠st->∀ H' nd',KX [r,wl] H H'->H nd'=none->H' r=some (RO cR dx d st (dn + 1) wl (.ref pb) nd' .non)->H' wl=some (.lst (ws ++ [.ref bh]))->H' nd'=some (.dK (zkv ps (ys ++ us)))->Q .non H'))))
section
variable {P:Program} {w:World} {K:ua} {mg:Str->Option Value} {base:Heap} {f R C cR T:Addr} {fd:FuncData}
theorem scAsked:FnScope ["defs","tag","had","more","words"] ["defs","tag","had","more"] (zp ZX):=⟨rfl,rfl,rfl,by decide +kernel,rfl,by decide +kernel,by decide +kernel⟩
theorem VE (F:Fun K "asked_def" "asked_def" ZX f fd) (GX:Xa P w K mg base 1 "Fault" C ["self","word"] (K31.spFault C)) (m_len:mg "len"=none):FnOk P w K mg base (CXf P w) 3 f fd ["defs","tag","had","more"] (YV C):=by
 refine F.byx scAsked (fun vs H Q E h=>?_) (fun cdv A outer s H vs Q E hr h=>?_)
 ·obtain ⟨d,t,had,more,dks,rfl,_⟩:=h
  rfl
 obtain ⟨d,t,had,more,dks,rfl,hd,lt,hc⟩:=h
 refine ⟨_,
  (zi (zv (i:=4) scAsked.nd rfl (Or.inl rfl) (xl PySem.F.plainAttrs_str PySem.F.slot_str_split PySem.F.type_str_split Wr (jv 1) (ja_c zu zg)))
  (zi (zH (jW.pt (wk (zt xQ (zG zz rfl m_len uC (ja_c (jv 4) zg)) zh (zw _)) (xH (zt xQ (zF yr (jv 2) (jv 3)) (zG zz rfl m_len uC (ja_c (zq zr (zX hr (jv 0) (zq zE (jv 4) zh (fun _ _=>rfl))) zh (fun _ _=>rfl)) zg)) (zw _)))))
   (zk (yM GX hr rfl yL (ja_c zu zg)))  zA)
  (zk (zx (zq zE (jv 4) zh (fun _ _=>rfl)))))),?_⟩
 have sl:=zQ
 refine ⟨_,rfl,rfl,t," ",rfl,rfl,by decide +kernel,by lia,fun wl hwl=>?_⟩
 rcases hc with ⟨hb,hE⟩ | ⟨g,n,one,pp,pb,ps,rfl,hn,hb,hv,h1,hpp,hE,q⟩
 ·rw [show (" ":Str)=sg 32 from rfl,Xy hb]
  have s1:=same_new hwl (.lst [V.str t])
  refine ⟨_,rfl,wl,_,rfl,.inl (SqL.of zf),rfl,_,rfl,zV (by simp) (iteT ?_)⟩
  exact ⟨by show 1<=sizeLine; decide,fun e he=>K31.raised (fun d H2 s2 hd=>hE d H2 (s1.trans s2) hd) e he⟩
 ·rw [Z8 hb hn]
  have s1:=same_new hwl (.lst [V.str "func",V.str g,V.str (numS n)])
  have ew:=zf (H:=H) (a:=wl) (o:=.lst [V.str "func",V.str g,V.str (numS n)])
  show (tSeq _ _:TS) _ _ (upd H wl (.lst [V.str "func",V.str g,V.str (numS n)]))
  generalize upd H wl (.lst [V.str "func",V.str g,V.str (numS n)])=H1 at *
  refine ⟨_,rfl,wl,_,rfl,.inl (SqL.of ew),rfl,_,rfl,zI (by simp) ?_⟩
  refine ⟨_,rfl,_,rfl,_,_,rfl,rfl,_,rfl,_,rfl,ixL ew (zj (j:=1) rfl) ⟨d,_,rfl,(by rw [<- hv]; exact DGet.k (k:=.inr g) (s1 _ _ hd)),ixT (s1 _ _ h1) (zj (j:=1) rfl) ⟨pp,_,rfl,.inr (SqT.of (s1 _ _ hpp)),rfl,_,rfl,?_⟩⟩⟩
  rw [ub]
  by_cases c:had + more=(ps.length:Nat)
  ·refine zI (by show (!decide (V.int (had + more)=V.int (ps.length:Nat)))=false; rw [c]; simp) (nxt ⟨_,rfl,ixL ew (zj (j:=1) rfl) (q c _ s1)⟩)
  ·refine zV (by show (!decide (V.int (had + more)=V.int (ps.length:Nat)))=true; simpa using c) ⟨by show 1<=sizeLine; decide,fun e he=>K31.raised (fun d H2 s2 hd=>hE c d H2 (s1.trans s2) hd) e he⟩
theorem scAskR:FnScope ["self","behind","asked","values","name"] ["self","behind","asked","values"] (zp sAsk):=⟨rfl,rfl,rfl,by decide +kernel,rfl,by decide +kernel,by decide +kernel⟩
theorem zau (F:Fun K "ask" "Run.ask" sAsk f fd) (N:Rn K cR) (GX:Xa P w K mg base 1 "Fault" C ["self","word"] (K31.spFault C)) (GW:Ca P w K mg base CX0 1 "is_whole" ["thing"] K31.spWhole) (GA:Ca P w K mg base (CXf P w) 3 "asked_def" ["defs","tag","had","more"] (YV C)) (GC:Me P w K mg base CX0 2 cR "call" ["self","behind","name","values"] (Z7 cR)) (m_len:mg "len"=none) (m_list:mg "list"=none):FnOk P w K mg base (CXf P w) 4 f fd ["self","behind","asked","values"] (Qe cR C):=by
 refine F.byx scAskR (fun vs H Q E h=>?_) (fun cdv A outer s H vs Q E hr h=>?_)
 ·obtain ⟨r,dx,d,wl,nd,vl,bh,st,dn,b,v,us,ws,dks,rfl,_⟩:=h
  rfl
 obtain ⟨r,dx,d,wl,nd,vl,bh,st,dn,b,v,us,ws,dks,rfl,hR,hW,lw,hd,hvl,lu,hc⟩:=h
 have r1:Room 1 _:=hr.mono (by decide)
 have r2:Room 2 _:=hr.mono (by decide)
 have r3:Room 3 _:=hr.mono (by decide)
 refine ⟨_,
  (zi (zH (ye (zy GW.upx r1 rfl yb (ja_c (jv 2) zg)))
   (zk (yM GX r2 rfl yL (ja_c zu zg))) zA)
  (zi (zv (i:=4) scAskR.nd rfl (Or.inl rfl) (zy GA r3 rfl yb (ja_c (zS (jv 0)) (ja_c (zq zr (jv 2) zh (fun _ _=>rfl)) (ja_c (zG zz rfl m_len uC (ja_c (zq zr (jv 2) zh (fun _ _=>rfl)) zg)) (ja_c (zG zz rfl m_len uC (ja_c (jv 3) zg)) zg))))))
  (zk (zU (yQ (jv 0) N.cl GC.upx r2 yb (ja_c (jv 1) (ja_c (jv 4) (ja_c (zF ZI (yh wN rfl m_list UX (ja_c (zq zr (jv 2) zh (fun _ _=>rfl)) zg)) (jv 3)) zg)))))))),?_⟩
 have sl:=zQ
 rcases hc with ⟨i,rfl,si,hE⟩ | ⟨p,q,t,ys,rfl,hp,hq,ly,lt,hc⟩
 ·refine ⟨_,rfl,_,_,rfl,K31.Nu.int si,_,rfl,iteT ?_⟩
  exact ⟨by show 1<=sizeLine; decide,fun e he=>K31.raised (fun d H2 s2 hd=>hE d H2 s2 hd) e he⟩
 refine ⟨_,rfl,_,_,rfl,K31.Nu.tup hp,_,rfl,iteF (nxt ?_)⟩
 refine ⟨_,rfl,r,cR,dx,_,_,rfl,hR,N.cl,N.a1,rfl,_,rfl,ixT hp (zj (j:=0) rfl) ⟨_,rfl,ixT hp (zj (j:=1) rfl) ⟨q,_,rfl,.inr (SqT.of hq),_,rfl,vl,_,rfl,.inl (SqL.of hvl),d,t,_,_,dks,rfl,hd,lt,?_⟩⟩⟩
 rcases hc with ⟨hb,hE⟩ | ⟨g,n,one,pp,pb,ps,rfl,hn,hb,hv,h1,hpp,hnd,hE,q1⟩
 ·exact .inl ⟨hb,hE⟩
 ·refine .inr ⟨g,n,one,pp,pb,ps,rfl,hn,hb,hv,h1,hpp,fun c=>hE (by lia),fun c H1 s1=>?_⟩
  have c:ys.length + us.length=ps.length:=by lia
  obtain ⟨q2,q3⟩:=q1 c
  refine ⟨_,rfl,r,dx,_,rfl,s1 _ _ hR,rfl,_,rfl,_,rfl,_,rfl,ixT (s1 _ _ hp) (zj (j:=1) rfl) ⟨q,_,rfl,.inr (SqT.of (s1 _ _ hq)),fun l1 hl1=>?_⟩⟩
  refine ⟨_,rfl,l1,vl,_,_,rfl,rfl,zf,old hl1 (s1 _ _ hvl),by lia,fun l2 hl2=>?_⟩
  have s2:=(s1.new (o:=.lst ys) hl1).new (o:=.lst (ys ++ us)) hl2
  refine ⟨r,dx,d,wl,nd,l2,bh,one,pp,pb,st,dn,b,g,dks,ps,_,ws,rfl,s2 _ _ hR,s2 _ _ hW,lw,s2 _ _ hd,hv,s2 _ _ h1,s2 _ _ hpp,hnd,zf,fun z=>(by rw [z,old hl1 (s1 _ _ hW)] at hl2; cases hl2),by rw [uf]; lia,fun c H' tp k' g1 g2=>?_,fun c H' nd' k' f' g1 g2 g3=>?_⟩
  ·exact q2 c H' tp ((KX.of s2).trans k') g1 g2
  ·exact q3 c H' nd' ((KX.of s2).trans k') (s2.free f') g1 g2 g3
end
end GN
namespace L2
open PySem
theorem Ma.upx {P:Program} {w:World} {K:ua} {mg:Str->Option Value} {base:Heap} {CX:CXT} {k:Nat} {x:Str} {C:Addr} {ps:List Str} {sp:Sp} (h:Ma P w K mg base CX0 k x C ps sp):Ma P w K mg base CX k x C ps sp:=let ⟨f,fd,m,a,r⟩:=h.ex; ⟨f,fd,m,a.upx,r⟩
end L2
namespace GN
open PySem L2 K11
def zav (cR C:Addr):Sp:=fun vs H Q E=>∃ (r dx d wl nd p pb:Addr) (st dn:Int) (b:V) (n:Str) (kvs:List (Key × V)) (e:En) (ks:List Str) (dd:Dx) (kv:Kvs),vs=[.ref r,.str n,.ref p,.ref pb]/\H r=some (RO cR dx d st dn wl b nd .non)/\H nd=some (.dK kvs)/\kvs.length<=1000/\Ez kv H kvs e/\Bnd ks e/\OkO kv ks dd/\IsDx H dd p /\
 (∀ f,outX e dd=.inl f->∀ H' kvs',KX [r,nd] H H'->H' r=some (RO cR dx d st dn wl (.ref pb) nd .non)->H' nd=some (.dK kvs')->Ez kv H' kvs' (putE e n f)->kvs'.length<=kvs.length + 1->Q .non H')/\∀ w,outX e dd=.inr w->ErrW C E H w
def zaw (cR cW:Addr):Sp:=fun vs H Q _=>∃ (r dx d wl nd p pb pq one pp pb2:Addr) (st dn:Int) (b:V) (n g:Str) (kvs dks:List (Key × V)) (ns ps:List Str) (ws:List V),vs=[.ref r,.str n,.ref p,.ref pb]/\H r=some (RO cR dx d st dn wl b nd .non)/\H nd=some (.dK kvs)/\H p=some (.tup [.str "call",.str g,.ref pq])/\H pq=some (.tup (ns.map V.str))/\(∀ n∈ns,∃ v,valV kvs (.inr n)=some v)/\ns.length<=1000/\H wl=some (.lst ws)/\ws.length<=10000/\H d=some (.dK dks)/\valV dks (.inr g)=some (.ref one)/\H one=some (.tup [.str g,.ref pp,.ref pb2])/\H pp=some (.tup (ps.map V.str))/\ps.Nodup/\ps.length=ns.length /\
 (dn=st->∀ H' tp,KX [r] H H'->H' r=some (RO cR dx d st dn wl b nd (.ref tp))->H' tp=some (.tup [.str "late",.int st])->Q .non H') /\
 (dn≠st->∀ H' nd' x dxw,KX [r,wl] H H'->H nd'=none->H x=none->H' r=some (RO cR dx d st (dn + 1) wl (.ref pb2) nd' .non)->H' wl=some (.lst (ws ++ [.ref x]))->H' x=some (WO cW dxw n pb nd)->H' nd'=some (.dK (zkv ps (vals kvs ns)))->Q .non H')
def zax (cR cW C:Addr):Sp:=fun vs H Q E=>∃ (r dx d wl nd p pb pq:Addr) (st dn:Int) (b v:V) (n x:Str) (kvs dks:List (Key × V)) (ns:List Str) (ws:List V),vs=[.ref r,.str n,.ref p,.ref pb]/\H r=some (RO cR dx d st dn wl b nd .non)/\H nd=some (.dK kvs)/\H p=some (.tup [.str "ask",.str x,.ref pq])/\H pq=some (.tup (ns.map V.str))/\valV kvs (.inr x)=some v/\(∀ n∈ns,∃ v,valV kvs (.inr n)=some v)/\ns.length<=9/\H wl=some (.lst ws)/\ws.length<=10000/\H d=some (.dK dks) /\
 ((∃ i:Int,v=.int i/\Sm i/\ErrW C E H "nofunc")\/∃ (pv q:Addr) (t:Str) (ys:List V),v=.ref pv/\H pv=some (.tup [.str t,.ref q])/\H q=some (.tup ys)/\ys.length<=9/\t.length<=2000 /\
  ((noBl t/\ErrW C E H "nofunc")\/∃ (g:Str) (m:Nat) (one pp pb2:Addr) (ps:List Str),t=ftag g m/\m<=9/\noBl g/\valV dks (.inr g)=some (.ref one)/\H one=some (.tup [.str g,.ref pp,.ref pb2])/\H pp=some (.tup (ps.map V.str))/\ps.Nodup/\(ys.length + ns.length≠ps.length->ErrW C E H "nofunc") /\
   (ys.length + ns.length=ps.length->(dn=st->∀ H' tp,KX [r] H H'->H' r=some (RO cR dx d st dn wl b nd (.ref tp))->H' tp=some (.tup [.str "late",.int st])->Q .non H') /\
    (dn≠st->∀ H' nd' xw dxw,KX [r,wl] H H'->H nd'=none->H xw=none->H' r=some (RO cR dx d st (dn + 1) wl (.ref pb2) nd' .non)->H' wl=some (.lst (ws ++ [.ref xw]))->H' xw=some (WO cW dxw n pb nd)->H' nd'=some (.dK (zkv ps (ys ++ vals kvs ns)))->Q .non H'))))
def VF (cR cW C:Addr):Sp:=fun vs H Q E=>zav cR C vs H Q E\/zaw cR cW vs H Q E\/zax cR cW C vs H Q E
section
variable {P:Program} {w:World} {K:ua} {mg:Str->Option Value} {base:Heap} {f R C cR cW T:Addr} {fd:FuncData}
theorem zay:FnScope ["self","wants","deed","body"] ["self","wants","deed","body"] (zp sLet):=⟨rfl,rfl,rfl,by decide +kernel,rfl,by decide +kernel,by decide +kernel⟩
theorem Dx.wordG {H:Hp} {kv:Kvs} {ks:List Str}:∀ {dd:Dx} {p:Addr},OkO kv ks dd->IsDx H dd p->∃ z rest,H p=some (.tup (.str z :: rest))/\z≠"call"/\z≠"ask"
 | .dd (.num i),p,_,h=>⟨_,_,h,by decide +kernel,by decide +kernel⟩
 | .dd (.op _ _ _),p,_,h=>⟨_,_,h,by decide +kernel,by decide +kernel⟩
 | .dd (.mk _ _),p,_,⟨q,h,_⟩=>⟨_,_,h,by decide +kernel,by decide +kernel⟩
 | .fn _ _,p,_,⟨q,h,_⟩=>⟨_,_,h,by decide +kernel,by decide +kernel⟩
theorem qi (F:Fun K "let" "Run.let" sLet f fd) (N:Rn K cR) (GO:Me P w K mg base (CXf P w) 4 cR "outcome" ["self","deed"] (VB cR C)) (GC:Me P w K mg base CX0 2 cR "call" ["self","behind","name","values"] (Z7 cR)) (GV:Me P w K mg base CX0 1 cR "valued" ["self","names"] (xZ cR)) (GK:Me P w K mg base (CXf P w) 4 cR "ask" ["self","behind","asked","values"] (Qe cR C)) (GW:Ma P w K mg base CX0 1 "Waiting" cW ["self","wants","body","names"] (YS cW)):FnOk P w K mg base (CXf P w) 5 f fd ["self","wants","deed","body"] (VF cR cW C):=by
 refine F.byx zay (fun vs H Q E h=>?_) (fun cdv A outer s H vs Q E hr h=>?_)
 ·rcases h with h | h | h
  ·obtain ⟨r,dx,d,wl,nd,p,pb,st,dn,b,n,kvs,e,ks,dd,kv,rfl,_⟩:=h
   rfl
  ·obtain ⟨r,dx,d,wl,nd,p,pb,pq,one,pp,pb2,st,dn,b,n,g,kvs,dks,ns,ps,ws,rfl,_⟩:=h
   rfl
  ·obtain ⟨r,dx,d,wl,nd,p,pb,pq,st,dn,b,v,n,x,kvs,dks,ns,ws,rfl,_⟩:=h
   rfl
 have r1:Room 1 _:=hr.mono (by decide)
 have r2:Room 2 _:=hr.mono (by decide)
 refine ⟨_,
  (zk (zH (zt zL (zq zr (jv 2) zh (fun _ _=>rfl)) zu (zw _))
   (zk (zU (yQ (jv 0) N.cl GC.upx r2 yb (ja_c (WD GW.upx r2 rfl yb (ja_c (jv 1) (ja_c (jv 3) (ja_c (zS (jv 0)) zg)))) (ja_c (zq zr (jv 2) zh (fun _ _=>rfl)) (ja_c (yQ (jv 0) N.cl GV.upx r1 yb (ja_c (zq zr (jv 2) zh (fun _ _=>rfl)) zg)) zg))))))
   (zk (zH (zt zL (zq zr (jv 2) zh (fun _ _=>rfl)) zu (zw _)) (zk (zU (yQ (jv 0) N.cl GK hr yb (ja_c (WD GW.upx r2 rfl yb (ja_c (jv 1) (ja_c (jv 3) (ja_c (zS (jv 0)) zg)))) (ja_c (zX hr (zS (jv 0)) (zq zr (jv 2) zh (fun _ _=>rfl))) (ja_c (yQ (jv 0) N.cl GV.upx r1 yb (ja_c (zq zr (jv 2) zh (fun _ _=>rfl)) zg)) zg))))))
    (zi (y8 hr (zS (jv 0)) (jv 1) (yQ (jv 0) N.cl GO hr yb (ja_c (jv 2) zg)))
    (zk (yf (jv 0) (jv 3)))))))),?_⟩
 have sl:=zQ
 rcases h with h | h | h
 ·obtain ⟨r,dx,d,wl,nd,p,pb,st,dn,b,n,kvs,e,ks,dd,kv,rfl,hR,hN,hk,hE,hB,hO,hD,q1,q2⟩:=h
  obtain ⟨z,rest,hz,z1,z2⟩:=Dx.wordG hO hD
  refine ⟨_,rfl,ixT hz (zj (j:=0) rfl) ⟨rfl,_,rfl,zI (decide_eq_false fun h=>z1 (V.str.inj h)) ?_⟩⟩
  refine ⟨_,rfl,ixT hz (zj (j:=0) rfl) ⟨rfl,_,rfl,zI (decide_eq_false fun h=>z2 (V.str.inj h)) ?_⟩⟩
  refine ⟨_,rfl,r,dx,_,rfl,hR,rfl,_,rfl,r,dx,d,wl,nd,p,st,dn,b,.non,kvs,e,ks,dd,kv,rfl,hR,hN,hE,hB,hO,hD,fun ff ho H1 v s1 hv=>?_,fun w hw=>q2 w hw⟩
  have hR1:=s1 _ _ hR
  have hN1:=s1 _ _ hN
  have nrn:nd≠r:=fun z=>by
   rw [z,hR] at hN
   cases hN
  refine ⟨_,rfl,r,cR,dx,_,_,rfl,hR1,N.cl,N.a6,rfl,_,rfl,nd,_,rfl,DPut.k (k:=.inr n) hN1 (by lia),?_⟩
  refine ⟨_,rfl,_,rfl,r,cR,dx,_,rfl,by rw [zm nrn.symm]; exact hR1,N.cl,N.a5,by show 7 < 1000; decide,?_⟩
  have tu:Tups H1 (upd (upd H1 nd (.dK (putK kvs (.inr n) v))) r (RO cR dx d st dn wl (.ref pb) nd .non)):=fun a xs ha=>by
   rw [zm (z9 ha hR1 (by intro z; cases z)),zm (z9 ha hN1 (by intro z; cases z))]
   exact ha
  refine q1 ff ho _ (putK kvs (.inr n) v) (((KX.of s1).put (by simp)).put (by simp)) zf (by rw [zm nrn]; exact zf) ?_ (x3 _ _ _)
  exact ((hE.mono fun v f h=>h.keep (.of s1)).put hv).mono fun v f h=>h.keep tu
 ·obtain ⟨r,dx,d,wl,nd,p,pb,pq,one,pp,pb2,st,dn,b,n,g,kvs,dks,ns,ps,ws,rfl,hR,hN,hp,hpq,hall,l1000,hW,lw,hd,hv,h1,hpp,hnd,ll,q1,q2⟩:=h
  refine ⟨_,rfl,ixT hp (zj (j:=0) rfl) ⟨rfl,_,rfl,zV (by decide +kernel) ?_⟩⟩
  refine ⟨_,rfl,r,dx,_,rfl,hR,rfl,_,rfl,_,rfl,_,rfl,r,cR,dx,_,_,rfl,hR,N.cl,N.a6,rfl,fun x dxw hx0 hdx0 ndx=>?_⟩
  have n3:=(same_new hdx0 (.own x)).new (o:=.ins cW dxw []) (by rw [zm (Ne.symm ndx)]; exact hx0)
  have hx3:=zf (H:=upd H dxw (.own x)) (a:=x) (o:=.ins cW dxw [])
  generalize upd (upd H dxw (.own x)) x (.ins cW dxw [])=H3 at *
  refine ⟨x,dxw,pb,nd,n,rfl,hx3,fun H4 k4 hx4=>⟨rfl,?_⟩⟩
  have s4:Same H H4:=fun z o e=>k4 _ _ (by
   intro c
   rw [uh.mp c,hx0] at e
   cases e) (n3 _ _ e)
  refine ⟨_,rfl,ixT (s4 _ _ hp) (zj (j:=1) rfl) ⟨_,rfl,r,dx,_,rfl,s4 _ _ hR,rfl,_,rfl,ixT (s4 _ _ hp) (zj (j:=2) rfl) ⟨r,dx,d,wl,nd,pq,st,dn,b,.non,kvs,ns,rfl,s4 _ _ hR,s4 _ _ hN,s4 _ _ hpq,hall,l1000,fun H5 vl s5 fvl hvl=>?_⟩⟩⟩
  have s45:=s4.trans s5
  refine ⟨r,dx,d,wl,nd,vl,x,one,pp,pb2,st,dn,b,g,dks,ps,_,ws,rfl,s45 _ _ hR,s45 _ _ hW,lw,s45 _ _ hd,hv,s45 _ _ h1,s45 _ _ hpp,hnd,hvl,fun z=>(by rw [z,s4 _ _ hW] at fvl; cases fvl),by unfold vals; rw [ub]; exact ll,fun c H' tp k' g1 g2=>?_,fun c H' nd' k' f' g1 g2 g3=>?_⟩
  ·exact q1 c H' tp ((KX.of s45).trans k') g1 g2
  ·have nxr:x≠r:=fun z=>by
    rw [z,hR] at hx0
    cases hx0
   have nxw:x≠wl:=fun z=>by
    rw [z,hW] at hx0
    cases hx0
   exact q2 c H' nd' x dxw ((KX.of s45).trans k') (s45.free f') hx0 g1 g2 (k' _ _ (by simp [nxr,nxw]) (s5 _ _ hx4)) g3
 ·obtain ⟨r,dx,d,wl,nd,p,pb,pq,st,dn,b,v,n,x,kvs,dks,ns,ws,rfl,hR,hN,hp,hpq,hx,hall,l9,hW,lw,hd,hc⟩:=h
  refine ⟨_,rfl,ixT hp (zj (j:=0) rfl) ⟨rfl,_,rfl,zI (by decide +kernel) ?_⟩⟩
  refine ⟨_,rfl,ixT hp (zj (j:=0) rfl) ⟨rfl,_,rfl,zV (by decide +kernel) ?_⟩⟩
  refine ⟨_,rfl,r,dx,_,rfl,hR,rfl,_,rfl,_,rfl,_,rfl,r,cR,dx,_,_,rfl,hR,N.cl,N.a6,rfl,fun x' dxw hx0 hdx0 ndx=>?_⟩
  have n3:=(same_new hdx0 (.own x')).new (o:=.ins cW dxw []) (by rw [zm (Ne.symm ndx)]; exact hx0)
  have hx3:=zf (H:=upd H dxw (.own x')) (a:=x') (o:=.ins cW dxw [])
  generalize upd (upd H dxw (.own x')) x' (.ins cW dxw [])=H3 at *
  refine ⟨x',dxw,pb,nd,n,rfl,hx3,fun H4 k4 hx4=>⟨rfl,?_⟩⟩
  have s4:Same H H4:=fun z o e=>k4 _ _ (by
   intro c
   rw [uh.mp c,hx0] at e
   cases e) (n3 _ _ e)
  refine ⟨_,rfl,r,cR,dx,_,_,rfl,s4 _ _ hR,N.cl,N.a6,rfl,_,rfl,ixT (s4 _ _ hp) (zj (j:=1) rfl) ⟨nd,v,rfl,by rw [<- hx]; exact DGet.k (k:=.inr x) (s4 _ _ hN),?_⟩⟩
  refine ⟨_,rfl,r,dx,_,rfl,s4 _ _ hR,rfl,_,rfl,ixT (s4 _ _ hp) (zj (j:=2) rfl) ⟨r,dx,d,wl,nd,pq,st,dn,b,.non,kvs,ns,rfl,s4 _ _ hR,s4 _ _ hN,s4 _ _ hpq,hall,by lia,fun H5 vl s5 fvl hvl=>?_⟩⟩
  have s45:=s4.trans s5
  have lv:(vals kvs ns).length=ns.length:=by unfold vals; rw [ub]
  refine ⟨r,dx,d,wl,nd,vl,x',st,dn,b,v,_,ws,dks,rfl,s45 _ _ hR,s45 _ _ hW,lw,s45 _ _ hd,hvl,by lia,?_⟩
  rcases hc with ⟨i,rfl,si,hE⟩ | ⟨pv,q,t,ys,rfl,hpv,hq,ly,lt,hc⟩
  ·exact .inl ⟨i,rfl,si,hE.at s45⟩
  refine .inr ⟨pv,q,t,ys,rfl,s45 _ _ hpv,s45 _ _ hq,ly,lt,?_⟩
  rcases hc with ⟨hb,hE⟩ | ⟨g,m,one,pp,pb2,ps,rfl,hm,hb,hv,h1,hpp,hnd,hE,q1⟩
  ·exact .inl ⟨hb,hE.at s45⟩
  refine .inr ⟨g,m,one,pp,pb2,ps,rfl,hm,hb,hv,s45 _ _ h1,s45 _ _ hpp,hnd,fun c=>(hE (by lia)).at s45,fun c=>?_⟩
  obtain ⟨q2,q3⟩:=q1 (by lia)
  refine ⟨fun c H' tp k' g1 g2=>q2 c H' tp ((KX.of s45).trans k') g1 g2,fun c H' nd' k' f' g1 g2 g3=>?_⟩
  have nxr:x'≠r:=fun z=>by
   rw [z,hR] at hx0
   cases hx0
  have nxw:x'≠wl:=fun z=>by
   rw [z,hW] at hx0
   cases hx0
  exact q3 c H' nd' x' dxw ((KX.of s45).trans k') (s45.free f') hx0 g1 g2 (k' _ _ (by simp [nxr,nxw]) (s5 _ _ hx4)) g3
end
end GN
namespace GN
open PySem L2 K11
def Ans (H:Hp) (p:Addr):List V ⊕ Str->Prop
 | .inl f=>∃ l,H p=some (.tup [.str "told",.ref l])/\H l=some (.lst (f.take 100))
 | .inr w=>H p=some (.tup [.str "fault",.str w])
structure Wt where
 n:Str
 b:Bd
 e:En
inductive Rs
 | go (b:Bd) (e:En) (ts:List Wt) (k:Nat)
 | told (f:List V)
 | late
 | fault (w:Str)
abbrev Dfl:=List (Str × List Str × Bd)
def dfOf (ds:Dfl) (g:Str):Option (Str × List Str × Bd):=ds.find? fun a=>decide (a.1=g)
abbrev prt (e:En) (x:Str):List V:=(valE e x).getD []
def fnOf (kv:Kvs) (ds:Dfl) (t:Str):Option (Str × List Str × Bd):=ds.find? fun a=>decide (t=ftag a.1 ((szOf kv t).getD 0))
def askD (kv:Kvs) (ds:Dfl):List V->Nat->Option (Str × List Str × Bd)
 | .str t :: _,m=>match fnOf kv ds t with
  | some a=>if (szOf kv t).getD 0 + m=a.2.1.length then some a else none
  | none=>none
 | _,_=>none
structure TagOk (kv:Kvs) (ds:Dfl):Prop where
 t:∀ t m,szOf kv t=some m->t.length<=2000/\((∃ a∈ds,t=ftag a.1 m)\/noBl t)
 b:∀ a∈ds,noBl a.1
 n:∀ a∈ds,dfOf ds a.1=some a
def stp (kv:Kvs) (ds:Dfl) (st:Int):Bd->En->List Wt->Nat->Rs
 | .give x,e,[],_=>.told (prt e x)
 | .give x,e,t :: r,k=>.go t.b (putE t.e t.n (prt e x)) r k
 | .iff x b c,e,ts,k=>match nf (prt e x) with
  | some i=>if i≠0 then .go b e ts k else .go c e ts k
  | none=>.fault "nonumber"
 | .cs x as,e,ts,k=>match fnd as (tgf (prt e x)) with
  | none=>.fault "noshape"
  | some a=>.go a.2.2 (putA e a.2.1 (pcs kv 1 (prt e x).tail [])) ts k
 | .lt n (.dd d) b,e,ts,k=>match outE e d with
  | .inl f=>.go b (putE e n f) ts k
  | .inr w=>.fault w
 | .lt n (.call g ns) b,e,ts,k=>if (k:Int)=st then .late else match dfOf ds g with
  | some a=>.go a.2.2 (a.2.1.zip (ns.map (prt e))) (⟨n,b,e⟩ :: ts) (k + 1)
  | none=>.fault ""
 | .lt n (.fn g ns) b,e,ts,k=>match outX e (.fn g ns) with
  | .inl f=>.go b (putE e n f) ts k
  | .inr w=>.fault w
 | .lt n (.ask x ns) b,e,ts,k=>match askD kv ds (prt e x) ns.length with
  | none=>.fault "nofunc"
  | some a=>if (k:Int)=st then .late else .go a.2.2 (a.2.1.zip (pcs kv 1 (prt e x).tail [] ++ ns.map (prt e))) (⟨n,b,e⟩ :: ts) (k + 1)
mutual
def OkX (kv:Kvs) (ds:Dfl):List Str->Bd->Prop
 | ks,.give x=>x∈ks
 | ks,.iff x b c=>x∈ks/\OkX kv ds ks b/\OkX kv ds ks c
 | ks,.cs x as=>x∈ks/\OkXs kv ds ks as
 | ks,.lt n d b=>(match d with
  | .dd d=>OkD ks d/\OkZ kv d
  | .call g ns=>(∀ m∈ns,m∈ks)/\ns.length<=9/\∃ a,dfOf ds g=some a/\a.2.1.length=ns.length
  | .fn g ns=>OkO kv ks (.fn g ns)
  | .ask x ns=>x∈ks/\(∀ m∈ns,m∈ks)/\ns.length<=9)/\OkX kv ds (ks ++ [n]) b
def OkXs (kv:Kvs) (ds:Dfl):List Str->Arms->Prop
 | _,.nil=>True
 | ks,.cons t ns b r=>t≠""/\szOf kv t=some ns.length/\OkX kv ds (ks ++ ns) b/\OkXs kv ds ks r
end
theorem OkXs.at {kv:Kvs} {ds:Dfl} {ks:List Str}:∀ {as:Arms},OkXs kv ds ks as->∀ a∈as.hs,a.1≠""/\szOf kv a.1=some a.2.1.length/\OkX kv ds (ks ++ a.2.1) a.2.2
 | .nil,_,a,h=>by cases h
 | .cons t ns b r,g,a,h=>by
  rcases uq.mp h with rfl | h
  ·exact ⟨g.1,g.2.1,g.2.2.1⟩
  ·exact OkXs.at g.2.2.2 a h
theorem OkXs.okA {kv:Kvs} {ds:Dfl} {ks:List Str} {as:Arms} (h:OkXs kv ds ks as):OkA kv as:=fun a ha=>⟨(h.at a ha).1,(h.at a ha).2.1⟩
structure Dfs (kv:Kvs) (H:Hp) (d:Addr) (ds:Dfl):Prop where
 ex:∃ dks,H d=some (.dK dks)/\∀ g a,dfOf ds g=some a->∃ one pp pb,valV dks (.inr g)=some (.ref one)/\H one=some (.tup [.str g,.ref pp,.ref pb])/\H pp=some (.tup (a.2.1.map V.str))/\IsBd H a.2.2 pb
 ok:∀ a∈ds,a.2.1.Nodup/\a.2.1.length<=9/\OkX kv ds a.2.1 a.2.2/\a.2.2.sz<=700
 tg:TagOk kv ds
def Stk (kv:Kvs) (ds:Dfl) (cW:Addr) (H:Hp):List Addr->List Addr->List Wt->Prop
 | [],[],[]=>True
 | x :: ws,nd :: nds,t :: ts=>(∃ dxw pb ks,H x=some (WO cW dxw t.n pb nd)/\IsBd H t.b pb/\H nd=some (.dK ks)/\Ez kv H ks t.e/\ks.length + t.b.sz + 1<=900/\∃ nm,Bnd nm t.e/\OkX kv ds (nm ++ [t.n]) t.b)/\Stk kv ds cW H ws nds ts
 | _,_,_=>False
theorem Stk.keep {kv:Kvs} {ds:Dfl} {cW:Addr} {H H':Hp} (tu:Tups H H'):∀ {ws nds:List Addr} {ts:List Wt},Stk kv ds cW H ws nds ts->(∀ x dxw n pb nd,H x=some (WO cW dxw n pb nd)->H' x=some (WO cW dxw n pb nd))->(∀ nd∈nds,∀ ks,H nd=some (.dK ks)->H' nd=some (.dK ks))->Stk kv ds cW H' ws nds ts
 | [],[],[],_,_,_=>trivial
 | x :: ws,nd :: nds,t :: ts,⟨⟨dxw,pb,ks,a1,a2,a3,a4,a5,a6⟩,r⟩,h1,h2=>⟨⟨dxw,pb,ks,h1 _ _ _ _ _ a1,a2.keep tu,h2 nd (uo ..) ks a3,a4.mono fun v f h=>h.keep tu,a5,a6⟩,Stk.keep tu r h1 fun z hz=>h2 z (ut _ hz)⟩
theorem Stk.len {kv:Kvs} {ds:Dfl} {cW:Addr} {H:Hp}:∀ {ws nds:List Addr} {ts:List Wt},Stk kv ds cW H ws nds ts->ws.length=ts.length/\nds.length=ts.length
 | [],[],[],_=>⟨rfl,rfl⟩
 | x :: ws,nd :: nds,t :: ts,⟨_,r⟩=>by
  obtain ⟨a,b⟩:=Stk.len r
  exact ⟨by rw [uD,uD,a],by rw [uD,uD,b]⟩
theorem Stk.dict {kv:Kvs} {ds:Dfl} {cW:Addr} {H:Hp}:∀ {ws nds:List Addr} {ts:List Wt},Stk kv ds cW H ws nds ts->∀ nd∈nds,∃ ks,H nd=some (.dK ks)
 | [],[],[],_,nd,h=>by cases h
 | x :: ws,nd :: nds,t :: ts,⟨⟨dxw,pb,ks,a1,a2,a3,_⟩,r⟩,z,h=>by
  rcases uq.mp h with rfl | h
  ·exact ⟨ks,a3⟩
  ·exact Stk.dict r z h
structure MS (cR cW T:Addr) (kv:Kvs) (ds:Dfl) (st:Int) (H0 H:Hp) (r dx d:Addr) (b:Bd) (e:En) (ts:List Wt) (k:Nat):Prop where
 ex:∃ (wl nd pb:Addr) (ks:List (Key × V)) (ws nds:List Addr),H r=some (RO cR dx d st (k:Nat) wl (.ref pb) nd .non)/\IsBd H b pb/\H nd=some (.dK ks)/\Ez kv H ks e/\ks.length + b.sz<=900/\H wl=some (.lst (ws.reverse.map V.ref))/\Stk kv ds cW H ws nds ts/\(nd :: nds).Nodup/\d ∉ nd :: nds/\H0 wl=none/\∀ x∈nd :: nds,H0 x=none
 nm:∃ names,Bnd names e/\OkX kv ds names b
 fr:H0 r=none
 kt:KT T H0 H
 tb:Tb T H
 df:Dfs kv H d ds
 lk:ts.length<=k/\(k:Int)<=st/\st<=10000
theorem Dfs.keep {kv:Kvs} {H H':Hp} {d:Addr} {ds:Dfl} (h:Dfs kv H d ds) (tu:Tups H H') (hd:∀ ks,H d=some (.dK ks)->H' d=some (.dK ks)):Dfs kv H' d ds:=by
 obtain ⟨dks,a,b⟩:=h.ex
 refine ⟨⟨dks,hd _ a,fun g x hx=>?_⟩,h.ok,h.tg⟩
 obtain ⟨one,pp,pb,c1,c2,c3,c4⟩:=b g x hx
 exact ⟨one,pp,pb,c1,tu _ _ c2,tu _ _ c3,c4.keep tu⟩
def Qf (cR cW C T:Addr):Sp:=fun vs H Q E=>∃ (kv:Kvs) (ds:Dfl) (st:Int) (H0:Hp) (r dx d:Addr) (b:Bd) (e:En) (ts:List Wt) (k:Nat),vs=[.ref r]/\MS cR cW T kv ds st H0 H r dx d b e ts k /\
 (∀ b' e' ts' k',stp kv ds st b e ts k=.go b' e' ts' k'->∀ H',MS cR cW T kv ds st H0 H' r dx d b' e' ts' k'->Q .non H') /\
 (∀ f,stp kv ds st b e ts k=.told f->∀ H' tp dn wl bb nd,KT T H0 H'->Tb T H'->H' r=some (RO cR dx d st dn wl bb nd (.ref tp))->Ans H' tp (.inl f)->Q .non H') /\
 (stp kv ds st b e ts k=.late->∀ H' tp dn wl bb nd,KT T H0 H'->Tb T H'->H' r=some (RO cR dx d st dn wl bb nd (.ref tp))->H' tp=some (.tup [.str "late",.int st])->Q .non H') /\
 (∀ w,stp kv ds st b e ts k=.fault w->ErrW C E H w)
end GN
namespace GN
open PySem L2 K11
theorem Bnd.putA:∀ {ns ks:List Str} {e:En} {fs:List (List V)},Bnd ks e->ns.length<=fs.length->Bnd (ks ++ ns) (putA e ns fs)
 | [],ks,e,fs,h,_=>by rw [uO]; exact h
 | n :: ns,ks,e,[],_,l=>by simp at l
 | n :: ns,ks,e,f :: fs,h,l=>by
  have:=Bnd.putA (ns:=ns) (ks:=ks ++ [n]) (e:=putE e n f) (fs:=fs) h.put (by simpa using l)
  rw [uG] at this
  exact this
theorem jt {H:Hp} {kvs:Kvs}:∀ {ps:List Str} {us:List V} {xss:List (List V)},ps.length=xss.length->us.length=xss.length->(∀ (j:Nat) u xs,us[j]?=some u->xss[j]?=some xs->Pz kvs H [u] xs)->Ez kvs H (zkv ps us) (ps.zip xss)
 | [],[],[],_,_,_=>.nil
 | [],_ :: _,[],_,h,_=>by simp at h
 | _ :: _,_,[],h,_,_=>by simp at h
 | [],_,_ :: _,h,_,_=>by simp at h
 | _ :: _,[],_ :: _,_,h,_=>by simp at h
 | p :: ps,u :: us,xs :: xss,h1,h2,h3=>.cons (h3 0 u xs rfl rfl) (jt (by simpa using h1) (by simpa using h2) fun j u xs a b=>h3 (j + 1) u xs a b)
theorem ju:∀ {ps:List Str} {xss:List (List V)},ps.length=xss.length->Bnd ps (ps.zip xss)
 | ps,xss,h,n,hn=>by
  rw [<- yO,List.any_eq_true]
  obtain ⟨i,hi⟩:=Ud hn
  have hl:=(ud.mp hi).1
  refine ⟨(n,xss[i]'(by lia)),uu (i:=i) ?_,by simp⟩
  rw [List.getElem?_zip_eq_some]
  exact ⟨hi,ug _⟩
theorem zba {cW cR x dxw pb nd r dx d wl nd':Addr} {n:Str} {st dn:Int} {b v:V} {H:Hp} (h:H x=some (WO cW dxw n pb nd)) (g:H r=some (RO cR dx d st dn wl b nd' v)):x≠r:=fun z=>by
 rw [z,g] at h
 have:(7:Nat)=3:=congrArg (fun o:Option HO=>match o with | some (.ins _ _ fs)=>fs.length | _=>0) h
 exact absurd this (by decide)
structure Frm (cW T:Addr) (H0 H H':Hp) (D:List Addr):Prop where
 tu:Tups H H'
 wo:∀ x dxw n pb nd,H x=some (WO cW dxw n pb nd)->H' x=some (WO cW dxw n pb nd)
 dk:∀ z,z ∉ D->∀ ks,H z=some (.dK ks)->H' z=some (.dK ks)
 kt:KT T H0 H'
 tb:Tb T H'
theorem frm {cR cW T r dx d wl nd:Addr} {st dn:Int} {b v:V} {ws:List V} {D:List Addr} {H0 H H':Hp} (hR:H r=some (RO cR dx d st dn wl b nd v)) (hW:H wl=some (.lst ws)) (hD:∀ z∈D,∃ ks,H z=some (.dK ks)) (k':KX ([r,wl] ++ D) H H') (kt:KT T H0 H) (tb:Tb T H) (f1:H0 r=none) (f2:H0 wl=none) (f3:∀ z∈D,H0 z=none):Frm cW T H0 H H' D:=by
 have kp:∀ {z:Addr} {o:HO},H z=some o->z≠r->z≠wl->z ∉ D->H' z=some o:=fun {z o} e n1 n2 n3=>k' _ _ (by simp [n1,n2,n3]) e
 have nr:∀ {z:Addr} {o:HO},H z=some o->(∀ C dx fs,o≠.ins C dx fs)->z≠r:=fun {z o} e n c=>by
  rw [c,hR] at e
  cases e
  exact n _ _ _ rfl
 have nD:∀ {z:Addr} {o:HO},H z=some o->(∀ ks,o≠.dK ks)->z ∉ D:=fun {z o} e n c=>by
  obtain ⟨ks,h⟩:=hD z c
  rw [e] at h
  cases h
  exact n _ rfl
 refine ⟨fun p xs e=>kp e (nr e (by intro _ _ _ z; cases z)) (z9 e hW (by intro z; cases z)) (nD e (by intro _ z; cases z)),fun x dxw n pb nd e=>kp e (zba e hR) (z9 e hW (by intro z; cases z)) (nD e (by unfold WO; intro _ z; cases z)),fun z hz ks e=>kp e (nr e (by intro _ _ _ z; cases z)) (z9 e hW (by intro z; cases z)) hz,fun z o n e=>?_,?_⟩
 ·have e':=kt z o n e
  exact kp e' (fun c=>by rw [c,f1] at e; cases e) (fun c=>by rw [c,f2] at e; cases e) (fun c=>by rw [f3 z c] at e; cases e)
 ·obtain ⟨ps,e1,e2⟩:=tb
  refine ⟨ps,kp e1 (nr e1 (by intro _ _ _ z; cases z)) (z9 e1 hW (by intro z; cases z)) (nD e1 (by intro _ z; cases z)),?_⟩
  rcases e2 with e2 | ⟨c,e2,e3⟩
  ·exact .inl e2
  ·exact .inr ⟨c,e2,kp e3 (nr e3 (by unfold CodO; intro _ _ _ z; cases z)) (z9 e3 hW (by unfold CodO; intro z; cases z)) (nD e3 (by unfold CodO; intro _ z; cases z))⟩
section
variable {P:Program} {w:World} {K:ua} {mg:Str->Option Value} {base:Heap} {f R C cR cW T:Addr} {fd:FuncData}
theorem scGoG:FnScope ["self","body"] ["self"] (zp sGo):=⟨rfl,rfl,rfl,by decide +kernel,rfl,by decide +kernel,by decide +kernel⟩
theorem zaz (F:Fun K "go_on" "Run.go_on" sGo f fd) (N:Rn K cR) (GL:Me P w K mg base (CXf P w) 5 cR "let" ["self","wants","deed","body"] (VF cR cW C)) (GC:Me P w K mg base (CXf P w) 3 cR "choose" ["self","body","value"] (Zi cR C)) (GA:Me P w K mg base (CXf P w) 4 cR "take_arm" ["self","arms","value"] (Vt cR C)) (GG:Me P w K mg base CX0 4 cR "give" ["self","value"] (YT cR cW T)):FnOk P w K mg base (CXf P w) 6 f fd ["self"] (Qf cR cW C T):=by
 refine F.byx scGoG (fun vs H Q E h=>?_) (fun cdv A outer s H vs Q E hr h=>?_)
 ·obtain ⟨kv,ds,st,H0,r,dx,d,b,e,ts,k,rfl,_⟩:=h
  rfl
 obtain ⟨kv,ds,st,H0,r,dx,d,b,e,ts,k,rfl,M,q1,q2,q3,q4⟩:=h
 have r4:Room 4 _:=hr.mono (by decide)
 have r3:Room 3 _:=hr.mono (by decide)
 refine ⟨_,
  (zi (zv (i:=1) scGoG.nd rfl (Or.inl rfl) (zS (jv 0)))
  (zk (zH (zt zL (zq zr (jv 1) zh (fun _ _=>rfl)) zu (zw _))
   (zk (zU (yQ (jv 0) N.cl GL hr yb (ja_c (zq zr (jv 1) zh (fun _ _=>rfl)) (ja_c (zq zr (jv 1) zh (fun _ _=>rfl)) (ja_c (zq zr (jv 1) zh (fun _ _=>rfl)) zg))))))
   (zk (zH (zt zL (zq zr (jv 1) zh (fun _ _=>rfl)) zu (zw _))
    (zk (zU (yQ (jv 0) N.cl GC r3 yb (ja_c (jv 1) (ja_c (zX hr (zS (jv 0)) (zq zr (jv 1) zh (fun _ _=>rfl))) zg)))))
    (zk (zH (zt zL (zq zr (jv 1) zh (fun _ _=>rfl)) zu (zw _))
     (zk (zU (yQ (jv 0) N.cl GA r4 yb (ja_c (zq zr (jv 1) zh (fun _ _=>rfl)) (ja_c (zX hr (zS (jv 0)) (zq zr (jv 1) zh (fun _ _=>rfl))) zg)))))
     (zk (zU (yQ (jv 0) N.cl GG.upx r4 yb (ja_c (zX hr (zS (jv 0)) (zq zr (jv 1) zh (fun _ _=>rfl))) zg))))))))))),?_⟩
 have sl:=zQ
 obtain ⟨⟨wl,nd,pb,ks,ws,nds,hR,hb,hN,hE,hsz,hW,hS,hnd,hdn,f2,f3⟩,⟨nm,hB,hO⟩,f1,kt,tb,df,lk1,lk2,lk3⟩:=M
 obtain ⟨lws,lnds⟩:=hS.len
 have f3':=f3 nd (uo ..)
 have fD:∀ z∈[nd],H0 z=none:=fun z hz=>by rw [uh.mp hz]; exact f3'
 have hDn:∀ z∈[nd],∃ ks,H z=some (.dK ks):=fun z hz=>⟨ks,by rw [uh.mp hz]; exact hN⟩
 have nn:∀ z∈nds,z ∉ [nd]:=fun z hz c=>(Uq.mp hnd).1 (by rw [<- uh.mp c]; exact hz)
 have dn1:d ∉ [nd]:=fun c=>hdn (by rw [uh.mp c]; exact uo ..)
 have nrn:nd≠r:=fun z=>by
  rw [z,hR] at hN
  cases hN
 have Fn:∀ {H':Hp},KX [r,nd] H H'->Frm cW T H0 H H' [nd]:=fun {H'} k'=>frm hR hW hDn (k'.mono (by simp)) kt tb f1 f2 fD
 have hWk:∀ {H':Hp},KX [r,nd] H H'->H' wl=some (.lst (ws.reverse.map V.ref)):=fun {H'} k'=>k' _ _ (by
  intro c
  rcases uq.mp c with c | c
  ·rw [c,hR] at hW; cases hW
  ·rw [uh.mp c,hN] at hW; cases hW) hW
 have mk:∀ (H':Hp) (b':Bd) (e':En) (ks':List (Key × V)) (pb':Addr) (nm':List Str),KX [r,nd] H H'->H' r=some (RO cR dx d st (k:Nat) wl (.ref pb') nd .non)->IsBd H' b' pb'->H' nd=some (.dK ks')->Ez kv H' ks' e'->ks'.length + b'.sz<=900->Bnd nm' e'->OkX kv ds nm' b'->MS cR cW T kv ds st H0 H' r dx d b' e' ts k:=fun H' b' e' ks' pb' nm' k' g1 g2 g3 g4 g5 g6 g7 =>
  ⟨⟨wl,nd,pb',ks',ws,nds,g1,g2,g3,g4,g5,hWk k',hS.keep (Fn k').tu (Fn k').wo (fun z hz=>(Fn k').dk z (nn z hz)),hnd,hdn,f2,f3⟩,⟨nm',g6,g7⟩,f1,(Fn k').kt,(Fn k').tb,df.keep (Fn k').tu ((Fn k').dk d dn1),lk1,lk2,lk3⟩
 refine ⟨_,rfl,r,cR,dx,_,_,rfl,hR,N.cl,N.a5,rfl,?_⟩
 match b,hO,hb,hsz,q1,q2,q3,q4 with
 | .give x,hO,hb,hsz,q1,q2,q3,q4 =>
  have hb:H pb=some (.tup [.str "give",.str x]):=hb
  obtain ⟨ff,ef⟩:=hB.get hO
  obtain ⟨v,hv1,hv2⟩:=hE.val ef
  have ep:prt e x=ff:=by unfold prt; rw [ef]; rfl
  refine ⟨_,rfl,ixT hb rfl ⟨rfl,_,rfl,zI (by decide +kernel) ?_⟩⟩
  refine ⟨_,rfl,ixT hb rfl ⟨rfl,_,rfl,zI (by decide +kernel) ?_⟩⟩
  refine ⟨_,rfl,ixT hb rfl ⟨rfl,_,rfl,zI (by decide +kernel) ?_⟩⟩
  refine ⟨_,rfl,r,dx,_,rfl,hR,rfl,_,rfl,r,cR,dx,_,_,rfl,hR,N.cl,N.a6,rfl,_,rfl,ixT hb (zj (j:=1) rfl) ⟨nd,v,rfl,by rw [<- hv1]; exact DGet.k (k:=.inr x) hN,r,dx,d,wl,nd,st,(k:Nat),.ref pb,v,ff,_,rfl,hR,hW,by rw [ub,uZ,lws]; lia,tb,Zh hv2,fun ew H' tp l k' T' h1 h2 h3 h4=>?_,fun ew=>?_⟩⟩
  ·have ew:ws=[]:=by simpa using ew
   subst ew
   have et:ts=[]:=List.length_eq_zero_iff.mp lws.symm
   subst et
   refine q2 ff (by rw [stp,ep]) H' tp _ _ _ _ (fun z o n e=>k' _ _ (by
    intro c
    rcases uq.mp c with c | c
    ·rw [c,f1] at e; cases e
    ·exact n (uh.mp c)) (kt z o n e)) T' h1 ⟨l,h2,h3⟩
  ·match ws,nds,ts,hS,lws,lnds,ew with
   | x' :: ws0,nd2 :: nds0,t :: ts0,⟨⟨dxw,pb2,ks2,a1,a2,a3,a4,a5,nm2,a6,a7⟩,rr⟩,lws,lnds,_ =>
    refine ⟨ws0.reverse.map V.ref,x',dxw,pb2,nd2,t.n,ks2,by rw [List.reverse_cons,uF]; rfl,a1,a3,by lia,fun H' k' g1 g2 g3=>?_⟩
    have nd2':=Uq.mp (Uq.mp hnd).2
    have Fr:Frm cW T H0 H H' [nd2]:=frm hR hW (fun z hz=>⟨ks2,by rw [uh.mp hz]; exact a3⟩) (k'.mono (by simp)) kt tb f1 f2 (fun z hz=>f3 z (by rw [uh.mp hz]; simp))
    have lp:=x3 ks2 (.inr t.n) v
    refine q1 _ _ _ _ (by rw [stp,ep]) H' ⟨⟨wl,nd2,pb2,_,ws0,nds0,g1,a2.keep Fr.tu,g3,((a4.put hv2).mono fun v f h=>h.keep Fr.tu),by lia,g2,rr.keep Fr.tu Fr.wo (fun z hz=>Fr.dk z (fun c=>nd2'.1 (by rw [<- uh.mp c]; exact hz))),(Uq.mp hnd).2,fun c=>hdn (ut _ c),f2,fun z hz=>f3 z (ut _ hz)⟩,⟨nm2 ++ [t.n],a6.put,a7⟩,f1,Fr.kt,Fr.tb,df.keep Fr.tu (Fr.dk d (fun c=>hdn (by rw [uh.mp c]; simp))),by rw [uD] at lk1; lia,lk2,lk3⟩
 | .iff x b c,hO,hb,hsz,q1,q2,q3,q4 =>
  obtain ⟨p1,p2,hb,d1,d2⟩:∃ q r,H pb=some (.tup [.str "if",.str x,.ref q,.ref r])/\IsBd H b q/\IsBd H c r:=hb
  obtain ⟨ff,ef⟩:=hB.get hO.1
  obtain ⟨v,hv1,hv2⟩:=hE.val ef
  have ep:prt e x=ff:=by unfold prt; rw [ef]; rfl
  have bsz:(Bd.iff x b c).sz=b.sz + c.sz + 1:=by rw [Bd.sz]
  refine ⟨_,rfl,ixT hb rfl ⟨rfl,_,rfl,zI (by decide +kernel) ?_⟩⟩
  refine ⟨_,rfl,ixT hb rfl ⟨rfl,_,rfl,zV (by decide +kernel) ?_⟩⟩
  refine ⟨_,rfl,r,dx,_,rfl,hR,rfl,_,rfl,_,rfl,r,cR,dx,_,_,rfl,hR,N.cl,N.a6,rfl,_,rfl,ixT hb (zj (j:=1) rfl) ⟨nd,v,rfl,by rw [<- hv1]; exact DGet.k (k:=.inr x) hN,r,dx,d,wl,nd,pb,p1,p2,st,(k:Nat),.ref pb,v,"if",x,ff,rfl,hR,hb,Zh hv2,fun i hi H' k' h1=>?_,fun hno=>q4 _ (by rw [stp,ep,hno])⟩⟩
  have k2:KX [r,nd] H H':=k'.mono (by simp)
  have tk:=(Fn k2).tu
  have hN':=k' _ _ (by simp [nrn]) hN
  by_cases c0:i≠0
  ·rw [if_pos c0] at h1
   exact q1 _ _ _ _ (by rw [stp,ep,hi]; exact if_pos c0) H' (mk H' b e ks p1 nm k2 h1 (d1.keep tk) hN' (hE.mono fun v f h=>h.keep tk) (by lia) hB hO.2.1)
  ·rw [if_neg c0] at h1
   exact q1 _ _ _ _ (by rw [stp,ep,hi]; exact if_neg c0) H' (mk H' c e ks p2 nm k2 h1 (d2.keep tk) hN' (hE.mono fun v f h=>h.keep tk) (by lia) hB hO.2.2)
 | .cs x as,hO,hb,hsz,q1,q2,q3,q4 =>
  obtain ⟨qa,tt,hb,d1,d2⟩:∃ (q:Addr) (ts:List Addr),H pb=some (.tup [.str "case",.str x,.ref q])/\H q=some (.tup (ts.map V.ref))/\IsArms H as ts:=hb
  obtain ⟨ff,ef⟩:=hB.get hO.1
  obtain ⟨v,hv1,hv2⟩:=hE.val ef
  have ep:prt e x=ff:=by unfold prt; rw [ef]; rfl
  have bsz:(Bd.cs x as).sz=as.sz + 1:=by rw [Bd.sz]
  refine ⟨_,rfl,ixT hb rfl ⟨rfl,_,rfl,zI (by decide +kernel) ?_⟩⟩
  refine ⟨_,rfl,ixT hb rfl ⟨rfl,_,rfl,zI (by decide +kernel) ?_⟩⟩
  refine ⟨_,rfl,ixT hb rfl ⟨rfl,_,rfl,zV (by decide +kernel) ?_⟩⟩
  refine ⟨_,rfl,r,dx,_,rfl,hR,rfl,_,rfl,ixT hb (zj (j:=2) rfl) ⟨_,rfl,r,cR,dx,_,_,rfl,hR,N.cl,N.a6,rfl,_,rfl,ixT hb (zj (j:=1) rfl) ⟨nd,v,rfl,by rw [<- hv1]; exact DGet.k (k:=.inr x) hN,r,dx,d,wl,nd,qa,st,(k:Nat),.ref pb,v,ff,tt,as,kv,ks,e,rfl,hR,hN,by lia,hE,d1,d2,hO.2.okA,hv2,fun a hf H' ks' s' k' h1 h2 h3 h4 h5=>?_,fun hno=>q4 _ (by rw [stp,ep,hno])⟩⟩⟩
  have am:a∈as.hs:=uH hf
  have hh:=Arms.hs_sz am
  obtain ⟨o1,o2,o3⟩:=hO.2.at a am
  refine q1 _ _ _ _ (by rw [stp,ep,hf]) H' (mk H' a.2.2 _ ks' s' (nm ++ a.2.1) k' h1 h2 h3 h4 (by lia) (hB.putA ?_) o3)
  have at_:a.1=tgf ff:=by simpa using UG hf
  cases hv2 with
  | @num i _ xs hi hn=>exact absurd at_ (fun z=>o1 z)
  | @shp p q' t us _ xs ys g1 g2 hs h9 g3 g4 =>
   cases g4
   obtain ⟨fs,efs,lf,_⟩:=wA g3
   rw [uO]
   show _<=(pcs kv 1 xs []).length
   rw [efs,lf]
   have at_:a.1=t:=at_
   rw [at_,hs] at o2
   have:=Ul.inj o2
   lia
 | .lt n dd b,hO,hb,hsz,q1,q2,q3,q4 =>
  obtain ⟨pd,pr,hb,hdd,hbr⟩:∃ q r,H pb=some (.tup [.str "let",.str n,.ref q,.ref r])/\IsDx H dd q/\IsBd H b r:=hb
  have bsz:(Bd.lt n dd b).sz=b.sz + 1:=by rw [Bd.sz]
  refine ⟨_,rfl,ixT hb rfl ⟨rfl,_,rfl,zV (by decide +kernel) ?_⟩⟩
  refine ⟨_,rfl,r,dx,_,rfl,hR,rfl,_,rfl,ixT hb (zj (j:=1) rfl) ⟨_,rfl,ixT hb (zj (j:=2) rfl) ⟨_,rfl,ixT hb (zj (j:=3) rfl) ?_⟩⟩⟩
  have vpz:∀ ns:List Str,(∀ m∈ns,m∈nm)->∀ (j:Nat) (u:V) (xs:List V),(vals ks ns)[j]?=some u->(ns.map (prt e))[j]?=some xs->Pz kv H [u] xs:=fun ns o1 j u xs h1 h2=>by
   unfold vals at h1
   rw [uj] at h1 h2
   obtain ⟨m,hm,rfl⟩:=uk.mp h1
   rw [hm] at h2
   have h2:some (prt e m)=some xs:=h2
   cases h2
   obtain ⟨fa,ea⟩:=hB.get (o1 m (uu hm))
   obtain ⟨va,e1,e2⟩:=hE.val ea
   have:prt e m=fa:=by unfold prt; rw [ea]; rfl
   rw [e1,this]
   exact e2
  have cld:∀ (n:Str) (b:Bd) (pr:Addr) (nm:List Str),IsBd H b pr->Bnd nm e->OkX kv ds (nm ++ [n]) b->∀ a∈ds,∀ pb2,IsBd H a.2.2 pb2->∀ (us:List V) (fs:List (List V)),a.2.1.length=fs.length->us.length=fs.length->(∀ (j:Nat) (u:V) (xs:List V),us[j]?=some u->fs[j]?=some xs->Pz kv H [u] xs)->((k:Nat):Int)≠st->∀ (H':Hp) (nd' x dxw:Addr),KX [r,wl] H H'->H nd'=none->H x=none->H' r=some (RO cR dx d st (((k:Nat):Int) + 1) wl (.ref pb2) nd' .non)->H' wl=some (.lst (ws.reverse.map V.ref ++ [.ref x]))->H' x=some (WO cW dxw n pr nd)->H' nd'=some (.dK (zkv a.2.1 us))->ks.length + (b.sz + 1)<=900->MS cR cW T kv ds st H0 H' r dx d a.2.2 (a.2.1.zip fs) (⟨n,b,e⟩ :: ts) (k + 1):=fun n b pr nm hbr hB o5 a am pb2 c4 us fs lm lv hus c H' nd' x dxw k' f' fx g1 g2 g3 g4 hs9=>by
   obtain ⟨y1,y2,y3,y4⟩:=df.ok a am
   obtain ⟨dks,hd,hdf⟩:=df.ex
   have Fr:Frm cW T H0 H H' []:=frm hR hW (fun z hz=>by cases hz) (k'.mono (by simp)) kt tb f1 f2 (fun z hz=>by cases hz)
   have nin:∀ z∈nd :: nds,nd'≠z:=fun z hz c=>by
    rcases uq.mp hz with e | e
    ·rw [c,e,hN] at f'; cases f'
    ·obtain ⟨ks',h⟩:=hS.dict z e
     rw [c,h] at f'; cases f'
   have f0:H0 nd'=none:=by
    cases e0:H0 nd' with
    | none=>rfl
    | some o =>
     by_cases zT:nd'=T
     ·obtain ⟨tb',ht⟩:=tb.tbl
      rw [zT,ht] at f'; cases f'
     ·rw [kt nd' o zT e0] at f'; cases f'
   have lz:(zkv a.2.1 us).length<=9:=by
    unfold zkv
    rw [ub,List.length_zip]
    lia
   refine ⟨⟨wl,nd',pb2,_,x :: ws,nd :: nds,by rw [show ((k + 1:Nat):Int)=((k:Nat):Int) + 1 by lia]; exact g1,c4.keep Fr.tu,g4,jt lm lv fun j u xs h1 h2=>(hus j u xs h1 h2).keep Fr.tu,by lia,by rw [g2,List.reverse_cons,uF]; rfl,⟨⟨dxw,pr,ks,g3,hbr.keep Fr.tu,Fr.dk nd (by simp) ks hN,hE.mono fun v f h=>h.keep Fr.tu,by show ks.length + b.sz + 1<=900; lia,nm,hB,o5⟩,hS.keep Fr.tu Fr.wo fun z hz=>Fr.dk z (by simp)⟩,Uq.mpr ⟨fun c=>nin _ c rfl,hnd⟩,fun c=>?_,f2,fun z hz=>?_⟩,⟨a.2.1,ju lm,y3⟩,f1,Fr.kt,Fr.tb,df.keep Fr.tu (Fr.dk d (by simp)),by rw [uD]; lia,by lia,lk3⟩
   ·rcases uq.mp c with c | c
    ·rw [<- c,hd] at f'; cases f'
    ·exact hdn c
   ·rcases uq.mp hz with e | e
    ·rw [e]; exact f0
    ·exact f3 z e
  match dd,hO,hdd,q1,q2,q3,q4 with
  | .dd d',hO,hdd,q1,q2,q3,q4 =>
   refine .inl ⟨r,dx,d,wl,nd,pd,pr,st,(k:Nat),.ref pb,n,ks,e,nm,.dd d',kv,rfl,hR,hN,by lia,hE,hB,hO.1,hdd,fun ff hf H' ks' k' g1 g2 g3 g4=>?_,fun ww hw=>q4 ww (by rw [stp,show outE e d'=.inr ww from hw])⟩
   exact q1 _ _ _ _ (by rw [stp,show outE e d'=.inl ff from hf]) H' (mk H' b _ ks' pr (nm ++ [n]) k' g1 (hbr.keep (Fn k').tu) g2 g3 (by lia) hB.put hO.2)
  | .fn g ns,hO,hdd,q1,q2,q3,q4 =>
   refine .inl ⟨r,dx,d,wl,nd,pd,pr,st,(k:Nat),.ref pb,n,ks,e,nm,.fn g ns,kv,rfl,hR,hN,by lia,hE,hB,hO.1,hdd,fun ff hf H' ks' k' g1 g2 g3 g4=>?_,fun ww hw=>q4 ww (by rw [stp,hw])⟩
   exact q1 _ _ _ _ (by rw [stp,hf]) H' (mk H' b _ ks' pr (nm ++ [n]) k' g1 (hbr.keep (Fn k').tu) g2 g3 (by lia) hB.put hO.2)
  | .call g ns,hO,hdd,q1,q2,q3,q4 =>
   obtain ⟨pq,hpd,hpq⟩:∃ q,H pd=some (.tup [.str "call",.str g,.ref q])/\H q=some (.tup (ns.map V.str)):=hdd
   obtain ⟨⟨o1,o2,a,o3,o4⟩,o5⟩:=hO
   obtain ⟨dks,hd,hdf⟩:=df.ex
   obtain ⟨one,pp,pb2,c1,c2,c3,c4⟩:=hdf g a o3
   have am:a∈ds:=uH o3
   obtain ⟨y1,y2,y3,y4⟩:=df.ok a am
   have hall:∀ n∈ns,∃ v,valV ks (.inr n)=some v:=fun m hm=>by
    obtain ⟨fa,ea⟩:=hB.get (o1 m hm)
    obtain ⟨va,e1,_⟩:=hE.val ea
    exact ⟨va,e1⟩
   refine .inr (.inl ⟨r,dx,d,wl,nd,pd,pr,pq,one,pp,pb2,st,(k:Nat),.ref pb,n,g,ks,dks,ns,a.2.1,_,rfl,hR,hN,hpd,hpq,hall,by lia,hW,by rw [ub,uZ,lws]; lia,hd,c1,c2,c3,y1,o4,fun c H' tp k' g1 g2=>?_,fun c H' nd' x dxw k' f' fx g1 g2 g3 g4=>?_⟩)
   ·have Fr:Frm cW T H0 H H' []:=frm hR hW (fun z hz=>by cases hz) (k'.mono (by simp)) kt tb f1 f2 (fun z hz=>by cases hz)
    exact q3 (by rw [stp,if_pos c]) H' tp _ _ _ _ Fr.kt Fr.tb g1 g2
   ·have lv:(vals ks ns).length=(ns.map (prt e)).length:=by unfold vals; rw [ub,ub]
    have lm:a.2.1.length=(ns.map (prt e)).length:=by rw [ub]; exact o4
    exact q1 a.2.2 (a.2.1.zip (ns.map (prt e))) (⟨n,b,e⟩ :: ts) (k + 1) (by rw [stp,if_neg c,o3]) H' (cld n b pr nm hbr hB o5 a am pb2 c4 (vals ks ns) _ lm lv (fun j u xs h1 h2=>(vpz ns o1 j u xs h1 h2)) c H' nd' x dxw k' f' fx g1 g2 g3 g4 (by lia))
  | .ask x ns,hO,hdd,q1,q2,q3,q4 =>
   obtain ⟨pq,hpd,hpq⟩:∃ q,H pd=some (.tup [.str "ask",.str x,.ref q])/\H q=some (.tup (ns.map V.str)):=hdd
   obtain ⟨⟨ox,o1,o2⟩,o5⟩:=hO
   obtain ⟨dks,hd,hdf⟩:=df.ex
   obtain ⟨ff,ef⟩:=hB.get ox
   obtain ⟨v,hv1,hv2⟩:=hE.val ef
   have ep:prt e x=ff:=by unfold prt; rw [ef]; rfl
   have hall:∀ n∈ns,∃ v,valV ks (.inr n)=some v:=fun m hm=>by
    obtain ⟨fa,ea⟩:=hB.get (o1 m hm)
    obtain ⟨va,e1,_⟩:=hE.val ea
    exact ⟨va,e1⟩
   refine .inr (.inr ⟨r,dx,d,wl,nd,pd,pr,pq,st,(k:Nat),.ref pb,v,n,x,ks,dks,ns,_,rfl,hR,hN,hpd,hpq,hv1,hall,o2,hW,by rw [ub,uZ,lws]; lia,hd,?_⟩)
   cases hv2 with
   | @num i _ xs hi hn =>
    exact .inl ⟨i,rfl,hi,q4 _ (by rw [stp,ep]; rfl)⟩
   | @shp p q' t us _ xs ys h1 h2 hs h9 g1 g2 =>
    cases g2
    obtain ⟨lt,htg⟩:=df.tg.t t us.length hs
    refine .inr ⟨p,q',t,us,rfl,h1,h2,h9,lt,?_⟩
    have sz0:(szOf kv t).getD 0=us.length:=by rw [hs]; rfl
    cases hfn:fnOf kv ds t with
    | none =>
     rcases htg with ⟨a,am,e1⟩ | hb
     ·have:=UN.mp hfn a am
      rw [sz0] at this
      exact absurd (decide_eq_true e1) this
     ·exact .inl ⟨hb,q4 _ (by rw [stp,ep,askD,hfn])⟩
    | some a =>
     have am:a∈ds:=uH hfn
     have et:t=ftag a.1 us.length:=by
      have:=UG hfn
      rw [sz0] at this
      exact of_decide_eq_true this
     obtain ⟨one,pp,pb2,c1,c2,c3,c4⟩:=hdf a.1 a (df.tg.n a am)
     obtain ⟨y1,y2,y3,y4⟩:=df.ok a am
     refine .inr ⟨a.1,us.length,one,pp,pb2,a.2.1,et,h9,df.tg.b a am,c1,c2,c3,y1,fun c=>q4 _ (by rw [stp,ep,askD,hfn]; dsimp only; rw [sz0,if_neg c]),fun c=>?_⟩
     have eas:askD kv ds (prt e x) ns.length=some a:=by rw [ep,askD,hfn]; dsimp only; rw [sz0,if_pos c]
     refine ⟨fun c' H' tp k' g1' g2'=>?_,fun c' H' nd' x' dxw k' f' fx g1' g2' g3' g4'=>?_⟩
     ·have Fr:Frm cW T H0 H H' []:=frm hR hW (fun z hz=>by cases hz) (k'.mono (by simp)) kt tb f1 f2 (fun z hz=>by cases hz)
      exact q3 (by rw [stp,eas]; exact if_pos c') H' tp _ _ _ _ Fr.kt Fr.tb g1' g2'
     ·obtain ⟨fs,efs,lf,hfs⟩:=wA g1
      have etl:pcs kv 1 (prt e x).tail []=fs:=by
       rw [ep,<- efs]
       show pcs kv 1 (xs ++ []) []=_
       rw [uO]
      have lv:(us ++ vals ks ns).length=(fs ++ ns.map (prt e)).length:=by unfold vals; rw [uf,uf,ub,ub,lf]
      have lm:a.2.1.length=(fs ++ ns.map (prt e)).length:=by rw [uf,ub,lf]; exact c.symm
      refine q1 a.2.2 (a.2.1.zip (fs ++ ns.map (prt e))) (⟨n,b,e⟩ :: ts) (k + 1) (by rw [stp,eas,etl]; exact if_neg c') H' (cld n b pr nm hbr hB o5 a am pb2 c4 (us ++ vals ks ns) _ lm lv (fun j u xs' h1' h2'=>?_) c' H' nd' x' dxw k' f' fx g1' g2' g3' g4' (by lia))
      by_cases cj:j < us.length
      ·rw [uv cj] at h1'
       rw [uv (by lia)] at h2'
       exact hfs j u xs' h1' h2'
      ·rw [uL (by lia)] at h1' h2'
       rw [lf] at h2'
       exact vpz ns o1 _ u xs' h1' h2'
end
end GN
namespace GN
open PySem L2 K11
def Grw (ks:List (List (Str × Nat))) (xs:List V):Prop:=xs.length<=300/\(∀ x∈xs,At x)/\hgt (puts ks.flatten []) xs=some 1
def Args (H:Hp) (ks:List (List (Str × Nat))) (al:Addr) (as:List Addr) (xss:List (List V)):Prop:=H al=some (.lst (as.map V.ref))/\as.length=xss.length/\∀ (j:Nat) a xs,as[j]?=some a->xss[j]?=some xs->H a=some (.lst xs)/\Grw ks xs
theorem Args.same {H H':Hp} {ks:List (List (Str × Nat))} {al:Addr} {as:List Addr} {xss:List (List V)} (h:Args H ks al as xss) (s:Same H H'):Args H' ks al as xss:=⟨s _ _ h.1,h.2.1,fun j a xs h1 h2=>⟨s _ _ (h.2.2 j a xs h1 h2).1,(h.2.2 j a xs h1 h2).2⟩⟩
structure Ft (K:ua) (mg:Str->Option Value) (C:Addr):Prop where
 m:mg "Fault"=some (.ref C)
 cl:∃ f,XCl K C f
 fn:uy K (.ref C) "word"=some none
 hd:Uv K C=true
 ex:PySem.W.exmOne K (.ref C) (.ref C)=some true
theorem KT.kx {T:Addr} {S:List Addr} {H H1 H2:Hp} (a:KT T H H1) (b:KX S H1 H2) (h:∀ z∈S,z=T\/H z=none):KT T H H2:=fun c u n q=>b c u (fun z=>by
 rcases h c z with e | e
 ·exact n e
 ·rw [e] at q; cases q) (a c u n q)
theorem Tb.kx {T:Addr} {S:List Addr} {H H':Hp} (h:Tb T H) (k:KX S H H') (n:∀ z∈S,(∃ C dx fs,H z=some (.ins C dx fs))\/∃ kvs,H z=some (.dK kvs)):Tb T H':=by
 obtain ⟨ps,e,h⟩:=h
 refine ⟨ps,k _ _ (fun z=>?_) e,?_⟩
 ·rcases n T z with ⟨C,dx,fs,h'⟩ | ⟨kvs,h'⟩
  ·rw [e] at h'; cases h'
  ·rw [e] at h'; cases h'
 ·rcases h with h | ⟨c,h,g⟩
  ·exact .inl h
  ·refine .inr ⟨c,h,k _ _ (fun z=>?_) g⟩
   rcases n c z with ⟨C,dx,fs,h'⟩ | ⟨kvs,h'⟩
   ·rw [g] at h'; unfold CodO at h'; cases h'
   ·rw [g] at h'; unfold CodO at h'; cases h'
def jw:Sp:=fun vs H Q _=>∃ (pk l:Addr) (ks:List (List (Str × Nat))) (xs:List V),vs=[.ref pk,.ref l]/\Kn H pk ks/\KsOk ks/\H l=some (.lst xs)/\Grw ks xs/\∀ H' v,Same H H'->Pz (puts ks.flatten []) H' [v] xs->Q v H'
theorem VG {C:Addr} {vs:List V} {H:Hp} {Q:VK} {E:XK} (h:jw vs H Q E):YN C vs H Q E0:=by
 obtain ⟨pk,l,ks,xs,rfl,hK,hk,hl,⟨g1,g2,g3⟩,q⟩:=h
 refine ⟨pk,.ref l,ks,rfl,hK,hk,.inr ⟨l,xs,rfl,hl,g1,fun x hx=>?_,fun n=>absurd g3 n,fun _ H' v s hv=>q H' v s hv⟩⟩
 have:=g2 x hx
 match x,this with
 | .int i,_=>exact ⟨_,.int i⟩
 | .str z,_=>exact ⟨_,.str z⟩
def Zk:Sp:=fun vs H Q _=>∃ (pk d al one pp pb:Addr) (n:Str) (ks:List (List (Str × Nat))) (kvs:List (Key × V)) (ps:List Str) (as:List Addr) (xss:List (List V)),vs=[.ref pk,.ref d,.str n,.ref al]/\Kn H pk ks/\KsOk ks/\H d=some (.dK kvs)/\valV kvs (.inr n)=some (.ref one)/\H one=some (.tup [.str n,.ref pp,.ref pb])/\H pp=some (.tup (ps.map V.str))/\Args H ks al as xss/\ps.length=xss.length/\ps.length<=100 /\
 ∀ H' l us,Same H H'->H' l=some (.lst us)->us.length=xss.length->(∀ (j:Nat) u xs,us[j]?=some u->xss[j]?=some xs->Pz (puts ks.flatten []) H' [u] xs)->Q (.ref l) H'
def Qg:Sp:=fun vs H Q _=>∃ (pd:Addr) (ones:List Addr) (ns:List Str),vs=[.ref pd]/\H pd=some (.tup (ones.map V.ref))/\ones.length=ns.length/\ns.Nodup/\ns.length<=100/\(∀ (i:Nat) o n,ones[i]?=some o->ns[i]?=some n->∃ rest,H o=some (.tup (.str n :: rest))) /\
 ∀ H' d kvs,Same H H'->H d=none->H' d=some (.dK kvs)->(∀ (i:Nat) o n,ones[i]?=some o->ns[i]?=some n->valV kvs (.inr n)=some (.ref o))->(∀ n,n ∉ ns->valV kvs (.inr n)=none)->Q (.ref d) H'
section
variable {P:Program} {w:World} {K:ua} {mg:Str->Option Value} {base:Heap} {f R C cR T:Addr} {fd:FuncData}
theorem scBy:FnScope ["defs","found","one"] ["defs"] (zp sBy):=⟨rfl,rfl,rfl,by decide +kernel,rfl,by decide +kernel,by decide +kernel⟩
theorem qj:FnScope ["kinds","defs","name","args"] ["kinds","defs","name","args"] (zp ZW):=⟨rfl,rfl,rfl,by decide +kernel,rfl,by decide +kernel,by decide +kernel⟩
theorem qk:(["kinds","defs","name","args","parts"]:List Str).Nodup:=by decide +kernel
theorem XQ (F:Fun K "begun_with" "begun_with" ZW f fd) (GG:Ca P w K mg base CX0 2 "grown" ["kinds","parts"] jw) (m_len:mg "len"=none):FnOk P w K mg base CX0 3 f fd ["kinds","defs","name","args"] Zk:=by
 refine F.by qj (fun vs H Q E h=>?_) (fun cdv A outer s H vs Q E hr h=>?_)
 ·obtain ⟨pk,d,al,one,pp,pb,n,ks,kvs,ps,as,xss,rfl,_⟩:=h
  rfl
 obtain ⟨pk,d,al,one,pp,pb,n,ks,kvs,ps,as,xss,rfl,hK,hk,hd,hv,h1,hp,hA,ll,l100,q⟩:=h
 refine ⟨_,
  (zi (zH (vG hr (jv 2) (jv 1)) (zk yW) zA)
  (zi (zH (zt xQ (zG zz rfl m_len uC (ja_c (jv 3) zg)) (zG zz rfl m_len uC (ja_c (zq zr (zX hr (jv 1) (jv 2)) zh (fun _ _=>rfl)) zg)) (zw _)) (zk yW) zA)
  (zk (zx (yA ["parts"] rfl (yx (jv 3)) (fun _ _ _ _ _=>(zD (i:=4) qk rfl (Or.inl rfl))) (fun _ _ _ _ _=>ya) (fun _ _ _ _ _=>(zy GG hr rfl zC (ja_c (jv 0) (ja_c (jv 4) zg))))))))),?_⟩
 have sl:=zQ
 have gd:DGet H d (V.str n) (some (.ref one)):=by rw [<- hv]; exact DGet.k (k:=.inr n) hd
 have la:=hA.2.1
 refine ⟨_,rfl,_,rfl,d,_,rfl,gd,_,rfl,zI rfl (nxt ?_)⟩
 refine ⟨_,rfl,al,_,rfl,.inl (SqL.of hA.1),_,rfl,_,rfl,d,_,rfl,gd,ixT h1 (zj (j:=1) rfl) ⟨pp,_,rfl,.inr (SqT.of hp),rfl,_,rfl,zI (by rw [ub,ub,la,ll]; simp) (nxt ?_)⟩⟩
 refine ⟨_,rfl,_,rfl,⟨_,SqL.of hA.1⟩,yG (xs:=as.map V.ref) (fun j τ ys H'=>Same H H'/\(∃ v,τ=[some (.ref pk),some (.ref d),some (.str n),some (.ref al),v])/\ys.length=j/\∀ (i:Nat) u xs,ys[i]?=some u->xss[i]?=some xs->Pz (puts ks.flatten []) H' [u] xs) ⟨Same.refl _,⟨none,rfl⟩,rfl,fun i u xs h=>by simp at h⟩ (fun j τ ys H' _ h=>SqL.of (h.1 _ _ hA.1)) ?_ ?_⟩
 ·rintro j v τ ys H2 hv ⟨s2,⟨u,rfl⟩,ly,hys⟩
  rw [uj] at hv
  obtain ⟨a,ha,rfl⟩:=uk.mp hv
  have hj:=(ud.mp ha).1
  obtain ⟨g1,g2⟩:=hA.2.2 j a _ ha (ug (by lia))
  refine ⟨_,rfl,_,rfl,pk,a,ks,_,rfl,hK.keep (.of s2),hk,s2 _ _ g1,g2,fun H3 v s3 hv'=>⟨by lia,s2.trans s3,⟨_,rfl⟩,by rw [uf,ly]; rfl,fun i u xs h1 h2=>?_⟩⟩
  by_cases c:i < ys.length
  ·rw [uv c] at h1
   exact (hys i u xs h1 h2).keep (.of s3)
  ·rw [uL (by lia)] at h1
   have:i - ys.length=0:=by
    have:=(ud.mp h1).1
    simp at this
    lia
   rw [this] at h1
   cases h1
   have e:i=j:=by lia
   subst e
   rw [ug (by lia)] at h2
   cases h2
   exact hv'
 ·rintro τ ys H2 ⟨s2,_,ly,hys⟩ l hl
  have n3:=same_new hl (.lst ys)
  rw [ub] at ly
  exact q _ l ys (s2.trans n3) zf (by lia) fun j u xs h1 h2=>(hys j u xs h1 h2).keep (.of n3)
theorem zaA (F:Fun K "by_name" "by_name" sBy f fd):FnOk P w K mg base CX0 1 f fd ["defs"] Qg:=by
 refine F.by scBy (fun vs H Q E h=>?_) (fun cdv A outer s H vs Q E hr h=>?_)
 ·obtain ⟨pd,ones,ns,rfl,_⟩:=h
  rfl
 obtain ⟨pd,ones,ns,rfl,hp,lo,hnd,l100,h1,q⟩:=h
 refine ⟨_,
  (zi (zv (i:=1) scBy.nd rfl (Or.inl rfl) xU)
  (zi (yE PassesOwn.never rfl (xJ (jv 0)) (zD (i:=2) scBy.nd rfl (Or.inl rfl))
   (zk (y8 hr (jv 1) (zq zr (jv 2) zh (fun _ _=>rfl)) (jv 2))))
  (zk (zx (jv 1))))),?_⟩
 have sl:=zQ
 intro d hd
 have s1:=same_new hd (.dK [])
 refine ⟨_,rfl,_,rfl,⟨_,SqT.of (s1 _ _ hp)⟩,wu (xs:=ones.map V.ref) (fun i σ H'=>Same H H'/\(∃ kvs,H' d=some (.dK kvs)/\kvs.length<=i/\(∀ (j:Nat) o n,j < i->ones[j]?=some o->ns[j]?=some n->valV kvs (.inr n)=some (.ref o))/\∀ n,n ∉ ns.take i->valV kvs (.inr n)=none)/\∃ x,σ=[some (.ref pd),some (.ref d),x]) ⟨s1,⟨[],zf,u6 _,fun j o n h=>absurd h (by lia),fun n _=>rfl⟩,none,rfl⟩ (fun i σ H' _ h=>SqT.of (h.1 _ _ hp)) ?_ ?_⟩
 ·rintro i v σ H1 hv ⟨s2,⟨kvs,hd2,lk,a1,a2⟩,x,rfl⟩
  rw [uj] at hv
  obtain ⟨o,ho,rfl⟩:=uk.mp hv
  have hi:=(ud.mp ho).1
  have hn:ns[i]?=some (ns[i]'(by lia)):=ug _
  generalize ns[i]'(by lia)=n at hn
  obtain ⟨rest,hO⟩:=h1 i o n ho hn
  refine ⟨_,rfl,_,rfl,_,rfl,ixT (s2 _ _ hO) (zj (j:=0) rfl) ⟨d,_,rfl,DPut.k (k:=.inr n) hd2 (by lia),s2.put hd,⟨_,zf,?_,fun j o' n' hj h1 h2=>?_,fun n' h'=>?_⟩,_,rfl⟩⟩
  ·unfold putK
   split
   ·rw [ub]; lia
   ·rw [uf]; show _ + 1<=_; lia
  ·rw [yV]
   by_cases c:j=i
   ·subst c
    rw [hn] at h2
    rw [ho] at h1
    cases h1; cases h2
    rw [if_pos rfl]
   ·rw [if_neg (fun e=>c (xg hnd h2 (by rw [hn,Sum.inr.inj e])))]
    exact a1 j o' n' (by lia) h1 h2
  ·rw [Ux,hn] at h'
   have h':n' ∉ ns.take i ++ [n]:=h'
   rw [uN,not_or] at h'
   rw [yV,if_neg (fun e=>h'.2 (uh.mpr (Sum.inr.inj e)))]
   exact a2 n' h'.1
 ·rintro σ H1 ⟨s2,⟨kvs,hd2,lk,a1,a2⟩,x,rfl⟩
  rw [ub] at a1 a2
  exact ⟨_,rfl,q _ d kvs s2 hd hd2 (fun i o n g1 g2=>a1 i o n (ud.mp g1).1 g1 g2) fun n hn=>a2 n (by rw [lo,uE (ui _)]; exact hn)⟩
theorem scRun:FnScope ["program","name","args","steps","defs","values","running","fault"] ["program","name","args","steps"] (zp sRun):=⟨rfl,rfl,rfl,by decide +kernel,rfl,by decide +kernel,by decide +kernel⟩
end
end GN
namespace GN
open PySem L2 K11
inductive Oc
 | told (f:List V)
 | late
 | fault (w:Str)
def mrun (kv:Kvs) (ds:Dfl) (st:Int):Nat->Bd->En->List Wt->Nat->Option Oc
 | 0,_,_,_,_=>none
 | N + 1,b,e,ts,k=>match stp kv ds st b e ts k with
  | .go b' e' ts' k'=>mrun kv ds st N b' e' ts' k'
  | .told f=>some (.told f)
  | .late=>some .late
  | .fault w=>some (.fault w)
def AnsG (H:Hp) (p:Addr) (st:Int):Oc->Prop
 | .told f=>Ans H p (.inl f)
 | .late=>H p=some (.tup [.str "late",.int st])
 | .fault w=>Ans H p (.inr w)
def IsDs (H:Hp) (ones:List Addr) (ds:Dfl):Prop:=ones.length=ds.length/\∀ (i:Nat) o a,ones[i]?=some o->ds[i]?=some a->∃ pp pb,H o=some (.tup [.str a.1,.ref pp,.ref pb])/\H pp=some (.tup (a.2.1.map V.str))/\IsBd H a.2.2 pb
theorem IsDs.keep {H H':Hp} (t:Tups H H') {ones:List Addr} {ds:Dfl} (h:IsDs H ones ds):IsDs H' ones ds:=⟨h.1,fun i o a h1 h2=>let ⟨pp,pb,a1,a2,a3⟩:=h.2 i o a h1 h2; ⟨pp,pb,t _ _ a1,t _ _ a2,a3.keep t⟩⟩
def IsPG (H:Hp) (ks:List (List (Str × Nat))) (ds:Dfl) (p:Addr):Prop:=∃ pk pd ones,H p=some (.tup [.ref pk,.ref pd])/\Kn H pk ks/\H pd=some (.tup (ones.map V.ref))/\IsDs H ones ds
theorem Pz.ext {kv kv':Kvs} {H:Hp} {us xs:List V} (h:Pz kv H us xs) (g:∀ t m,szOf kv t=some m->szOf kv' t=some m):Pz kv' H us xs:=by
 induction h with
 | nil=>exact .nil
 | num a _ ih=>exact .num a ih
 | shp a b c d _ _ ih1 ih2=>exact .shp a b (g _ _ c) d ih1 ih2
structure PGOk (ks:List (List (Str × Nat))) (ds:Dfl) (kv:Kvs):Prop where
 k:KsOk ks
 n:(ds.map (·.1)).Nodup
 l:ds.length<=100
 b:∀ a∈ds,a.2.1.Nodup/\a.2.1.length<=9/\OkX kv ds a.2.1 a.2.2/\a.2.2.sz<=700
 e:∀ t m,szOf (puts ks.flatten []) t=some m->szOf kv t=some m
 t:TagOk kv ds
def VH (T:Addr):Sp:=fun vs H Q _=>∃ (p al:Addr) (st:Int) (g:Str) (ks:List (List (Str × Nat))) (ds:Dfl) (a:Str × List Str × Bd) (as:List Addr) (xss:List (List V)) (M:Nat) (o:Oc) (kv:Kvs),vs=[.ref p,.str g,.ref al,.int st]/\IsPG H ks ds p/\PGOk ks ds kv/\dfOf ds g=some a/\Args H ks al as xss/\a.2.1.length=xss.length/\Tb T H/\0<=st/\st<=10000/\mrun kv ds st M a.2.2 (a.2.1.zip xss) [] 0=some o /\
 ∀ H' r,KT T H H'->Tb T H'->AnsG H' r st o->Q (.ref r) H'
section
variable {P:Program} {w:World} {K:ua} {mg:Str->Option Value} {base:Heap} {f R C cR cW T:Addr} {fd:FuncData}
theorem ql (F:Fun K "run" "run" sRun f fd) (N:Rn K cR) (X:Ft K mg C) (GY:Ca P w K mg base CX0 1 "by_name" ["defs"] Qg) (GB:Ca P w K mg base CX0 3 "begun_with" ["kinds","defs","name","args"] Zk) (GM:Ma P w K mg base CX0 1 "Run" cR ["self","defs","steps"] (YR cR)) (GE:Me P w K mg base CX0 1 cR "begin_def" ["self","name","values"] (jr cR)) (GO:Me P w K mg base (CXf P w) 6 cR "go_on" ["self"] (Qf cR cW C T)):FnOk P w K mg base CX0 7 f fd ["program","name","args","steps"] (VH T):=by
 refine F.by scRun (fun vs H Q E h=>?_) (fun cdv A outer s H vs Q E hr h=>?_)
 ·obtain ⟨p,al,st,g,ks,ds,a,as,xss,M,o,kv,rfl,_⟩:=h
  rfl
 obtain ⟨p,al,st,g,ks,ds,a,as,xss,M,o,kv,rfl,⟨pk,pd,ones,hp,hK,hpd,hds⟩,hOk,hg,hA,ll,hT,st0,st1,hrun,q⟩:=h
 have r1:Room 1 _:=hr.mono (by decide)
 have r2:Room 2 _:=hr.mono (by decide)
 have r3:Room 3 _:=hr.mono (by decide)
 have r6:Room 6 _:=hr.mono (by decide)
 obtain ⟨fi,MX⟩:=X.cl
 refine ⟨_,
  (zi (zv (i:=4) scRun.nd rfl (Or.inl rfl) (zy GY r1 rfl zC (ja_c (zq zr (jv 0) zh (fun _ _=>rfl)) zg)))
  (zi (zv (i:=5) scRun.nd rfl (Or.inl rfl) (zy GB r3 rfl zC (ja_c (zq zr (jv 0) zh (fun _ _=>rfl)) (ja_c (jv 4) (ja_c (jv 1) (ja_c (jv 2) zg))))))
  (zi (zv (i:=6) scRun.nd rfl (Or.inl rfl) (WD GM r2 rfl zC (ja_c (jv 4) (ja_c (jv 3) zg))))
  (zi (zU (yQ (jv 6) N.cl GE r1 zC (ja_c (jv 1) (ja_c (jv 5) zg))))
  (zi (Vp (tb:=fun D=>_) (fun pins D ok=>Q6 (YC K (jv 6))) (fun pins D ok=>zk (zU (Q5 (jv 6) N.cl GO r6 (XL (za5 (i:=7) (th:=fun e oe=>_) zao scRun.nd rfl rfl X.m (fun e oe=>zk (zx (zB (ja_c zu (ja_c (JI (e:=e) (oe:=oe) uo MX X.fn X.hd (jv 7)) zg)))))) ok)))))
  (zk (zx (zS (jv 6))))))))),?_⟩
 have sl:=zQ
 have am:a∈ds:=uH hg
 have ag:a.1=g:=by simpa using UG hg
 obtain ⟨y1,y2,y3,y4⟩:=hOk.b a am
 refine ⟨_,rfl,ixT hp (zj (j:=1) rfl) ⟨pd,ones,ds.map (·.1),rfl,hpd,by rw [ub]; exact hds.1,hOk.n,by rw [ub]; exact hOk.l,fun i o n h1 h2=>?_,fun H1 d dks s1 fd1 hd1 hdv _=>?_⟩⟩
 ·rw [uj] at h2
  obtain ⟨a',ha',rfl⟩:=uk.mp h2
  obtain ⟨pp,pb,e1,_⟩:=hds.2 i o a' h1 ha'
  exact ⟨_,e1⟩
 have fnd:∀ g' a',dfOf ds g'=some a'->∃ one pp pb,valV dks (.inr g')=some (.ref one)/\H one=some (.tup [.str g',.ref pp,.ref pb])/\H pp=some (.tup (a'.2.1.map V.str))/\IsBd H a'.2.2 pb:=fun g' a' hf=>by
  have m':a'∈ds:=uH hf
  have e':a'.1=g':=by simpa using UG hf
  obtain ⟨i,hi⟩:=Ud m'
  have hl:=(ud.mp hi).1
  have ho:ones[i]?=some (ones[i]'(by rw [hds.1]; exact hl)):=ug _
  obtain ⟨pp,pb,e1,e2,e3⟩:=hds.2 i _ a' ho hi
  exact ⟨_,pp,pb,hdv i _ g' ho (by rw [uj,hi]; show some a'.1=_; rw [e']),by rw [<- e']; exact e1,e2,e3⟩
 obtain ⟨one,pp,pb,v1,h1,hpp,hby⟩:=fnd g a hg
 refine ⟨_,rfl,ixT (s1 _ _ hp) rfl ⟨_,rfl,_,rfl,_,rfl,pk,d,al,one,pp,pb,g,ks,_,a.2.1,as,xss,rfl,hK.keep (.of s1),hOk.k,hd1,v1,s1 _ _ h1,s1 _ _ hpp,hA.same s1,ll,by lia,fun H2 vl us s2 hvl lus hus=>?_⟩⟩
 have s12:=s1.trans s2
 refine ⟨_,rfl,_,rfl,fun r dx hr0 hdx0 ndx=>?_⟩
 have n3:=(same_new hdx0 (.own r)).new (o:=.ins cR dx []) (by rw [zm (Ne.symm ndx)]; exact hr0)
 have hr3:=zf (H:=upd H2 dx (.own r)) (a:=r) (o:=.ins cR dx [])
 have fr3:H r=none:=s12.free hr0
 generalize upd (upd H2 dx (.own r)) r (.ins cR dx [])=H3 at *
 have s13:=s12.trans n3
 refine ⟨r,dx,d,st,rfl,hr3,fun H4 wl nd k4 fwl fnd0 hr4 hwl hnd=>⟨rfl,?_⟩⟩
 have fwl':H wl=none:=s13.free fwl
 have kt4:KT T H H4:=(KT.of s13).kx k4 fun z hz=>.inr (by rw [uh.mp hz]; exact fr3)
 have keep4:∀ {z:Addr} {o:HO},H2 z=some o->H4 z=some o:=fun {z o} e=>k4 _ _ (by
  intro c
  rw [uh.mp c,hr0] at e
  cases e) (n3 _ _ e)
 have tu4:Tups H2 H4:=fun z xs e=>keep4 e
 have hd4:=keep4 (s2 _ _ hd1)
 have T4:Tb T H4:=by
  obtain ⟨ps0,e1,e2⟩:=hT
  refine ⟨ps0,keep4 (s12 _ _ e1),?_⟩
  rcases e2 with e2 | ⟨c,e2,e3⟩
  ·exact .inl e2
  ·exact .inr ⟨c,e2,keep4 (s12 _ _ e3)⟩
 refine ⟨_,rfl,r,dx,_,rfl,hr4,rfl,_,rfl,_,rfl,r,dx,d,wl,nd,vl,one,pp,pb,st,0,.non,g,_,a.2.1,us,rfl,hr4,hd4,v1,keep4 (s12 _ _ h1),keep4 (s12 _ _ hpp),y1,keep4 hvl,by lia,fun H5 nd' k5 fnd' hr5 hnd5=>?_⟩
 have fnd1:H nd'=none:=by
  cases c:H nd' with
  | none=>rfl
  | some o =>
   rw [keep4 (s12 _ _ c)] at fnd'
   cases fnd'
 have ne4:∀ {z:Addr} {o:HO},H4 z=some o->(∀ C dx fs,o≠.ins C dx fs)->z ∉ [r]:=fun {z o} e n c=>by
  rw [uh.mp c,hr4] at e
  cases e
  exact n _ _ _ rfl
 have kt5:KT T H H5:=kt4.kx k5 fun z hz=>.inr (by rw [uh.mp hz]; exact fr3)
 have hwl5:H5 wl=some (.lst []):=k5 _ _ (ne4 hwl (by intro _ _ _ z; cases z)) hwl
 have hd5:=k5 _ _ (ne4 hd4 (by intro _ _ _ z; cases z)) hd4
 have T5:Tb T H5:=T4.kx k5 fun z hz=>.inl (by rw [uh.mp hz]; exact ⟨_,_,_,hr4⟩)
 have tu5:Tups H4 H5:=fun z xs e=>k5 _ _ (ne4 e (by intro _ _ _ z; cases z)) e
 have tu25:Tups H2 H5:=fun z xs e=>tu5 _ _ (tu4 _ _ e)
 have tu05:Tups H H5:=fun z xs e=>tu25 _ _ (s12 _ _ e)
 have hE5:Ez kv H5 (zkv a.2.1 us) (a.2.1.zip xss):=jt ll lus fun j u xs h1 h2=>((hus j u xs h1 h2).keep tu25).ext hOk.e
 have lz:(zkv a.2.1 us).length<=9:=by
  unfold zkv
  rw [ub,List.length_zip]
  lia
 have MS0:MS cR cW T kv ds st H H5 r dx d a.2.2 (a.2.1.zip xss) [] 0 :=
  ⟨⟨wl,nd',pb,_,[],[],hr5,hby.keep tu05,hnd5,hE5,by lia,hwl5,trivial,by simp,fun c=>(by rw [<- uh.mp c,hd4] at fnd'; cases fnd'),fwl',fun z hz=>(by rw [uh.mp hz]; exact fnd1)⟩,⟨a.2.1,ju ll,y3⟩,fr3,kt5,T5,⟨⟨dks,hd5,fun g' a' hf=>let ⟨one,pp,pb,e1,e2,e3,e4⟩:=fnd g' a' hf; ⟨one,pp,pb,e1,tu05 _ _ e2,tu05 _ _ e3,e4.keep tu05⟩⟩,hOk.b,hOk.t⟩,ui _,st0,st1⟩
 refine ⟨fun m σ H'=>σ=[some (.ref p),some (.str g),some (.ref al),some (.int st),some (.ref d),some (.ref vl),some (.ref r),none]/\((∃ b e ts k,MS cR cW T kv ds st H H' r dx d b e ts k/\mrun kv ds st m b e ts k=some o)\/(m=0/\KT T H H'/\Tb T H'/\∃ tp dn wl bb nd,H' r=some (RO cR dx d st dn wl bb nd (.ref tp))/\AnsG H' tp st o)),⟨M,rfl,.inl ⟨_,_,_,_,MS0,hrun⟩⟩,?_⟩
 rintro m σ H6 ⟨rfl,hcase⟩
 rcases hcase with ⟨b,e,ts,k,ms,hm⟩ | ⟨rfl,kt6,T6,tp,dn,wl6,bb,nd6,hr6,hAns⟩
 ·obtain ⟨wl6,nd6,pb6,ks6,ws6,nds6,hr6,_⟩:=ms.ex
  cases m with
  | zero=>cases hm
  | succ m =>
   refine ⟨_,rfl,r,cR,dx,_,_,rfl,hr6,N.cl,N.a7,rfl,_,rfl,zV (decide_eq_true rfl) ⟨_,fun _ _ h=>h,?_⟩⟩
   refine ⟨_,rfl,r,dx,_,rfl,hr6,rfl,kv,ds,st,H,r,dx,d,b,e,ts,k,rfl,ms,fun b' e' ts' k' hs H7 ms7=>?_,fun ff hs H7 tp dn wl7 bb nd7 kt7 T7 g1 g2=>?_,fun hs H7 tp dn wl7 bb nd7 kt7 T7 g1 g2=>?_,fun ww hw dd' H7 s7 hdd=>?_⟩
   ·exact ⟨m,US _,rfl,.inl ⟨b',e',ts',k',ms7,by rw [mrun,hs] at hm; exact hm⟩⟩
   ·exact ⟨0,Nat.succ_pos _,rfl,.inr ⟨rfl,kt7,T7,tp,dn,wl7,bb,nd7,g1,by rw [mrun,hs] at hm; cases hm; exact g2⟩⟩
   ·exact ⟨0,Nat.succ_pos _,rfl,.inr ⟨rfl,kt7,T7,tp,dn,wl7,bb,nd7,g1,by rw [mrun,hs] at hm; cases hm; exact g2⟩⟩
   ·refine .inl ⟨X.ex,fun e' oe ws σ' hσ hc hdx hdt _ _=>?_⟩
    have hσ:σ'.length=8:=hσ
    refine ⟨_,by rw [UW (by lia)],rfl,hc,⟨ws,hdt⟩,dd',_,_,hdx,hdd,rfl,by show 2<=sizeLine; decide,fun tp htp=>?_⟩
    have n8:=same_new htp (.tup [.str "fault",.str ww])
    have s8:=s7.trans n8
    refine q _ tp (fun c u n h=>s8 _ _ (ms.kt c u n h)) (ms.tb.same s8) ?_
    rw [mrun,hw] at hm
    cases hm
    exact zf
 ·refine ⟨_,rfl,r,cR,dx,_,_,rfl,hr6,N.cl,N.a7,rfl,_,rfl,zI (decide_eq_false (by intro z; cases z)) ?_⟩
  exact ⟨_,rfl,r,cR,dx,_,_,rfl,hr6,N.cl,N.a7,rfl,q _ tp kt6 T6 hAns⟩
end
end GN
namespace GN
open PySem L2 K11
inductive Ou
 | ret (f:List V) (k:Nat)
 | late
 | fault (w:Str)
def fin (kv:Kvs) (ds:Dfl) (st:Int) (N:Nat) (ts:List Wt):Ou->Option Oc
 | .ret f k=>match ts with
  | []=>some (.told f)
  | t :: r=>mrun kv ds st N t.b (putE t.e t.n f) r k
 | .late=>some .late
 | .fault w=>some (.fault w)
def Ou.oc:Ou->Oc
 | .ret f _=>.told f
 | .late=>.late
 | .fault w=>.fault w
def Big (kv:Kvs) (ds:Dfl) (st:Int) (b:Bd) (e:En) (k:Nat) (o:Ou):Prop:=∃ c,∀ N ts,mrun kv ds st (N + c) b e ts k=fin kv ds st N ts o
section
variable {kv:Kvs} {ds:Dfl} {st:Int} {b b' b2:Bd} {e e':En} {k k':Nat} {o:Ou}
theorem Big.run (h:Big kv ds st b e k o):∃ M,mrun kv ds st M b e [] k=some o.oc:=by
 obtain ⟨c,h⟩:=h
 refine ⟨0 + c,?_⟩
 rw [h 0 []]
 cases o <;> rfl
theorem xb {N:Nat} {ts ts':List Wt} (h:stp kv ds st b e ts k=.go b' e' ts' k'):mrun kv ds st (N + 1) b e ts k=mrun kv ds st N b' e' ts' k':=by rw [mrun,h]
theorem Big.give {x:Str}:Big kv ds st (.give x) e k (.ret (prt e x) k):=⟨1,fun N ts=>by
 cases ts with
 | nil=>rfl
 | cons t r=>exact xb rfl⟩
theorem Big.go (h:∀ ts,stp kv ds st b e ts k=.go b' e' ts k') (g:Big kv ds st b' e' k' o):Big kv ds st b e k o:=by
 obtain ⟨c,g⟩:=g
 exact ⟨c + 1,fun N ts=>by rw [<- g N ts]; exact xb (h ts)⟩
theorem Big.flt {w:Str} (h:∀ ts,stp kv ds st b e ts k=.fault w):Big kv ds st b e k (.fault w):=⟨1,fun N ts=>by rw [mrun,h ts]; rfl⟩
theorem Big.lateC {n g:Str} {ns:List Str} (h:(k:Int)=st):Big kv ds st (.lt n (.call g ns) b2) e k .late:=⟨1,fun N ts=>by rw [mrun,stp,if_pos h]; rfl⟩
theorem Big.call {n g:Str} {ns:List Str} {a:Str × List Str × Bd} {f:List V} {k1:Nat} (h:(k:Int)≠st) (ha:dfOf ds g=some a) (g1:Big kv ds st a.2.2 (a.2.1.zip (ns.map (prt e))) (k + 1) (.ret f k1)) (g2:Big kv ds st b2 (putE e n f) k1 o):Big kv ds st (.lt n (.call g ns) b2) e k o:=by
 obtain ⟨c1,g1⟩:=g1
 obtain ⟨c2,g2⟩:=g2
 refine ⟨c2 + c1 + 1,fun N ts=>?_⟩
 rw [<- g2 N ts,<- UZ,<- UZ,xb (b':=a.2.2) (e':=a.2.1.zip (ns.map (prt e))) (ts':=⟨n,b2,e⟩ :: ts) (k':=k + 1) (by rw [stp,if_neg h,ha]),g1 (N + c2) (⟨n,b2,e⟩ :: ts)]
 rfl
theorem Big.callX {n g:Str} {ns:List Str} {a:Str × List Str × Bd} (h:(k:Int)≠st) (ha:dfOf ds g=some a) (g1:Big kv ds st a.2.2 (a.2.1.zip (ns.map (prt e))) (k + 1) o) (ho:∀ f k,o≠.ret f k):Big kv ds st (.lt n (.call g ns) b2) e k o:=by
 obtain ⟨c1,g1⟩:=g1
 refine ⟨c1 + 1,fun N ts=>?_⟩
 rw [<- UZ,xb (b':=a.2.2) (e':=a.2.1.zip (ns.map (prt e))) (ts':=⟨n,b2,e⟩ :: ts) (k':=k + 1) (by rw [stp,if_neg h,ha]),g1 N (⟨n,b2,e⟩ :: ts)]
 cases o with
 | ret f k=>exact absurd rfl (ho f k)
 | late=>rfl
 | fault w=>rfl
end
theorem yY (p:Str × List V) (r:En) (m:Str):valE (p :: r) m=if p.1=m then some p.2 else valE r m:=by
 unfold valE
 rw [Uk]
 by_cases c:p.1=m
 ·rw [decide_eq_true c,if_pos c]
  rfl
 ·rw [decide_eq_false c,if_neg c]
theorem Zl (n m:Str) (f:List V):∀ e:En,valE (e.map fun p=>if p.1=n then (p.1,f) else p) m=if m=n then (valE e m).map (fun _=>f) else valE e m
 | []=>by split <;> rfl
 | p :: r=>by
  have ih:=Zl n m f r
  rw [uP,yY,yY,ih]
  by_cases c:p.1=n
  ·rw [if_pos c]
   by_cases d:p.1=m
   ·rw [if_pos d,if_pos d,if_pos (d.symm.trans c)]
    rfl
   ·rw [if_neg d,if_neg d]
  ·rw [if_neg c]
   by_cases d:p.1=m
   ·rw [if_pos d,if_pos d,if_neg (fun z=>c (d.trans z))]
   ·rw [if_neg d,if_neg d]
theorem vI (n m:Str) (f:List V):∀ e:En,valE (e ++ [(n,f)]) m=match valE e m with
  | some g=>some g
  | none=>if n=m then some f else none
 | []=>by
  rw [List.nil_append,yY]
  rfl
 | p :: r=>by
  rw [Uc,yY,yY,vI n m f r]
  by_cases d:p.1=m
  ·rw [if_pos d,if_pos d]
  ·rw [if_neg d,if_neg d]
theorem XR (e:En) (n m:Str) (f:List V):valE (putE e n f) m=if m=n then some f else valE e m:=by
 unfold putE
 by_cases a:(e.any fun p=>decide (p.1=n))=true
 ·rw [if_pos a,Zl]
  by_cases c:m=n
  ·rw [if_pos c,if_pos c,c]
   rw [yO] at a
   obtain ⟨g,hg⟩:=UD.mp a
   rw [hg]
   rfl
  ·rw [if_neg c,if_neg c]
 ·rw [if_neg a,vI]
  by_cases c:m=n
  ·subst c
   rw [yO] at a
   rw [Option.not_isSome_iff_eq_none.mp a,if_pos rfl]
  ·rw [if_neg c]
   cases valE e m with
   | some g=>rfl
   | none=>exact if_neg fun z=>c z.symm
theorem qm (e:En) (n m:Str) (f:List V):prt (putE e n f) m=if m=n then f else prt e m:=by
 unfold prt
 rw [XR]
 by_cases c:m=n
 ·rw [if_pos c,if_pos c]
  rfl
 ·rw [if_neg c,if_neg c]
def Zm:Ou->(List V->Nat->Ou)->Ou
 | .ret f k,g=>g f k
 | .late,_=>.late
 | .fault z,_=>.fault z
theorem Big.callT {kv:Kvs} {ds:Dfl} {st:Int} {b2:Bd} {e:En} {k:Nat} {n g:Str} {ns:List Str} {a:Str × List Str × Bd} {o:Ou} {F:List V->Nat->Ou} (h:(k:Int)≠st) (ha:dfOf ds g=some a) (g1:Big kv ds st a.2.2 (a.2.1.zip (ns.map (prt e))) (k + 1) o) (g2:∀ f k1,o=.ret f k1->Big kv ds st b2 (putE e n f) k1 (F f k1)):Big kv ds st (.lt n (.call g ns) b2) e k (Zm o F):=by
 cases o with
 | ret f k1=>exact Big.call h ha g1 (g2 f k1 rfl)
 | late=>exact Big.callX h ha g1 (by intro _ _ z; cases z)
 | fault w=>exact Big.callX h ha g1 (by intro _ _ z; cases z)
theorem Big.askT {kv:Kvs} {ds:Dfl} {st:Int} {b2:Bd} {e:En} {k:Nat} {n x:Str} {ns:List Str} {a:Str × List Str × Bd} {o:Ou} {F:List V->Nat->Ou} (h:(k:Int)≠st) (ha:askD kv ds (prt e x) ns.length=some a) (g1:Big kv ds st a.2.2 (a.2.1.zip (pcs kv 1 (prt e x).tail [] ++ ns.map (prt e))) (k + 1) o) (g2:∀ f k1,o=.ret f k1->Big kv ds st b2 (putE e n f) k1 (F f k1)):Big kv ds st (.lt n (.ask x ns) b2) e k (Zm o F):=by
 have hs:∀ ts,stp kv ds st (.lt n (.ask x ns) b2) e ts k=.go a.2.2 (a.2.1.zip (pcs kv 1 (prt e x).tail [] ++ ns.map (prt e))) (⟨n,b2,e⟩ :: ts) (k + 1):=fun ts=>by rw [stp,ha]; exact if_neg h
 obtain ⟨c1,g1⟩:=g1
 cases o with
 | ret f k1 =>
  obtain ⟨c2,g2⟩:=g2 f k1 rfl
  refine ⟨c2 + c1 + 1,fun N ts=>?_⟩
  rw [show Zm (.ret f k1) F=F f k1 from rfl,<- g2 N ts,<- UZ,<- UZ,xb (hs ts),g1 (N + c2) (⟨n,b2,e⟩ :: ts)]
  rfl
 | late =>
  refine ⟨c1 + 1,fun N ts=>?_⟩
  rw [<- UZ,xb (hs ts),g1 N (⟨n,b2,e⟩ :: ts)]
  rfl
 | fault w =>
  refine ⟨c1 + 1,fun N ts=>?_⟩
  rw [<- UZ,xb (hs ts),g1 N (⟨n,b2,e⟩ :: ts)]
  rfl
theorem Big.askL {kv:Kvs} {ds:Dfl} {st:Int} {b2:Bd} {e:En} {k:Nat} {n x:Str} {ns:List Str} {a:Str × List Str × Bd} (h:(k:Int)=st) (ha:askD kv ds (prt e x) ns.length=some a):Big kv ds st (.lt n (.ask x ns) b2) e k .late:=⟨1,fun N ts=>by rw [mrun,stp,ha]; dsimp only; rw [if_pos h]; rfl⟩
def lets:List (Str × Dx)->Bd->Bd
 | [],b=>b
 | (n,d) :: r,b=>.lt n d (lets r b)
abbrev Df:=Str × List Str × Bd
abbrev Zn:=Df->List (List V)->Nat->Ou
def dO (kv:Kvs) (ds:Dfl) (st:Int) (call:Zn) (e:En) (k:Nat):Dx->Ou
 | .dd d=>match outE e d with
  | .inl f=>.ret f k
  | .inr w=>.fault w
 | .fn g ns=>.ret (.str (ftag g ns.length) :: (ns.map (prt e)).flatten) k
 | .call g ns=>if (k:Int)=st then .late else match dfOf ds g with
  | some a=>call a (ns.map (prt e)) (k + 1)
  | none=>.fault ""
 | .ask x ns=>match askD kv ds (prt e x) ns.length with
  | none=>.fault "nofunc"
  | some a=>if (k:Int)=st then .late else call a (pcs kv 1 (prt e x).tail [] ++ ns.map (prt e)) (k + 1)
def endO (kv:Kvs) (e:En) (k:Nat):Bd->Ou
 | .give x=>.ret (prt e x) k
 | .iff x (.give y) (.give z)=>match nf (prt e x) with
  | some i=>.ret (prt e (if i≠0 then y else z)) k
  | none=>.fault "nonumber"
 | .cs x as=>match fnd as (tgf (prt e x)) with
  | none=>.fault "noshape"
  | some a=>match a.2.2 with
   | .give y=>.ret (prt (putA e a.2.1 (pcs kv 1 (prt e x).tail [])) y) k
   | _=>.fault ""
 | _=>.fault ""
def YW:Bd->Prop
 | .give _=>True
 | .iff _ b c=>(∃ y,b=.give y)/\∃ z,c=.give z
 | .cs _ as=>∀ a∈as.hs,∃ y,a.2.2=.give y
 | .lt _ _ _=>False
def evR (kv:Kvs) (ds:Dfl) (st:Int) (call:Zn):List (Str × Dx)->Bd->En->Nat->Ou
 | [],b,e,k=>endO kv e k b
 | (n,d) :: r,b,e,k=>Zm (dO kv ds st call e k d) fun f k1=>evR kv ds st call r b (putE e n f) k1
abbrev Rws:=Str->List (Str × Dx) × Bd
def evD (kv:Kvs) (ds:Dfl) (st:Int) (rw_:Rws):Nat->Zn
 | 0=>fun _ _ _=>.fault ""
 | n + 1=>fun a xs k=>evR kv ds st (evD kv ds st rw_ n) (rw_ a.1).1 (rw_ a.1).2 (a.2.1.zip xs) k
theorem qo {kv:Kvs} {ds:Dfl} {st:Int} {e:En} {k:Nat}:∀ {b:Bd},YW b->Big kv ds st b e k (endO kv e k b)
 | .give x,_=>Big.give
 | .iff x b c,⟨⟨y,hy⟩,z,hz⟩=>by
  subst hy hz
  rw [endO]
  cases h:nf (prt e x) with
  | none=>exact Big.flt fun ts=>by rw [stp,h]
  | some i =>
   by_cases c0:i≠0
   ·dsimp only
    rw [if_pos c0]
    exact Big.go (fun ts=>by rw [stp,h]; exact if_pos c0) Big.give
   ·dsimp only
    rw [if_neg c0]
    exact Big.go (fun ts=>by rw [stp,h]; exact if_neg c0) Big.give
 | .cs x as,ha=>by
  rw [endO]
  cases h:fnd as (tgf (prt e x)) with
  | none=>exact Big.flt fun ts=>by rw [stp,h]
  | some a =>
   obtain ⟨y,hy⟩:=ha a (uH h)
   dsimp only
   rw [hy]
   refine Big.go (b':=.give y) (e':=putA e a.2.1 (pcs kv 1 (prt e x).tail [])) (k':=k) (fun ts=>?_) Big.give
   rw [stp,h]
   dsimp only
   rw [hy]
theorem xp {kv:Kvs} {ds:Dfl} {st:Int} {call:Zn} {k0:Nat} (hc:∀ a∈ds,∀ (xs:List (List V)) (k:Nat),k0 < k->(k:Int)<=st->Big kv ds st a.2.2 (a.2.1.zip xs) k (call a xs k)) (hm:∀ a∈ds,∀ (xs:List (List V)) (k:Nat) (f:List V) (k1:Nat),(k:Int)<=st->call a xs k=.ret f k1->(k1:Int)<=st/\k<=k1):∀ {r:List (Str × Dx)} {b:Bd} {e:En} {k:Nat},YW b->k0<=k->(k:Int)<=st->Big kv ds st (lets r b) e k (evR kv ds st call r b e k)
 | [],b,e,k,hb,_,_=>qo hb
 | (n,d) :: r,b,e,k,hb,h0,hk=>by
  show Big kv ds st (.lt n d (lets r b)) e k _
  rw [evR]
  cases d with
  | dd d =>
   rw [dO]
   cases h:outE e d with
   | inl f=>exact Big.go (fun ts=>by rw [stp,h]) (xp hc hm hb h0 hk)
   | inr w=>exact Big.flt fun ts=>by rw [stp,h]
  | fn g ns=>exact Big.go (fun ts=>rfl) (xp hc hm hb h0 hk)
  | call g ns =>
   rw [dO]
   by_cases c:(k:Int)=st
   ·rw [if_pos c]
    exact Big.lateC c
   ·rw [if_neg c]
    cases ha:dfOf ds g with
    | none=>exact Big.flt fun ts=>by rw [stp,if_neg c,ha]
    | some a=>exact Big.callT c ha (hc a (uH ha) _ _ (by lia) (by lia)) fun f k1 ho=>let z:=hm a (uH ha) _ _ f k1 (by lia) ho; xp hc hm hb (by lia) z.1
  | ask x ns =>
   rw [dO]
   cases ha:askD kv ds (prt e x) ns.length with
   | none=>exact Big.flt fun ts=>by rw [stp,ha]
   | some a =>
    dsimp only
    by_cases c:(k:Int)=st
    ·rw [if_pos c]
     exact Big.askL c ha
    ·rw [if_neg c]
     have am:a∈ds:=by
      unfold askD at ha
      split at ha
      ·split at ha
       ·rename_i h2
        split at ha
        ·cases ha; exact uH h2
        ·cases ha
       ·cases ha
      ·cases ha
     exact Big.askT c ha (hc a am _ _ (by lia) (by lia)) fun f k1 ho=>let z:=hm a am _ _ f k1 (by lia) ho; xp hc hm hb (by lia) z.1
theorem VI {kv:Kvs} {ds:Dfl} {f:List V} {m:Nat} {a:Df} (ha:askD kv ds f m=some a):a∈ds:=by
 unfold askD at ha
 split at ha
 ·split at ha
  ·rename_i h2
   split at ha
   ·cases ha; exact uH h2
   ·cases ha
  ·cases ha
 ·cases ha
theorem VJ {kv:Kvs} {ds:Dfl} {st:Int} {call:Zn} (hm:∀ a∈ds,∀ (xs:List (List V)) (k:Nat) (f:List V) (k1:Nat),(k:Int)<=st->call a xs k=.ret f k1->(k1:Int)<=st/\k<=k1):∀ {r:List (Str × Dx)} {b:Bd} {e:En} {k:Nat} {f:List V} {k1:Nat},(k:Int)<=st->evR kv ds st call r b e k=.ret f k1->(k1:Int)<=st/\k<=k1
 | [],b,e,k,f,k1,hk,h=>by
  rw [evR] at h
  unfold endO at h
  split at h
  ·cases h; exact ⟨hk,ui _⟩
  ·split at h
   ·cases h; exact ⟨hk,ui _⟩
   ·cases h
  ·split at h
   ·cases h
   ·split at h
    ·cases h; exact ⟨hk,ui _⟩
    ·cases h
  ·cases h
 | (n,d) :: r,b,e,k,f,k1,hk,h=>by
  rw [evR] at h
  have key:∀ f' k',dO kv ds st call e k d=.ret f' k'->(k':Int)<=st/\k<=k':=fun f' k' hd=>by
   cases d with
   | dd d =>
    rw [dO] at hd
    split at hd
    ·cases hd; exact ⟨hk,ui _⟩
    ·cases hd
   | fn g ns=>cases hd; exact ⟨hk,ui _⟩
   | call g ns =>
    rw [dO] at hd
    split at hd
    ·cases hd
    ·split at hd
     ·rename_i c _ a ha
      have z:=hm a (uH ha) _ _ _ _ (by lia) hd
      exact ⟨z.1,by lia⟩
     ·cases hd
   | ask x ns =>
    rw [dO] at hd
    split at hd
    ·cases hd
    ·split at hd
     ·cases hd
     ·rename_i ha c
      have z:=hm _ (VI ha) _ _ _ _ (by lia) hd
      exact ⟨z.1,by lia⟩
  cases hd:dO kv ds st call e k d with
  | ret f' k' =>
   rw [hd] at h
   have z:=key f' k' hd
   have y:=VJ hm z.1 h
   exact ⟨y.1,by lia⟩
  | late=>rw [hd] at h; cases h
  | fault w=>rw [hd] at h; cases h
def RwOk (ds:Dfl) (rw_:Rws):Prop:=∀ a∈ds,a.2.2=lets (rw_ a.1).1 (rw_ a.1).2/\YW (rw_ a.1).2
theorem VL {kv:Kvs} {ds:Dfl} {st:Int} {rw_:Rws}:∀ {n:Nat},∀ a∈ds,∀ (xs:List (List V)) (k:Nat) (f:List V) (k1:Nat),(k:Int)<=st->evD kv ds st rw_ n a xs k=.ret f k1->(k1:Int)<=st/\k<=k1
 | 0,a,_,xs,k,f,k1,_,h=>by cases h
 | n + 1,a,_,xs,k,f,k1,hk,h=>VJ (fun a ha xs k f k1 hk h=>VL (n:=n) a ha xs k f k1 hk h) hk h
theorem VM {kv:Kvs} {ds:Dfl} {st:Int} {rw_:Rws} (ho:RwOk ds rw_):∀ (n:Nat),∀ a∈ds,∀ (xs:List (List V)) (k:Nat),(k:Int)<=st->st<=(k:Int) + n->Big kv ds st a.2.2 (a.2.1.zip xs) k (evD kv ds st rw_ (n + 1) a xs k)
 | n,a,ha,xs,k,hk,hn=>by
  obtain ⟨e1,e2⟩:=ho a ha
  rw [e1]
  refine xp (k0:=k) (fun a' ha' xs' k' h1 h2=>?_) (fun a ha xs k f k1 hk h=>VL a ha xs k f k1 hk h) e2 (ui _) hk
  cases n with
  | zero=>lia
  | succ n=>exact VM ho n a' ha' xs' k' h2 (by lia)
end GN
namespace GN
open PySem L2 K11
theorem vJ {m:Nat}:∀ (fs:List (List V)) (n:Nat),n<=m->((fs.map (·.take m)).flatten).take n=fs.flatten.take n
 | [],n,_=>rfl
 | f :: fs,n,h=>by
  rw [uP,Uo,Uo,List.take_append,List.take_append]
  by_cases c:f.length<=m
  ·rw [uE c,vJ fs (n - f.length) (by lia)]
  ·have e1:(f.take m).take n=f.take n:=by rw [List.take_take,Nat.min_eq_left h]
   have e2:n - (f.take m).length=0:=by rw [uR]; lia
   have e3:n - f.length=0:=by lia
   rw [e1,e2,e3,List.take_zero,List.take_zero]
theorem yD (kvs:Kvs) (x:V) (xs:List V):hgt kvs (x :: xs)=match hgt kvs xs,dl kvs x with
  | some n,some s=>if s<=n then some (n - s + 1) else none
  | _,_=>none:=rfl
theorem qp {kvs:Kvs} {x:V} {r:List V} {n:Nat} (h:hgt kvs (x :: r)=some n):1<=n:=by
 rw [yD] at h
 split at h
 ·split at h
  ·cases h; lia
  ·cases h
 ·cases h
theorem YX {kv:Kvs}:∀ {f:List V} {m n:Nat} {ys acc:List V},hgt kv f=some m->1<=m->m<=n->pcs kv n (f ++ ys) acc=if m=n then (acc ++ f) :: pcs kv 1 ys [] else pcs kv (n - m) ys (acc ++ f)
 | [],m,n,ys,acc,h,h1,_=>by cases h; lia
 | x :: f,m,n,ys,acc,h,h1,h2=>by
  rw [yD] at h
  cases e1:hgt kv f with
  | none=>rw [e1] at h; cases h
  | some m' =>
   rw [e1] at h
   cases e2:dl kv x with
   | none=>rw [e2] at h; cases h
   | some s =>
    rw [e2] at h
    dsimp only at h
    by_cases c:s<=m'
    ·rw [if_pos c] at h
     cases h
     rw [Uc,wY,e2]
     show (if n - 1 + s=0 then _ else pcs kv (n - 1 + s) (f ++ ys) (acc ++ [x]))=_
     cases f with
     | nil =>
      cases e1
      have:s=0:=by lia
      subst this
      by_cases c1:n=1
      ·rw [if_pos (by lia),if_pos (by lia)]
       rfl
      ·rw [if_neg (by lia),if_neg (by lia)]
       rfl
     | cons y f =>
      have hp:=qp e1
      rw [if_neg (by lia),YX e1 hp (by lia),uG]
      by_cases c1:m' - s + 1=n
      ·rw [if_pos (by lia),if_pos c1]
       rfl
      ·rw [if_neg (by lia),if_neg c1,show n - 1 + s - m'=n - (m' - s + 1) by lia]
       rfl
    ·rw [if_neg c] at h
     cases h
theorem Zo {kv:Kvs}:∀ {fs:List (List V)},(∀ f∈fs,hgt kv f=some 1)->pcs kv 1 fs.flatten []=fs
 | [],_=>rfl
 | f :: fs,h=>by
  rw [Uo,YX (h f (uo ..)) (ui 1) (ui 1),if_pos rfl,Zo fun g hg=>h g (ut _ hg)]
  rfl
theorem YY {kv:Kvs}:∀ {xs ys:List V} {a b:Nat},hgt kv xs=some a->hgt kv ys=some b->hgt kv (xs ++ ys)=some (a + b)
 | [],ys,a,b,h,g=>by cases h; rw [List.nil_append,g,Nat.zero_add]
 | x :: xs,ys,a,b,h,g=>by
  rw [yD] at h
  cases e1:hgt kv xs with
  | none=>rw [e1] at h; cases h
  | some m' =>
   rw [e1] at h
   cases e2:dl kv x with
   | none=>rw [e2] at h; cases h
   | some s =>
    rw [e2] at h
    dsimp only at h
    by_cases c:s<=m'
    ·rw [if_pos c] at h
     cases h
     rw [Uc,yD,YY e1 g,e2]
     dsimp only
     rw [if_pos (by lia)]
     congr 1
     lia
    ·rw [if_neg c] at h
     cases h
theorem Zp {kv:Kvs}:∀ {fs:List (List V)},(∀ f∈fs,hgt kv f=some 1)->hgt kv fs.flatten=some fs.length
 | [],_=>rfl
 | f :: fs,h=>by
  rw [Uo,YY (h f (uo ..)) (Zp fun g hg=>h g (ut _ hg)),uD,Nat.add_comm]
theorem YZ {kv:Kvs} {t:Str} {fs:List (List V)} (ht:szOf kv t=some fs.length) (h:∀ f∈fs,hgt kv f=some 1):hgt kv (.str t :: fs.flatten)=some 1:=by
 rw [yD,Zp h,show dl kv (.str t)=some fs.length from ht]
 dsimp only
 rw [if_pos (ui _),UP]
inductive LV (kv:Kvs) (ds:Dfl) (ct:Addr) (H:Hp):V->List V->Prop
 | pl {p l:Addr} {x:V} {r:List V}:H p=some (.tup [.ref l,.str ""])->H l=some (.lst ((x :: r).take 100))->l≠ct->(∀ m,askD kv ds (x :: r) m=none)->(∀ y∈x :: r,At y)->hgt kv (x :: r)=some 1->LV kv ds ct H (.ref p) (x :: r)
 | fn {p l lv:Addr} {g:Str} {vs:List V} {fs:List (List V)} {a:Df}:H p=some (.tup [.ref l,.str g,.ref lv])->H l=some (.lst ((.str (ftag g fs.length) :: fs.flatten).take 100))->H lv=some (.lst vs)->l≠ct->lv≠ct->vs.length=fs.length->fs.length<=9->(∀ (i:Nat) v f,vs[i]?=some v->fs[i]?=some f->LV kv ds ct H v f)->dfOf ds g=some a->g≠""->(∀ m,askD kv ds (.str (ftag g fs.length) :: fs.flatten) m=if fs.length + m=a.2.1.length then some a else none)->szOf kv (ftag g fs.length)=some fs.length->LV kv ds ct H (.ref p) (.str (ftag g fs.length) :: fs.flatten)
theorem LV.kx {kv:Kvs} {ds:Dfl} {ct:Addr} {H H':Hp} {v:V} {f:List V} (h:LV kv ds ct H v f) (k:KX [ct] H H') (hc:∃ xs,H ct=some (.lst xs)):LV kv ds ct H' v f:=by
 have tu:∀ p xs,H p=some (.tup xs)->H' p=some (.tup xs):=fun p xs e=>k _ _ (fun z=>by
  obtain ⟨ys,hy⟩:=hc
  rw [uh.mp z,hy] at e
  cases e) e
 induction h with
 | pl a b c d e e'=>exact .pl (tu _ _ a) (k _ _ (fun z=>c (uh.mp z)) b) c d e e'
 | fn a b c d e f1 f2 _ g1 g2 g3 g4 ih=>exact .fn (tu _ _ a) (k _ _ (fun z=>d (uh.mp z)) b) (k _ _ (fun z=>e (uh.mp z)) c) d e f1 f2 ih g1 g2 g3 g4
theorem LV.same {kv:Kvs} {ds:Dfl} {ct:Addr} {H H':Hp} {v:V} {f:List V} (h:LV kv ds ct H v f) (s:Same H H'):LV kv ds ct H' v f:=by
 induction h with
 | pl a b c d e e'=>exact .pl (s _ _ a) (s _ _ b) c d e e'
 | fn a b c d e f1 f2 _ g1 g2 g3 g4 ih=>exact .fn (s _ _ a) (s _ _ b) (s _ _ c) d e f1 f2 ih g1 g2 g3 g4
theorem LV.at {kv:Kvs} {ds:Dfl} {ct:Addr} {H:Hp} {v:V} {f:List V} (h:LV kv ds ct H v f):∀ y∈f,At y:=by
 induction h with
 | pl a b c d e _=>exact e
 | @fn p l lv g vs fs a a1 b c d e f1 f2 hv g1 g2 g3 g4 ih =>
  intro y hy
  rcases uq.mp hy with rfl | hy
  ·trivial
  ·obtain ⟨f,hf,hy⟩:=List.mem_flatten.mp hy
   obtain ⟨i,hi⟩:=Ud hf
   have hl:=(ud.mp hi).1
   exact ih i _ f (ug (by lia)) hi y hy
theorem LV.hg {kv:Kvs} {ds:Dfl} {ct:Addr} {H:Hp} {v:V} {f:List V} (h:LV kv ds ct H v f):hgt kv f=some 1:=by
 induction h with
 | pl a b c d e e'=>exact e'
 | @fn p l lv g vs fs a a1 b c d e f1 f2 hv g1 g2 g3 g4 ih =>
  refine YZ g4 fun f hf=>?_
  obtain ⟨i,hi⟩:=Ud hf
  have hl:=(ud.mp hi).1
  exact ih i _ f (ug (by lia)) hi
theorem LV.fst {kv:Kvs} {ds:Dfl} {ct:Addr} {H:Hp} {v:V} {f:List V} (h:LV kv ds ct H v f):∃ p l r x t,v=.ref p/\H p=some (.tup (.ref l :: r))/\H l=some (.lst (f.take 100))/\f=x :: t:=by
 cases h with
 | pl a b c d e _=>exact ⟨_,_,_,_,_,rfl,a,b,rfl⟩
 | fn a b c d e f1 f2 hv g1 g2 g3 g4=>exact ⟨_,_,_,_,_,rfl,a,b,rfl⟩
def Zq:Sp:=fun vs H Q _=>∃ (t:Str) (lv:Addr) (us:List V) (fs:List (List V)),vs=[.str t,.ref lv]/\H lv=some (.lst us)/\us.length=fs.length/\fs.length<=9/\(∀ (i:Nat) v f,us[i]?=some v->fs[i]?=some f->∃ p l r,v=.ref p/\H p=some (.tup (.ref l :: r))/\H l=some (.lst (f.take 100))) /\
 ∀ H' l,Same H H'->H l=none->H' l=some (.lst ((.str t :: fs.flatten).take 100))->Q (.ref l) H'
theorem qt (fs:List (List V)):((fs.map (·.take 100)).flatten).length<=100 * fs.length:=by
 induction fs with
 | nil=>exact u6 _
 | cons f fs ih=>rw [uP,Uo,uf,uR,uD]; lia
section
variable {P:Program} {w:World} {K:ua} {mg:Str->Option Value} {base:Heap} {f:Addr} {fd:FuncData}
theorem scJoined:FnScope ["_law_tag","_law_values","_law_parts","_law_value"] ["_law_tag","_law_values"] (zp jj):=⟨rfl,rfl,rfl,by decide +kernel,rfl,by decide +kernel,by decide +kernel⟩
theorem XS (F:Fun K "_law_joined" "_law_joined" jj f fd):FnOk P w K mg base CX0 1 f fd ["_law_tag","_law_values"] Zq:=by
 refine F.by scJoined (fun vs H Q E h=>?_) (fun cdv A outer s H vs Q E hr h=>?_)
 ·obtain ⟨t,lv,us,fs,rfl,_⟩:=h
  rfl
 obtain ⟨t,lv,us,fs,rfl,hlv,lu,l9,hv,q⟩:=h
 refine ⟨_,
  (zi (zv (i:=2) scJoined.nd rfl (Or.inl rfl) (zZ (ja_c (jv 0) zg)))
  (zi (yE PassesOwn.never rfl (yx (jv 1)) (zD (i:=3) scJoined.nd rfl (Or.inl rfl))
   (zk (zv (i:=2) scJoined.nd rfl (Or.inl rfl) (zF ZI (jv 2) (zq zr (jv 3) zh (fun _ _=>rfl))))))
  (zk (zx (xk xR (jv 2) xO (xP zh)))))),?_⟩
 have sl:=zQ
 refine ⟨_,rfl,by show 1<=sizeLine; decide,fun p0 h0=>?_⟩
 have s0:=same_new h0 (.lst [.str t])
 refine ⟨_,rfl,lv,rfl,⟨_,SqL.of (s0 _ _ hlv)⟩,wE (xs:=us) (fun i σ H'=>Same H H'/\∃ (p:Addr) (v3:Option V),σ=[some (.str t),some (.ref lv),some (.ref p),v3]/\H' p=some (.lst (.str t :: ((fs.take i).map (·.take 100)).flatten))) ⟨s0,p0,none,rfl,zf⟩ (fun i σ H' _ h=>SqL.of (h.1 _ _ hlv)) ?_ ?_⟩
 ·rintro i v σ H1 hu ⟨s1,p,v3,rfl,hp⟩
  have hi:=(ud.mp hu).1
  have hf:fs[i]?=some (fs[i]'(by lia)):=ug _
  generalize fs[i]'(by lia)=ff at hf
  obtain ⟨pv,l,r,rfl,h1,h2⟩:=hv i v ff hu hf
  have ln:=qt (fs.take i)
  rw [uR] at ln
  refine ⟨_,rfl,_,rfl,ixT (s1 _ _ h1) (zj (j:=0) rfl) ⟨p,l,_,_,rfl,rfl,hp,s1 _ _ h2,by rw [uD,uR]; lia,fun p3 h3=>⟨s1.new h3,p3,_,rfl,?_⟩⟩⟩
  have e1:fs.take (i + 1)=fs.take i ++ [ff]:=by rw [Ux,hf]; rfl
  rw [zf,e1,uF,List.flatten_append,Uc]
  show some (HO.lst (_ :: (_ ++ _)))=some (HO.lst (_ :: (_ ++ [ff.take 100].flatten)))
  rw [List.flatten_singleton]
 ·rintro σ H1 ⟨s1,p,v3,rfl,hp⟩
  rw [lu,uE (ui _)] at hp
  refine ⟨_,rfl,_,rfl,p,_,rfl,SqL.of hp,fun l hl=>q _ l (s1.new hl) (s1.free hl) ?_⟩
  rw [zf,Va (by decide)]
  show some (HO.lst ((V.str t :: (fs.map (·.take 100)).flatten).take 100))=_
  rw [show (100:Nat)=99 + 1 from rfl,UH,UH]
  rw [vJ fs 99 (by decide)]
end
end GN
namespace GN
open PySem L2 K11
def DfL (H:Hp) (d:Addr) (ds:Dfl):Prop:=∃ dks,H d=some (.dK dks)/\∀ g a,dfOf ds g=some a->∃ one pp pb,valV dks (.inr g)=some (.ref one)/\H one=some (.tup [.str g,.ref pp,.ref pb])/\H pp=some (.tup (a.2.1.map V.str))/\IsBd H a.2.2 pb
theorem Qh {ct:Addr} {H H':Hp} (k:KX [ct] H H') (hc:∃ xs,H ct=some (.lst xs)):Tups H H':=fun p xs e=>k _ _ (fun z=>by
 obtain ⟨ys,hy⟩:=hc
 rw [uh.mp z,hy] at e
 cases e) e
theorem Qi {ct:Addr} {H H':Hp} (k:KX [ct] H H') (hc:∃ xs,H ct=some (.lst xs)):∀ d ks,H d=some (.dK ks)->H' d=some (.dK ks):=fun p xs e=>k _ _ (fun z=>by
 obtain ⟨ys,hy⟩:=hc
 rw [uh.mp z,hy] at e
 cases e) e
theorem DfL.kx {ct d:Addr} {H H':Hp} {ds:Dfl} (h:DfL H d ds) (k:KX [ct] H H') (hc:∃ xs,H ct=some (.lst xs)):DfL H' d ds:=by
 obtain ⟨dks,a,b⟩:=h
 refine ⟨dks,Qi k hc _ _ a,fun g x hx=>?_⟩
 obtain ⟨one,pp,pb,c1,c2,c3,c4⟩:=b g x hx
 have tu:=Qh k hc
 exact ⟨one,pp,pb,c1,tu _ _ c2,tu _ _ c3,c4.keep tu⟩
def ResL (kv:Kvs) (ds:Dfl) (ct:Addr) (st:Int) (H:Hp) (Q:VK):Ou->Prop
 | .ret f k1=>∀ H' p v,KX [ct] H H'->H' ct=some (.lst [.int (k1:Nat),.int st])->H' p=some (.tup [.bl true,v])->LV kv ds ct H' v f->Q (.ref p) H'
 | .late=>∀ H' p q,KX [ct] H H'->H' p=some (.tup [.bl false,.ref q])->H' q=some (.tup [.str "late",.int st])->Q (.ref p) H'
 | .fault w=>∀ H' p q,KX [ct] H H'->H' p=some (.tup [.bl false,.ref q])->H' q=some (.tup [.str "fault",.str w])->Q (.ref p) H'
theorem ResL.at {kv:Kvs} {ds:Dfl} {ct:Addr} {st:Int} {H H1:Hp} {Q:VK} (k:KX [ct] H H1):∀ {o:Ou},ResL kv ds ct st H Q o->ResL kv ds ct st H1 Q o
 | .ret f k1,h=>fun H' p v k'=>h H' p v (k.trans k')
 | .late,h=>fun H' p q k'=>h H' p q (k.trans k')
 | .fault w,h=>fun H' p q k'=>h H' p q (k.trans k')
def D37 (ds:Dfl):Dx->Prop
 | .dd (.num _)=>True
 | .dd (.op _ _ _)=>False
 | .dd (.mk t _)=>noBl t
 | .fn g _=>g≠""/\∃ a,dfOf ds g=some a
 | _=>True
def End37:Bd->Prop
 | .give _=>True
 | .iff _ b c=>(∃ y,b=.give y)/\∃ z,c=.give z
 | .cs _ as=>as.hs.length<=100/\∀ a∈as.hs,∃ y,a.2.2=.give y/\y ∉ a.2.1
 | .lt _ _ _=>False
theorem End37.e:∀ {b:Bd},End37 b->YW b
 | .give _,h=>h
 | .iff _ _ _,h=>h
 | .cs _ as,h=>fun a ha=>let ⟨y,e,_⟩:=h.2 a ha; ⟨y,e⟩
structure Pr37 (kv:Kvs) (ds:Dfl) (rw_:Rws):Prop where
 rb:∀ a∈ds,a.2.2=lets (rw_ a.1).1 (rw_ a.1).2/\End37 (rw_ a.1).2
 tg:TagOk kv ds
 ok:∀ a∈ds,a.2.1.Nodup/\a.2.1.length<=9/\OkX kv ds a.2.1 a.2.2
 dk:∀ a∈ds,∀ p∈(rw_ a.1).1,D37 ds p.2
 ln:∀ a∈ds,(rw_ a.1).1.length<=20
def LVs (kv:Kvs) (ds:Dfl) (ct:Addr) (H:Hp) (vs:List V) (xs:List (List V)):Prop:=vs.length=xs.length/\∀ (i:Nat) v f,vs[i]?=some v->xs[i]?=some f->LV kv ds ct H v f
theorem LVs.kx {kv:Kvs} {ds:Dfl} {ct:Addr} {H H':Hp} {vs:List V} {xs:List (List V)} (h:LVs kv ds ct H vs xs) (k:KX [ct] H H') (hc:∃ xs,H ct=some (.lst xs)):LVs kv ds ct H' vs xs:=⟨h.1,fun i v f h1 h2=>(h.2 i v f h1 h2).kx k hc⟩
theorem LVs.same {kv:Kvs} {ds:Dfl} {ct:Addr} {H H':Hp} {vs:List V} {xs:List (List V)} (h:LVs kv ds ct H vs xs) (s:Same H H'):LVs kv ds ct H' vs xs:=⟨h.1,fun i v f h1 h2=>(h.2 i v f h1 h2).same s⟩
theorem LVs.app {kv:Kvs} {ds:Dfl} {ct:Addr} {H:Hp} {vs us:List V} {xs ys:List (List V)} (h:LVs kv ds ct H vs xs) (g:LVs kv ds ct H us ys):LVs kv ds ct H (vs ++ us) (xs ++ ys):=⟨by rw [uf,uf,h.1,g.1],fun i v f h1 h2=>by
 have:=h.1
 by_cases c:i < vs.length
 ·rw [uv c] at h1
  rw [uv (by lia)] at h2
  exact h.2 i v f h1 h2
 ·rw [uL (by lia)] at h1 h2
  rw [<- this] at h2
  exact g.2 _ v f h1 h2⟩
def Z9 (n:Nat):Sp:=fun us H Q _=>∃ (ct d vl:Addr) (k:Nat) (st:Int) (kv:Kvs) (ds:Dfl) (rw_:Rws) (g:Str) (a:Df) (vs:List V) (xs:List (List V)),us=[.ref ct,.ref d,.str g,.ref vl]/\H ct=some (.lst [.int (k:Nat),.int st])/\DfL H d ds/\Pr37 kv ds rw_/\dfOf ds g=some a/\H vl=some (.lst vs)/\LVs kv ds ct H vs xs/\a.2.1.length=xs.length/\(k:Int)<=st/\st<=(k:Int) + n/\ResL kv ds ct st H Q (evD kv ds st rw_ (n + 1) a xs k)
def jx (n:Nat):Sp:=fun us H Q _=>∃ (ct d vl:Addr) (k:Nat) (st:Int) (kv:Kvs) (ds:Dfl) (rw_:Rws) (g:Str) (a:Df) (vs:List V) (xs:List (List V)),us=[.ref ct,.ref d,.str g,.ref vl]/\H ct=some (.lst [.int (k:Nat),.int st])/\DfL H d ds/\Pr37 kv ds rw_/\dfOf ds g=some a/\H vl=some (.lst vs)/\LVs kv ds ct H vs xs/\vl≠ct/\a.2.1.length=xs.length/\(k:Int)<=st/\st<=(k:Int) + n/\ResL kv ds ct st H Q (if (k:Int)=st then .late else evD kv ds st rw_ n a xs (k + 1))
section
variable {P:Program} {w:World} {K:ua} {mg:Str->Option Value} {base:Heap} {f:Addr} {fd:FuncData}
theorem Y0:FnScope ["_law_count","_law_defs","_law_name_here","_law_values"] ["_law_count","_law_defs","_law_name_here","_law_values"] (zp jk):=⟨rfl,rfl,rfl,by decide +kernel,rfl,by decide +kernel,by decide +kernel⟩
theorem XT (F:Fun K "_law_call" "_law_call" jk f fd) {lv:Nat} (hlv:1<=lv):FnOk P w K mg base CX0 lv f fd ["_law_count","_law_defs","_law_name_here","_law_values"] (jx 0):=by
 obtain ⟨lv,rfl⟩:∃ m,lv=m + 1:=⟨lv - 1,by lia⟩
 refine F.by Y0 (fun vs H Q E h=>?_) (fun cdv A outer s H vs Q E hr h=>?_)
 ·obtain ⟨ct,d,vl,k,st,kv,ds,rw_,g,a,us,xs,rfl,_⟩:=h
  rfl
 obtain ⟨ct,d,vl,k,st,kv,ds,rw_,g,a,us,xs,rfl,hct,hd,hP,ha,hvl,hvs,nvl,ll,hk,hn,q⟩:=h
 refine ⟨_,
  (zi (zH (zt zL (zq zE (jv 0) zh (fun _ _=>rfl)) (zq zE (jv 0) zh (fun _ _=>rfl)) (zw _))
   (zk (zx (zB (ja_c xf (ja_c (zB (ja_c zu (ja_c (zq zE (jv 0) zh (fun _ _=>rfl)) zg))) zg)))))  zA)
  (zi yW (zk yW))),?_⟩
 have sl:=zQ
 have c:(k:Int)=st:=by lia
 rw [if_pos c] at q
 refine ⟨_,rfl,ixL hct (zj (j:=0) rfl) ⟨_,rfl,ixL hct (zj (j:=1) rfl) ⟨rfl,_,rfl,zV (decide_eq_true (by rw [c])) ?_⟩⟩⟩
 refine ⟨_,rfl,ixL hct (zj (j:=1) rfl) ⟨by show 2<=sizeLine; decide,fun t1 h1=>⟨by show 2<=sizeLine; decide,fun t2 h2=>?_⟩⟩⟩
 exact q _ t2 t1 (.of ((same_new h1 _).new h2)) zf (old h2 zf)
theorem yg {n lv:Nat} (F:Fun K "_law_call" "_law_call" jk f fd) (GR:Ca P w K mg base CX0 lv "_law_run" ["_law_count","_law_defs","_law_name_here","_law_values"] (Z9 n)):FnOk P w K mg base CX0 (lv + 1) f fd ["_law_count","_law_defs","_law_name_here","_law_values"] (jx (n + 1)):=by
 refine F.by Y0 (fun vs H Q E h=>?_) (fun cdv A outer s H vs Q E hr h=>?_)
 ·obtain ⟨ct,d,vl,k,st,kv,ds,rw_,g,a,us,xs,rfl,_⟩:=h
  rfl
 obtain ⟨ct,d,vl,k,st,kv,ds,rw_,g,a,us,xs,rfl,hct,hd,hP,ha,hvl,hvs,nvl,ll,hk,hn,q⟩:=h
 refine ⟨_,
  (zi (zH (zt zL (zq zE (jv 0) zh (fun _ _=>rfl)) (zq zE (jv 0) zh (fun _ _=>rfl)) (zw _))
   (zk (zx (zB (ja_c xf (ja_c (zB (ja_c zu (ja_c (zq zE (jv 0) zh (fun _ _=>rfl)) zg))) zg)))))  zA)
  (zi (x6 (zF yr (zq zE (jv 0) zh (fun _ _=>rfl)) zh) (jl (jv 0) zh))
  (zk (zx (zy GR hr rfl zC (ja_c (jv 0) (ja_c (jv 1) (ja_c (jv 2) (ja_c (jv 3) zg))))))))),?_⟩
 have sl:=zQ
 refine ⟨_,rfl,ixL hct (zj (j:=0) rfl) ⟨_,rfl,ixL hct (zj (j:=1) rfl) ⟨rfl,_,rfl,?_⟩⟩⟩
 by_cases c:(k:Int)=st
 ·rw [if_pos c] at q
  refine zV (decide_eq_true (by rw [c])) ?_
  refine ⟨_,rfl,ixL hct (zj (j:=1) rfl) ⟨by show 2<=sizeLine; decide,fun t1 h1=>⟨by show 2<=sizeLine; decide,fun t2 h2=>?_⟩⟩⟩
  exact q _ t2 t1 (.of ((same_new h1 _).new h2)) zf (old h2 zf)
 ·rw [if_neg c] at q
  refine zI (decide_eq_false fun z=>c (V.int.inj z)) (nxt ?_)
  refine ⟨_,rfl,ixL hct (zj (j:=0) rfl) ⟨_,_,rfl,rfl,_,rfl,ct,_,0,0,rfl,rfl,hct,rfl,?_⟩⟩
  have kx:KX [ct] H (upd H ct (.lst ([.int (k:Nat),.int st].set 0 (.int (((k:Nat):Int) + 1))))):=KX.refl.put (uh.mpr rfl)
  have hct1:upd H ct (.lst ([.int (k:Nat),.int st].set 0 (.int (((k:Nat):Int) + 1)))) ct=some (.lst [.int ((k + 1:Nat):Int),.int st]):=by rw [zf]; rfl
  exact ⟨_,rfl,_,rfl,_,rfl,_,rfl,ct,d,vl,k + 1,st,kv,ds,rw_,g,a,us,xs,rfl,hct1,hd.kx kx ⟨_,hct⟩,hP,ha,kx _ _ (fun z=>nvl (uh.mp z)) hvl,hvs.kx kx ⟨_,hct⟩,ll,by lia,by lia,q.at kx⟩
end
end GN
namespace GN
open PySem L2 K11
def OkDx (kv:Kvs) (ds:Dfl) (ks:List Str):Dx->Prop
 | .dd d=>OkD ks d/\OkZ kv d
 | .call g ns=>(∀ m∈ns,m∈ks)/\ns.length<=9/\∃ a,dfOf ds g=some a/\a.2.1.length=ns.length
 | .fn g ns=>OkO kv ks (.fn g ns)
 | .ask x ns=>x∈ks/\(∀ m∈ns,m∈ks)/\ns.length<=9
theorem zaB {kv:Kvs} {ds:Dfl} {ks:List Str} {n:Str} {d:Dx} {b:Bd} (h:OkX kv ds ks (.lt n d b)):OkDx kv ds ks d/\OkX kv ds (ks ++ [n]) b:=by
 cases d <;> (simp only [OkX] at h; exact h)
theorem qu (g:Str) (n:Nat):"func " ++ g ++ " " ++ numS n=ftag g n:=by
 refine xX ?_
 rw [yR,zP,zP,zP,show cl "func "=cl "func" ++ [32] by decide +kernel,show cl (" ":Str)=[32] by decide +kernel]
 simp only [uG,List.singleton_append]
 rfl
theorem Y1 {kv:Kvs} {ds:Dfl} {t:Str} {r:List V} (h:noBl t) (m:Nat):askD kv ds (.str t :: r) m=none:=by
 have:fnOf kv ds t=none:=UN.mpr fun a _ z=>by
  have z:=of_decide_eq_true z
  rw [z] at h
  exact YU _ _ h
 rw [askD,this]
theorem zaC {kv:Kvs} {ds:Dfl} {g:Str} {n:Nat} {a:Df} {r:List V} (tg:TagOk kv ds) (ha:dfOf ds g=some a) (hs:szOf kv (ftag g n)=some n) (m:Nat):askD kv ds (.str (ftag g n) :: r) m=if n + m=a.2.1.length then some a else none:=by
 have am:a∈ds:=uH ha
 have ag:a.1=g:=by simpa using UG ha
 have e:fnOf kv ds (ftag g n)=some a:=by
  cases h:fnOf kv ds (ftag g n) with
  | none =>
   have:=UN.mp h a am
   rw [hs] at this
   exact absurd (decide_eq_true (show ftag g n=ftag a.1 n by rw [ag])) this
  | some b =>
   have bm:b∈ds:=uH h
   have hb:ftag g n=ftag b.1 ((szOf kv (ftag g n)).getD 0):=by simpa using UG h
   rw [<- ag] at hb
   have:=Zj (tg.b a am) (tg.b b bm) hb
   have e1:=tg.n b bm
   rw [<- this,ag,ha] at e1
   exact e1.symm
 rw [askD,e]
 dsimp only
 rw [hs]
 rfl
def VN (n:Nat):Sp:=fun us H Q _=>∃ (ct d nd p:Addr) (k:Nat) (st:Int) (kv:Kvs) (ds:Dfl) (rw_:Rws) (kvs:List (Key × V)) (e:En) (ks:List Str) (dd:Dx),us=[.ref ct,.ref d,.ref nd,.ref p]/\H ct=some (.lst [.int (k:Nat),.int st])/\DfL H d ds/\Pr37 kv ds rw_/\H nd=some (.dK kvs)/\ER (LV kv ds ct H) kvs e/\Bnd ks e/\OkDx kv ds ks dd/\D37 ds dd/\IsDx H dd p/\(k:Int)<=st/\st<=(k:Int) + n/\ResL kv ds ct st H Q (dO kv ds st (evD kv ds st rw_ n) e k dd)
section
variable {P:Program} {w:World} {K:ua} {mg:Str->Option Value} {base:Heap} {f:Addr} {fd:FuncData}
theorem scDone:FnScope ["_law_count","_law_defs","_law_here","_law_deed_here","_law_values","_law_tag","_law_g"] ["_law_count","_law_defs","_law_here","_law_deed_here"] (zp WU):=⟨rfl,rfl,rfl,by decide +kernel,rfl,by decide +kernel,by decide +kernel⟩
theorem zaD:(["_law_count","_law_defs","_law_here","_law_deed_here","_law_values","_law_tag","_law_g","_law_name_here"]:List Str).Nodup:=by decide +kernel
theorem yp {n lv:Nat} (hlv:1<=lv) (F:Fun K "_law_done" "_law_done" WU f fd) (GJ:Ca P w K mg base CX0 1 "_law_joined" ["_law_tag","_law_values"] Zq) (GC:Ca P w K mg base CX0 lv "_law_call" ["_law_count","_law_defs","_law_name_here","_law_values"] (jx n)) (m_len:mg "len"=none) (m_str:mg "str"=none):FnOk P w K mg base CX0 (lv + 1) f fd ["_law_count","_law_defs","_law_here","_law_deed_here"] (VN n):=by
 refine F.by scDone (fun vs H Q E h=>?_) (fun cdv A outer s H vs Q E hr h=>?_)
 ·obtain ⟨ct,d,nd,p,k,st,kv,ds,rw_,kvs,e,ks,dd,rfl,_⟩:=h
  rfl
 obtain ⟨ct,d,nd,p,k,st,kv,ds,rw_,kvs,e,ks,dd,rfl,hct,hd,hP,hN,hE,hB,hO,hD37,hD,hk,hn,q⟩:=h
 have r1:Room 1 _:=hr.mono (by lia)
 refine ⟨_,
  (zi (zH (zt zL (zq zr (jv 3) zh (fun _ _=>rfl)) zu (zw _))
   (zk (zx (zB (ja_c xf (ja_c (zB (ja_c (zZ (ja_c (zq zr (jv 3) zh (fun _ _=>rfl)) zg)) (ja_c zu zg))) zg)))))  zA)
  (zi (y7 ["_law_name_here"] (i:=4) scDone.nd rfl (Or.inl rfl) rfl (xJ (zq zr (jv 3) zh (fun _ _=>rfl))) (fun _ _ _ _ _=>(zD (i:=7) zaD rfl (Or.inl rfl))) (fun _ _ _ _ _=>ya) (fun _ _ _ _ _=>(zX r1 (jv 2) (jv 7))))
  (zi (zH (zt zL (zq zr (jv 3) zh (fun _ _=>rfl)) zu (zw _))
   (zk (zx (zB (ja_c xf (ja_c (zB (ja_c (zy GJ r1 rfl zC (ja_c (zq zr (jv 3) zh (fun _ _=>rfl)) (ja_c (jv 4) zg))) (ja_c zu zg))) zg)))))  zA)
  (zi (zH (zt zL (zq zr (jv 3) zh (fun _ _=>rfl)) zu (zw _))
   (zi (zv (i:=5) scDone.nd rfl (Or.inl rfl) (zF yi (zF yi (zF yi zu (zq zr (jv 3) zh (fun _ _=>rfl))) zu) (yh ZL rfl m_str PyProof.Rows.boot_str (ja_c (zG zz rfl m_len uC (ja_c (jv 4) zg)) zg))))
   (zk (zx (zB (ja_c xf (ja_c (zB (ja_c (zy GJ r1 rfl zC (ja_c (jv 5) (ja_c (jv 4) zg))) (ja_c (zq zr (jv 3) zh (fun _ _=>rfl)) (ja_c (jv 4) zg)))) zg))))))  zA)
  (zi (zH (zt zL (zq zr (jv 3) zh (fun _ _=>rfl)) zu (zw _))
   (zk (zx (zy GC hr rfl zC (ja_c (jv 0) (ja_c (jv 1) (ja_c (zq zr (jv 3) zh (fun _ _=>rfl)) (ja_c (jv 4) zg)))))))  zA)
  (zi (zv (i:=6) scDone.nd rfl (Or.inl rfl) (zX r1 (jv 2) (zq zr (jv 3) zh (fun _ _=>rfl))))
  (zi (zH (jW.pt (wk (zt zL (zq zr (jv 6) zh (fun _ _=>rfl)) zu (zw _)) (xH (zt xQ (zF yr (zG zz rfl m_len uC (ja_c (zq zr (jv 6) zh (fun _ _=>rfl)) zg)) (zG zz rfl m_len uC (ja_c (jv 4) zg))) (zG zz rfl m_len uC (ja_c (zq zr (zX r1 (jv 1) (zq zr (jv 6) zh (fun _ _=>rfl))) zh (fun _ _=>rfl)) zg)) (zw _)))))
   (zk (zx (zB (ja_c xf (ja_c (zB (ja_c zu (ja_c zu zg))) zg)))))  zA)
  (zk (zx (zy GC hr rfl zC (ja_c (jv 0) (ja_c (jv 1) (ja_c (zq zr (jv 6) zh (fun _ _=>rfl)) (ja_c (zF ZI (zq zr (jv 6) zh (fun _ _=>rfl)) (jv 4)) zg)))))))))))))),?_⟩
 have sl:=zQ
 have shp:(∃ i,dd=.dd (.num i))\/∃ (z x:Str) (pq:Addr) (ns:List Str),z≠"num"/\H p=some (.tup [.str z,.str x,.ref pq])/\H pq=some (.tup (ns.map V.str))/\(∀ m∈ns,m∈ks)/\ns.length<=9/\((z="make"/\dd=.dd (.mk x ns))\/(z="func"/\dd=.fn x ns)\/(z="call"/\dd=.call x ns)\/(z="ask"/\dd=.ask x ns)):=by
  match dd,hO,hD37,hD with
  | .dd (.num i),_,_,_=>exact .inl ⟨i,rfl⟩
  | .dd (.op _ _ _),_,h,_=>exact h.elim
  | .dd (.mk t ns),hO,_,⟨pq,h1,h2⟩=>exact .inr ⟨"make",t,pq,ns,by decide +kernel,h1,h2,hO.1.1,hO.1.2,.inl ⟨rfl,rfl⟩⟩
  | .fn t ns,hO,_,⟨pq,h1,h2⟩=>exact .inr ⟨"func",t,pq,ns,by decide +kernel,h1,h2,hO.1,hO.2.1,.inr (.inl ⟨rfl,rfl⟩)⟩
  | .call t ns,hO,_,⟨pq,h1,h2⟩=>exact .inr ⟨"call",t,pq,ns,by decide +kernel,h1,h2,hO.1,hO.2.1,.inr (.inr (.inl ⟨rfl,rfl⟩))⟩
  | .ask t ns,hO,_,⟨pq,h1,h2⟩=>exact .inr ⟨"ask",t,pq,ns,by decide +kernel,h1,h2,hO.2.1,hO.2.2,.inr (.inr (.inr ⟨rfl,rfl⟩))⟩
 rcases shp with ⟨i,rfl⟩ | ⟨z,x,pq,ns,zn,hp,hpq,hns,l9,hz⟩
 ·have hD:H p=some (.tup [.str "num",.int i]):=hD
  refine ⟨_,rfl,ixT hD rfl ⟨rfl,_,rfl,zV (by decide +kernel) ?_⟩⟩
  refine ⟨_,rfl,ixT hD (zj (j:=1) rfl) ⟨by show 1<=sizeLine; decide,fun l hl=>⟨by show 2<=sizeLine; decide,fun t1 h1=>⟨by show 2<=sizeLine; decide,fun t2 h2=>?_⟩⟩⟩⟩
  have s2:=((same_new hl (.lst [.int i])).new (o:=.tup [.ref l,.str ""]) h1).new (o:=.tup [.bl true,.ref t1]) h2
  refine q _ t2 _ (.of s2) (s2 _ _ hct) zf (.pl (old h2 zf) (old h2 (old h1 zf)) (zo hct hl).symm (fun m=>rfl) (fun y hy=>by rw [uh.mp hy]; trivial) ?_)
  rw [yD,show dl kv (.int i)=some 0 from if_pos hO.1]
  rfl
 refine (show ∀ (u:TS) (D:Ends),(∀ (H1:Hp) (l4:Addr),Same H H1->H l4=none->H1 l4=some (.lst (vals kvs ns))->u D [some (.ref ct),some (.ref d),some (.ref nd),some (.ref p),some (.ref l4),none,none] H1)->(tSeq _ (tSeq _ u):TS) D [some (.ref ct),some (.ref d),some (.ref nd),some (.ref p),none,none,none] H from ?key) _ _ ?rest
 case key =>
  intro u D hU
  refine ⟨_,rfl,ixT hp (zj (j:=0) rfl) ⟨rfl,_,rfl,zI (decide_eq_false fun h=>zn (V.str.inj h)) (nxt ?_)⟩⟩
  refine ⟨_,rfl,ixT hp (zj (j:=2) rfl) ⟨pq,rfl,⟨_,SqT.of hpq⟩,ZP (K:=K) (xs:=ns.map V.str) (fun j τ ys H'=>H'=H/\(∃ v,τ=[some (.ref ct),some (.ref d),some (.ref nd),some (.ref p),none,none,none,v])/\ys=vals kvs (ns.take j)) ⟨rfl,⟨none,rfl⟩,rfl⟩ (fun j τ ys H' _ h=>by rw [h.1]; exact SqT.of hpq) ?_ ?_⟩⟩
  ·rintro j v τ ys H1 hv ⟨rfl,⟨u,rfl⟩,rfl⟩
   rw [uj] at hv
   obtain ⟨m,hm,rfl⟩:=uk.mp hv
   obtain ⟨fa,ea⟩:=hB.get (hns m (uu hm))
   obtain ⟨v,hv,_⟩:=hE.val ea
   refine ⟨_,rfl,_,rfl,nd,v,rfl,by rw [<- hv]; exact DGet.k (k:=.inr m) hN,?_,rfl,⟨_,rfl⟩,?_⟩
   ·unfold vals
    rw [ub,uR]
    lia
   ·unfold vals
    rw [Ux,hm,uF]
    show _=_ ++ [(valV kvs (.inr m)).getD .non]
    rw [hv]
    rfl
  ·rintro τ ys H1 ⟨rfl,_,rfl⟩ l hl'
   rw [ub,uE (ui _)]
   exact hU _ l (same_new hl' _) hl' zf
 case rest =>
  intro H1 l4 s1 f4 h4
  have lvs:LVs kv ds ct H1 (vals kvs ns) (ns.map (prt e)):=⟨by unfold vals; rw [ub,ub],fun j u xs h1 h2=>by
   unfold vals at h1
   rw [uj] at h1 h2
   obtain ⟨m,hm,rfl⟩:=uk.mp h1
   rw [hm] at h2
   have h2:some (prt e m)=some xs:=h2
   cases h2
   obtain ⟨fa,ea⟩:=hB.get (hns m (uu hm))
   obtain ⟨va,e1,e2⟩:=hE.val ea
   have:prt e m=fa:=by unfold prt; rw [ea]; rfl
   rw [e1,this]
   exact e2.same s1⟩
  have hp1:=s1 _ _ hp
  have hct1:=s1 _ _ hct
  have n4:l4≠ct:=(zo hct f4).symm
  have lmv:(ns.map (prt e)).length=ns.length:=ub ..
  have hgs:∀ f∈ns.map (prt e),hgt kv f=some 1:=fun f hf=>by
   obtain ⟨i,hi⟩:=Ud hf
   have hl:=(ud.mp hi).1
   have:=lvs.1
   exact (lvs.2 i _ f (ug (by lia)) hi).hg
  have hats:∀ y∈(ns.map (prt e)).flatten,At y:=fun y hy=>by
   obtain ⟨f,hf,hy⟩:=List.mem_flatten.mp hy
   obtain ⟨i,hi⟩:=Ud hf
   have hl:=(ud.mp hi).1
   have:=lvs.1
   exact (lvs.2 i _ f (ug (by lia)) hi).at y hy
  have jf:∀ (i:Nat) v f,(vals kvs ns)[i]?=some v->(ns.map (prt e))[i]?=some f->∃ p l r,v=.ref p/\H1 p=some (.tup (.ref l :: r))/\H1 l=some (.lst (f.take 100)):=fun i v f h1 h2=>by
   obtain ⟨p,l,r,x,t,a1,a2,a3,_⟩:=(lvs.2 i v f h1 h2).fst
   exact ⟨p,l,r,a1,a2,a3⟩
  rcases hz with ⟨rfl,rfl⟩ | ⟨rfl,rfl⟩ | ⟨rfl,rfl⟩ | ⟨rfl,rfl⟩
  ·refine ⟨_,rfl,ixT hp1 rfl ⟨rfl,_,rfl,zV (by decide +kernel) ?_⟩⟩
   refine ⟨_,rfl,ixT hp1 (zj (j:=1) rfl) ⟨_,rfl,x,l4,_,ns.map (prt e),rfl,h4,lvs.1,by lia,jf,fun H2 l s2 fl hl=>⟨by show 2<=sizeLine; decide,fun t1 h1=>⟨by show 2<=sizeLine; decide,fun t2 h2=>?_⟩⟩⟩⟩
   have s3:=(s2.new (o:=.tup [.ref l,.str ""]) h1).new (o:=.tup [.bl true,.ref t1]) h2
   have sz:=hO.2 x ns rfl
   rw [<- lmv] at sz
   refine q _ t2 _ (.of (s1.trans s3)) (s3 _ _ hct1) zf (.pl (old h2 zf) (old h2 (old h1 hl)) (zo hct1 fl).symm (Y1 hD37) (fun y hy=>?_) (YZ sz hgs))
   rcases uq.mp hy with rfl | hy
   ·trivial
   ·exact hats y hy
  ·refine ⟨_,rfl,ixT hp1 rfl ⟨rfl,_,rfl,zI (by decide +kernel) (nxt ?_)⟩⟩
   refine ⟨_,rfl,ixT hp1 rfl ⟨rfl,_,rfl,zV (by decide +kernel) ?_⟩⟩
   have lv2:(vals kvs ns).length=ns.length:=by unfold vals; rw [ub]
   obtain ⟨l1,l2⟩:=js (n:=ns.length) l9
   have lg:x.length<=1000:=hO.2.2.1
   have a5:Str.length "func "=5:=by decide +kernel
   have a1:Str.length " "=1:=by decide +kernel
   refine ⟨_,rfl,ixT hp1 (zj (j:=1) rfl) ⟨_,_,rfl,rfl,by lia,?_⟩⟩
   refine ⟨_,_,rfl,rfl,by rw [strLen_append]; lia,_,rfl,l4,_,rfl,.inl (SqL.of h4),_,rfl,by rw [lv2]; exact l2,?_⟩
   rw [lv2]
   refine ⟨_,_,rfl,rfl,by rw [strLen_append,strLen_append]; lia,?_⟩
   rw [show "func " ++ x ++ " " ++ Str.ofString (toString ((ns.length:Nat):Int))=ftag x ns.length from qu x ns.length]
   refine ⟨_,rfl,_,rfl,ftag x ns.length,l4,_,ns.map (prt e),rfl,h4,lvs.1,by lia,jf,fun H2 l s2 fl hl=>⟨_,rfl,ixT (s2 _ _ hp1) (zj (j:=1) rfl) ⟨_,rfl,by show 3<=sizeLine; decide,fun t1 h1=>⟨by show 2<=sizeLine; decide,fun t2 h2=>?_⟩⟩⟩⟩
   have s3:=(s2.new (o:=.tup [.ref l,.str x,.ref l4]) h1).new (o:=.tup [.bl true,.ref t1]) h2
   obtain ⟨gx,a,ha⟩:=hD37
   have sz:szOf kv (ftag x (ns.map (prt e)).length)=some (ns.map (prt e)).length:=by rw [lmv]; exact hO.2.2.2
   have hdo:dO kv ds st (evD kv ds st rw_ n) e k (.fn x ns)=.ret (.str (ftag x (ns.map (prt e)).length) :: (ns.map (prt e)).flatten) k:=by rw [dO,lmv]
   rw [hdo] at q
   rw [<- lmv] at hl
   exact q _ t2 _ (.of (s1.trans s3)) (s3 _ _ hct1) zf (.fn (old h2 zf) (old h2 (old h1 hl)) (s3 _ _ h4) (zo hct1 fl).symm n4 lvs.1 (by lia) (fun i v f h1 h2=>(lvs.2 i v f h1 h2).same s3) ha gx (zaC hP.tg ha sz) sz)
  ·refine ⟨_,rfl,ixT hp1 rfl ⟨rfl,_,rfl,zI (by decide +kernel) (nxt ?_)⟩⟩
   refine ⟨_,rfl,ixT hp1 rfl ⟨rfl,_,rfl,zI (by decide +kernel) (nxt ?_)⟩⟩
   refine ⟨_,rfl,ixT hp1 rfl ⟨rfl,_,rfl,zV (by decide +kernel) ?_⟩⟩
   obtain ⟨_,_,a,ha,la⟩:=hO
   have hdo:dO kv ds st (evD kv ds st rw_ n) e k (.call x ns)=if (k:Int)=st then .late else evD kv ds st rw_ n a (ns.map (prt e)) (k + 1):=by rw [dO,ha]
   rw [hdo] at q
   exact ⟨_,rfl,_,rfl,_,rfl,ixT hp1 (zj (j:=1) rfl) ⟨_,rfl,ct,d,l4,k,st,kv,ds,rw_,x,a,_,_,rfl,hct1,hd.kx (.of s1) ⟨_,hct⟩,hP,ha,h4,lvs,n4,by rw [lmv]; exact la,hk,hn,q.at (.of s1)⟩⟩
  ·refine ⟨_,rfl,ixT hp1 rfl ⟨rfl,_,rfl,zI (by decide +kernel) (nxt ?_)⟩⟩
   refine ⟨_,rfl,ixT hp1 rfl ⟨rfl,_,rfl,zI (by decide +kernel) (nxt ?_)⟩⟩
   refine ⟨_,rfl,ixT hp1 rfl ⟨rfl,_,rfl,zI (by decide +kernel) (nxt ?_)⟩⟩
   obtain ⟨fa,ea⟩:=hB.get hO.1
   obtain ⟨v,hv1,hv2⟩:=hE.val ea
   have ep:prt e x=fa:=by unfold prt; rw [ea]; rfl
   have hv2:=hv2.same s1
   have lv2:(vals kvs ns).length=ns.length:=by unfold vals; rw [ub]
   refine ⟨_,rfl,_,rfl,ixT hp1 (zj (j:=1) rfl) ⟨nd,v,rfl,by rw [<- hv1]; exact DGet.k (k:=.inr x) (s1 _ _ hN),?_⟩⟩
   have nof:dO kv ds st (evD kv ds st rw_ n) e k (.ask x ns)=.fault "nofunc"->∀ (H2:Hp),Same H1 H2->∀ t1,H2 t1=none->∀ t2,upd H2 t1 (.tup [.str "fault",.str "nofunc"]) t2=none->Q (.ref t2) (upd (upd H2 t1 (.tup [.str "fault",.str "nofunc"])) t2 (.tup [.bl false,.ref t1])):=fun h H2 s2 t1 h1 t2 h2=>by
    rw [h] at q
    exact q _ t2 t1 (.of (s1.trans ((s2.new h1).new h2))) zf (old h2 zf)
   cases hv2 with
   | @pl p' l' y r b1 b2 b3 b4 b5 b6 =>
    refine ⟨_,rfl,ixT b1 (zj (j:=1) rfl) ⟨rfl,_,rfl,zV (by decide +kernel) (iteT ?_)⟩⟩
    refine ⟨by show 2<=sizeLine; decide,fun t1 h1=>⟨by show 2<=sizeLine; decide,fun t2 h2=>nof ?_ _ (Same.refl _) t1 h1 t2 h2⟩⟩
    rw [dO,ep,b4]
   | @fn p' l' lv' g vs fs a b1 b2 b3 b4 b5 b6 b7 b8 c1 c2 c3 c4 =>
    obtain ⟨dks,hdk,hdf⟩:=hd
    obtain ⟨one,pp,pb,e1,e2,e3,e4⟩:=hdf g a c1
    refine ⟨_,rfl,ixT b1 (zj (j:=1) rfl) ⟨rfl,_,rfl,zI (decide_eq_false fun h=>c2 (V.str.inj h)) ?_⟩⟩
    refine ⟨_,rfl,ixT b1 (zj (j:=2) rfl) ⟨lv',_,rfl,.inl (SqL.of b3),_,rfl,l4,_,rfl,.inl (SqL.of h4),_,_,rfl,rfl,_,rfl,_,rfl,ixT b1 (zj (j:=1) rfl) ⟨d,_,rfl,(by rw [<- e1]; exact DGet.k (k:=.inr g) (s1 _ _ hdk)),ixT (s1 _ _ e2) (zj (j:=1) rfl) ⟨pp,_,rfl,.inr (SqT.of (s1 _ _ e3)),rfl,_,rfl,?_⟩⟩⟩⟩
    rw [ub]
    by_cases c:fs.length + ns.length=a.2.1.length
    ·refine zI (by show (!decide (V.int (((vs.length:Nat):Int) + (((vals kvs ns).length:Nat):Int))=V.int (a.2.1.length:Nat)))=false; rw [lv2,b6,show ((fs.length:Nat):Int) + ((ns.length:Nat):Int)=((a.2.1.length:Nat):Int) by lia]; simp) (nxt ?_)
     have hdo:dO kv ds st (evD kv ds st rw_ n) e k (.ask x ns)=if (k:Int)=st then .late else evD kv ds st rw_ n a (fs ++ ns.map (prt e)) (k + 1):=by
      rw [dO,ep,c3,if_pos c]
      dsimp only
      rw [show (V.str (ftag g fs.length) :: fs.flatten).tail=fs.flatten from rfl,Zo fun f hf=>?_]
      obtain ⟨i,hi⟩:=Ud hf
      have hl:=(ud.mp hi).1
      exact (b8 i _ f (ug (by lia)) hi).hg
     rw [hdo] at q
     refine ⟨_,rfl,_,rfl,_,rfl,ixT b1 (zj (j:=1) rfl) ⟨_,rfl,ixT b1 (zj (j:=2) rfl) ⟨_,rfl,lv',l4,_,_,rfl,rfl,b3,h4,by lia,fun l5 hl5=>?_⟩⟩⟩
     have s5:=same_new hl5 (.lst (vs ++ vals kvs ns))
     have lvs2:LVs kv ds ct H1 (vs ++ vals kvs ns) (fs ++ ns.map (prt e)):=LVs.app ⟨b6,b8⟩ lvs
     exact ⟨ct,d,l5,k,st,kv,ds,rw_,g,a,_,_,rfl,s5 _ _ hct1,DfL.kx ⟨dks,hdk,hdf⟩ (.of (s1.trans s5)) ⟨_,hct⟩,hP,c1,zf,lvs2.same s5,(zo hct1 hl5).symm,by rw [uf,lmv]; exact c.symm,hk,hn,q.at (.of (s1.trans s5))⟩
    ·refine zV (by show (!decide (V.int (((vs.length:Nat):Int) + (((vals kvs ns).length:Nat):Int))=V.int (a.2.1.length:Nat)))=true; rw [lv2,b6]; simp; lia) ?_
     refine ⟨by show 2<=sizeLine; decide,fun t1 h1=>⟨by show 2<=sizeLine; decide,fun t2 h2=>nof ?_ _ (Same.refl _) t1 h1 t2 h2⟩⟩
     rw [dO,ep,c3,if_neg c]
end
end GN
namespace GN
open PySem L2 K11
theorem Y2 {kv:Kvs} {ds:Dfl} {ct:Addr} {H:Hp}:∀ {ps:List Str} {us:List V} {xss:List (List V)},ps.length=xss.length->LVs kv ds ct H us xss->ER (LV kv ds ct H) (zkv ps us) (ps.zip xss)
 | [],[],[],_,_=>.nil
 | [],_ :: _,[],_,h=>by have:=h.1; simp at this
 | _ :: _,_,[],h,_=>by simp at h
 | [],_,_ :: _,h,_=>by simp at h
 | _ :: _,[],_ :: _,_,h=>by have:=h.1; simp at this
 | p :: ps,u :: us,xs :: xss,h1,h2=>.cons (h2.2 0 u xs rfl rfl) (Y2 (by simpa using h1) ⟨by simpa using h2.1,fun j u xs a b=>h2.2 (j + 1) u xs a b⟩)
theorem Zr {e:En} {y:Str}:∀ {ns:List Str} {fs:List (List V)} {e:En},y ∉ ns->prt (putA e ns fs) y=prt e y
 | [],_,_,_=>by unfold putA; rfl
 | n :: ns,[],e,_=>by unfold putA; rfl
 | n :: ns,f :: fs,e,h=>by
  rw [uq,not_or] at h
  show prt (putA (putE e n f) ns fs) y=_
  rw [Zr (e:=e) h.2,qm,if_neg h.1]
theorem LV.tl {kv:Kvs} {ds:Dfl} {ct:Addr} {H H':Hp} {v:V} {f:List V} (h:LV kv ds ct H v f) (tu:Tups H H') (tl:∀ p xs,H p=some (.lst xs)->H' p=some (.lst xs)):LV kv ds ct H' v f:=by
 induction h with
 | pl a b c d e e'=>exact .pl (tu _ _ a) (tl _ _ b) c d e e'
 | fn a b c d e f1 f2 _ g1 g2 g3 g4 ih=>exact .fn (tu _ _ a) (tl _ _ b) (tl _ _ c) d e f1 f2 ih g1 g2 g3 g4
section
variable {P:Program} {w:World} {K:ua} {mg:Str->Option Value} {base:Heap} {f:Addr} {fd:FuncData}
theorem scLRun:FnScope ["_law_count","_law_defs","_law_name_here","_law_values","_law_here","_law_body","_law_got","_law_first","_law_some_here"] ["_law_count","_law_defs","_law_name_here","_law_values"] (zp WV):=⟨rfl,rfl,rfl,by decide +kernel,rfl,by decide +kernel,by decide +kernel⟩
theorem zaE:(["_law_count","_law_defs","_law_name_here","_law_values","_law_here","_law_body","_law_got","_law_first","_law_some_here","_law_arm"]:List Str).Nodup:=by decide +kernel
theorem yq {n lv:Nat} (hlv:1<=lv) (F:Fun K "_law_run" "_law_run" WV f fd) (GD:Ca P w K mg base CX0 lv "_law_done" ["_law_count","_law_defs","_law_here","_law_deed_here"] (VN n)) (m_dict:mg "dict"=none) (m_zip:mg "zip"=none) (m_isinstance:mg "isinstance"=none) (m_str:mg "str"=none) (m_int:mg "int"=none):FnOk P w K mg base CX0 (lv + 1) f fd ["_law_count","_law_defs","_law_name_here","_law_values"] (Z9 n):=by
 refine F.by scLRun (fun vs H Q E h=>?_) (fun cdv A outer s H vs Q E hr h=>?_)
 ·obtain ⟨ct,d,vl,k,st,kv,ds,rw_,g,a,us,xs,rfl,_⟩:=h
  rfl
 obtain ⟨ct,d,vl,k,st,kv,ds,rw_,g,a,us,xs,rfl,hct,hd,hP,ha,hvl,hvs,ll,hk,hn,q⟩:=h
 have r1:Room 1 _:=hr.mono (by lia)
 refine ⟨_,
  (zi (zv (i:=4) scLRun.nd rfl (Or.inl rfl) (Zf rfl rfl m_dict rfl m_zip (ja_c (zq zr (zX r1 (jv 1) (jv 2)) zh (fun _ _=>rfl)) (ja_c (jv 3) zg))))
  (zi (zv (i:=5) scLRun.nd rfl (Or.inl rfl) (zq zr (zX r1 (jv 1) (jv 2)) zh (fun _ _=>rfl)))
  (zi (wK PassesOwn.never (zt zL (zq zr (jv 5) zh (fun _ _=>rfl)) zu (zw _))
   (zi (zv (i:=6) scLRun.nd rfl (Or.inl rfl) (zy GD hr rfl zC (ja_c (jv 0) (ja_c (jv 1) (ja_c (jv 4) (ja_c (zq zr (jv 5) zh (fun _ _=>rfl)) zg))))))
   (zi (zH (y6 (ye (zq zr (jv 6) zh (fun _ _=>rfl))))
    (zk (zx (jv 6)))  zA)
   (zi (y8 r1 (jv 4) (zq zr (jv 5) zh (fun _ _=>rfl)) (zq zr (jv 6) zh (fun _ _=>rfl)))
   (zk (zv (i:=5) scLRun.nd rfl (Or.inl rfl) (zq zr (jv 5) zh (fun _ _=>rfl))))))))
  (zi (zv (i:=7) scLRun.nd rfl (Or.inr rfl) (zq zE (zq zr (zX r1 (jv 4) (zq zr (jv 5) zh (fun _ _=>rfl))) zh (fun _ _=>rfl)) zh (fun _ _=>rfl)))
  (zi (zH (zt zL (zq zr (jv 5) zh (fun _ _=>rfl)) zu (zw _))
   (zi (zH (ye (zG zY rfl m_isinstance uJ (ja_c (jv 7) (ja_c (yu (v:=.ty "str") rfl m_str PyProof.Rows.boot_str rfl) zg))))
    (zk (zx (zB (ja_c xf (ja_c (zB (ja_c zu (ja_c zu zg))) zg)))))  zA)
   (zk (zv (i:=5) scLRun.nd rfl (Or.inl rfl) (zq zr (jv 5) (zF yr zh (yh JX rfl m_int U1 (ja_c (yH zL (jv 7) zh (zw _)) zg))) (fun _ _=>rfl)))))  zA)
  (zi (zH (zt zL (zq zr (jv 5) zh (fun _ _=>rfl)) zu (zw _))
   (zi (y7 ["_law_arm"] (i:=8) scLRun.nd rfl (Or.inl rfl) rfl (xJ (zq zr (jv 5) zh (fun _ _=>rfl))) (fun _ _ _ _ _=>(zD (i:=9) zaE rfl (Or.inl rfl))) (fun _ _ _ _ _=>(wy (zt zL (zq (jb K) (jv 9) zh (fun _ _=>rfl)) (jv 7) (zw _)))) (fun _ _ _ _ _=>(jv 9)))
   (zi (zH (zt (ZO r1) (jv 8) (zZ zg) (zw _))
    (zk (zx (zB (ja_c xf (ja_c (zB (ja_c zu (ja_c zu zg))) zg)))))  zA)
   (zk (zv (i:=5) scLRun.nd rfl (Or.inl rfl) (zq zr (zq zE (jv 8) zh (fun _ _=>rfl)) zh (fun _ _=>rfl))))))  zA)
  (zk (zx (zB (ja_c xf (ja_c (zX r1 (jv 4) (zq zr (jv 5) zh (fun _ _=>rfl))) zg))))))))))),?_⟩
 refine cut3 fun rest hrest=>?_
 have sl:=zQ
 obtain ⟨dks,hdk,hdf⟩:=id hd
 obtain ⟨one,pp,pb,e1,e2,e3,e4⟩:=hdf g a ha
 have am:a∈ds:=uH ha
 obtain ⟨hb,hend⟩:=hP.rb a am
 obtain ⟨y1,y2,y3⟩:=hP.ok a am
 have ydk:=hP.dk a am
 have yln:=hP.ln a am
 rw [hb] at e4 y3
 have lus:=hvs.1
 refine ⟨_,rfl,_,rfl,d,_,rfl,(by rw [<- e1]; exact DGet.k (k:=.inr g) hdk),ixT e2 (zj (j:=1) rfl) ⟨_,rfl,pp,vl,a.2.1,us,rfl,.inr (SqT.of e3),.inl (SqL.of hvl),by lia,y1,fun nd hnd=>?_⟩⟩
 have s1:=same_new hnd (.dK (zkv a.2.1 us))
 have hN1:=zf (H:=H) (a:=nd) (o:=.dK (zkv a.2.1 us))
 have lz:(zkv a.2.1 us).length<=9:=by
  unfold zkv
  rw [ub,List.length_zip]
  lia
 show (tSeq _ _:TS) _ _ (upd H nd (.dK (zkv a.2.1 us)))
 generalize upd H nd (.dK (zkv a.2.1 us))=H1 at *
 refine ⟨_,rfl,_,rfl,d,_,rfl,(by rw [<- e1]; exact DGet.k (k:=.inr g) (s1 _ _ hdk)),ixT (s1 _ _ e2) (zj (j:=2) rfl) ?_⟩
 have q':ResL kv ds ct st H Q (evR kv ds st (evD kv ds st rw_ n) (rw_ a.1).1 (rw_ a.1).2 (a.2.1.zip xs) k):=q
 generalize (rw_ a.1).1=rows at *
 generalize (rw_ a.1).2=en at *
 refine ⟨fun m σ H'=>∃ (r:List (Str × Dx)) (e':En) (k':Nat) (pb':Addr) (kvs':List (Key × V)) (ks':List Str) (v6:Option V),m=r.length/\σ=[some (.ref ct),some (.ref d),some (.str g),some (.ref vl),some (.ref nd),some (.ref pb'),v6,none,none]/\KX [ct] H H'/\H' ct=some (.lst [.int (k':Nat),.int st])/\(k':Int)<=st/\k<=k'/\H' nd=some (.dK kvs')/\kvs'.length + r.length<=40/\ER (LV kv ds ct H') kvs' e'/\Bnd ks' e'/\OkX kv ds ks' (lets r en)/\IsBd H' (lets r en) pb'/\(∀ p∈r,D37 ds p.2)/\ResL kv ds ct st H Q (evR kv ds st (evD kv ds st rw_ n) r en e' k'),⟨_,rows,_,k,pb,_,a.2.1,none,rfl,rfl,.of s1,s1 _ _ hct,hk,ui _,hN1,by lia,Y2 ll (hvs.same s1),ju ll,y3,e4.keep (.of s1),ydk,q'⟩,?_⟩
 rintro m σ H2 ⟨r,e',k',pb',kvs',ks',v6,rfl,rfl,k2,hct2,hk2,hkk,hN2,lk2,hE2,hB2,hO2,hb2,hdk2,q2⟩
 clear q q' hN1 lz
 match r,lk2,hO2,hb2,hdk2,q2 with
 | (nn,dd) :: r,lk2,hO2,hb2,hdk2,q2 =>
  obtain ⟨pd,pr,hbb,hdd,hbr⟩:∃ q r',H2 pb'=some (.tup [.str "let",.str nn,.ref q,.ref r'])/\IsDx H2 dd q/\IsBd H2 (lets r en) r':=hb2
  obtain ⟨o1,o2⟩:=zaB hO2
  have lk2:kvs'.length + (r.length + 1)<=40:=lk2
  refine ⟨_,rfl,ixT hbb rfl ⟨rfl,_,rfl,zV (by decide +kernel) ⟨_,fun _ _ h=>h,?_⟩⟩⟩
  refine ⟨_,rfl,_,rfl,_,rfl,_,rfl,ixT hbb (zj (j:=2) rfl) ⟨ct,d,nd,pd,k',st,kv,ds,rw_,kvs',e',ks',dd,rfl,hct2,hd.kx k2 ⟨_,hct⟩,hP,hN2,hE2,hB2,o1,hdk2 _ (uo ..),hdd,hk2,by lia,?_⟩⟩
  have eq0:evR kv ds st (evD kv ds st rw_ n) ((nn,dd) :: r) en e' k'=Zm (dO kv ds st (evD kv ds st rw_ n) e' k' dd) fun f k1=>evR kv ds st (evD kv ds st rw_ n) r en (putE e' nn f) k1:=rfl
  rw [eq0] at q2
  cases ho:dO kv ds st (evD kv ds st rw_ n) e' k' dd with
  | late =>
   rw [ho] at q2
   intro H3 p3 t3 k3 hp3 ht3
   refine ⟨_,rfl,ixT hp3 (zj (j:=0) rfl) ⟨false,rfl,iteT ⟨_,rfl,?_⟩⟩⟩
   exact q2 H3 p3 t3 (k2.trans k3) hp3 ht3
  | fault ww =>
   rw [ho] at q2
   intro H3 p3 t3 k3 hp3 ht3
   refine ⟨_,rfl,ixT hp3 (zj (j:=0) rfl) ⟨false,rfl,iteT ⟨_,rfl,?_⟩⟩⟩
   exact q2 H3 p3 t3 (k2.trans k3) hp3 ht3
  | ret ff k1 =>
   rw [ho] at q2
   intro H3 p3 v3 k3 hct3 hp3 hv3
   have tu3:=Qh k3 ⟨_,hct2⟩
   have hN3:=Qi k3 ⟨_,hct2⟩ _ _ hN2
   refine ⟨_,rfl,ixT hp3 (zj (j:=0) rfl) ⟨true,rfl,iteF (nxt ?_)⟩⟩
   refine ⟨_,rfl,ixT hp3 (zj (j:=1) rfl) ⟨_,rfl,_,rfl,ixT (tu3 _ _ hbb) (zj (j:=1) rfl) ⟨nd,_,rfl,DPut.k (k:=.inr nn) hN3 (by lia),?_⟩⟩⟩
   have kk:=VJ (kv:=kv) (ds:=ds) (st:=st) (call:=evD kv ds st rw_ n) (fun a ha xs k f k1 hk h=>VL a ha xs k f k1 hk h) (r:=[(nn,dd)]) (b:=.give nn) (e:=e') (k:=k') (f:=prt (putE e' nn ff) nn) (k1:=k1) hk2 (by rw [evR,ho]; rfl)
   have ndn:∀ {z:Addr} {o:HO},H3 z=some o->(∀ ks,o≠.dK ks)->z≠nd:=fun {z o} e n c=>by
    rw [c,hN3] at e
    cases e
    exact n _ rfl
   have tu4:Tups H3 (upd H3 nd (.dK (putK kvs' (.inr nn) v3))):=fun z xs e=>by rw [zm (ndn e (by intro _ z; cases z))]; exact e
   have tl4:∀ z xs,H3 z=some (.lst xs)->upd H3 nd (.dK (putK kvs' (.inr nn) v3)) z=some (.lst xs):=fun z xs e=>by rw [zm (ndn e (by intro _ z; cases z))]; exact e
   refine ⟨_,rfl,ixT (tu4 _ _ (tu3 _ _ hbb)) (zj (j:=3) rfl) ?_⟩
   have lp:=x3 kvs' (.inr nn) v3
   refine ⟨r.length,US _,r,putE e' nn ff,k1,pr,putK kvs' (.inr nn) v3,ks' ++ [nn],_,rfl,rfl,(k2.trans k3).putN hnd,tl4 _ _ hct3,kk.1,by lia,zf,by lia,((hE2.mono fun v f h=>h.kx k3 ⟨_,hct2⟩).put hv3).mono fun v f h=>h.tl tu4 tl4,hB2.put,o2,(hbr.keep tu3).keep tu4,fun p hp=>hdk2 p (ut _ hp),q2⟩
 | [],lk2,hO2,hb2,hdk2,q2 =>
  subst hrest
  have hO2:OkX kv ds ks' en:=hO2
  have hb2:IsBd H2 en pb':=hb2
  have q2:ResL kv ds ct st H Q (endO kv e' k' en):=q2
  have hat:∀ x∈ks',∃ v p l r y t,valV kvs' (.inr x)=some v/\LV kv ds ct H2 v (prt e' x)/\v=.ref p/\H2 p=some (.tup (.ref l :: r))/\H2 l=some (.lst ((y :: t).take 100))/\prt e' x=y :: t/\At y:=fun x hx=>by
   obtain ⟨fa,ea⟩:=hB2.get hx
   obtain ⟨v,hv1,hv2⟩:=hE2.val ea
   have ep:prt e' x=fa:=by unfold prt; rw [ea]; rfl
   obtain ⟨p,l,r,y,t,a1,a2,a3,a4⟩:=hv2.fst
   exact ⟨v,p,l,r,y,t,hv1,by rw [ep]; exact hv2,a1,a2,by rw [<- a4]; exact a3,by rw [ep,a4],hv2.at y (by rw [a4]; exact uo ..)⟩
  have fin:∀ x∈ks',∃ v,valV kvs' (.inr x)=some v/\(ResL kv ds ct st H Q (.ret (prt e' x) k')->∀ H3,Same H2 H3->∀ t,H3 t=none->Q (.ref t) (upd H3 t (.tup [.bl true,v]))):=fun x hx=>by
   obtain ⟨v,p,l,r,y,t,h1,h2,_⟩:=hat x hx
   refine ⟨v,h1,fun hq H3 s3 t ht=>hq _ t v (k2.trans (.of (s3.new ht))) ((s3.new ht) _ _ hct2) zf (h2.same (s3.new ht))⟩
  have flt:∀ (ww:Str),ResL kv ds ct st H Q (.fault ww)->∀ H3,Same H2 H3->∀ t1,H3 t1=none->∀ t2,upd H3 t1 (.tup [.str "fault",.str ww]) t2=none->Q (.ref t2) (upd (upd H3 t1 (.tup [.str "fault",.str ww])) t2 (.tup [.bl false,.ref t1])):=fun ww hq H3 s3 t1 h1 t2 h2=>hq _ t2 t1 (k2.trans (.of ((s3.new h1).new h2))) zf (old h2 zf)
  match en,hend,hO2,hb2,q2 with
  | .give x,_,hO2,hb2,q2 =>
   have hb2:H2 pb'=some (.tup [.str "give",.str x]):=hb2
   have hx:x∈ks':=hO2
   obtain ⟨v,p,l,r,y,t,h1,h2,h3,h4,h5,h6,h7⟩:=hat x hx
   subst h3
   refine ⟨_,rfl,ixT hb2 rfl ⟨rfl,_,rfl,zI (by decide +kernel) ?_⟩⟩
   refine ⟨_,rfl,_,rfl,ixT hb2 (zj (j:=1) rfl) ⟨nd,_,rfl,(by rw [<- h1]; exact DGet.k (k:=.inr x) hN2),ixT h4 (zj (j:=0) rfl) (ixL h5 (zj (j:=0) rfl) ?_)⟩⟩
   refine ⟨_,rfl,ixT hb2 rfl ⟨rfl,_,rfl,zI (by decide +kernel) (nxt ?_)⟩⟩
   refine ⟨_,rfl,ixT hb2 rfl ⟨rfl,_,rfl,zI (by decide +kernel) (nxt ?_)⟩⟩
   obtain ⟨v',hv',f'⟩:=fin x hx
   refine ⟨_,rfl,_,rfl,ixT hb2 (zj (j:=1) rfl) ⟨nd,v',rfl,(by rw [<- hv']; exact DGet.k (k:=.inr x) hN2),by show 2<=sizeLine; decide,fun t2 ht2=>f' q2 _ (Same.refl _) t2 ht2⟩⟩
  | .iff x b c,⟨⟨y0,hy0⟩,z0,hz0⟩,hO2,hb2,q2 =>
   subst hy0 hz0
   obtain ⟨p1,p2,hb2,hd1,hd2⟩:∃ q r',H2 pb'=some (.tup [.str "if",.str x,.ref q,.ref r'])/\IsBd H2 (.give y0) q/\IsBd H2 (.give z0) r':=hb2
   have hd1:H2 p1=some (.tup [.str "give",.str y0]):=hd1
   have hd2:H2 p2=some (.tup [.str "give",.str z0]):=hd2
   obtain ⟨hx,hy,hz⟩:x∈ks'/\y0∈ks'/\z0∈ks':=by simpa only [OkX] using hO2
   obtain ⟨v,p,l,r,y,t,h1,h2,h3,h4,h5,h6,h7⟩:=hat x hx
   subst h3
   refine ⟨_,rfl,ixT hb2 rfl ⟨rfl,_,rfl,zI (by decide +kernel) ?_⟩⟩
   refine ⟨_,rfl,_,rfl,ixT hb2 (zj (j:=1) rfl) ⟨nd,_,rfl,(by rw [<- h1]; exact DGet.k (k:=.inr x) hN2),ixT h4 (zj (j:=0) rfl) (ixL h5 (zj (j:=0) rfl) ?_)⟩⟩
   refine ⟨_,rfl,ixT hb2 rfl ⟨rfl,_,rfl,zV (by decide +kernel) ?_⟩⟩
   rw [endO,h6] at q2
   match y,h7,q2 with
   | .str tt,_,q2 =>
    refine ⟨_,rfl,_,_,_,_,rfl,.str _,rfl,_,rfl,iteT ?_⟩
    exact ⟨by show 2<=sizeLine; decide,fun t1 ht1=>⟨by show 2<=sizeLine; decide,fun t2 ht2=>flt _ q2 _ (Same.refl _) t1 ht1 t2 ht2⟩⟩
   | .int i,_,q2 =>
    refine ⟨_,rfl,_,_,_,_,rfl,.int _,rfl,_,rfl,iteF (nxt ?_)⟩
    have q2:ResL kv ds ct st H Q (.ret (prt e' (if i≠0 then y0 else z0)) k'):=q2
    refine ⟨_,rfl,_,rfl,rfl,.inr ⟨_,rfl,_,_,rfl,rfl,?_⟩⟩
    by_cases c:i=0
    ·rw [if_neg (fun h=>h c)] at q2
     obtain ⟨v',hv',f'⟩:=fin z0 hz
     rw [c,if_pos (decide_eq_true rfl)]
     refine (ixT (σ:=[]) hb2 (zj (j:=3) rfl) ?_)
     refine ⟨_,rfl,ixT hd2 rfl ⟨rfl,_,rfl,zI (by decide +kernel) (nxt ?_)⟩⟩
     exact ⟨_,rfl,_,rfl,ixT hd2 (zj (j:=1) rfl) ⟨nd,v',rfl,(by rw [<- hv']; exact DGet.k (k:=.inr z0) hN2),by show 2<=sizeLine; decide,fun t2 ht2=>f' q2 _ (Same.refl _) t2 ht2⟩⟩
    ·rw [if_pos c] at q2
     obtain ⟨v',hv',f'⟩:=fin y0 hy
     rw [if_neg (by simpa using c)]
     refine (ixT (σ:=[]) hb2 (zj (j:=2) rfl) ?_)
     refine ⟨_,rfl,ixT hd1 rfl ⟨rfl,_,rfl,zI (by decide +kernel) (nxt ?_)⟩⟩
     exact ⟨_,rfl,_,rfl,ixT hd1 (zj (j:=1) rfl) ⟨nd,v',rfl,(by rw [<- hv']; exact DGet.k (k:=.inr y0) hN2),by show 2<=sizeLine; decide,fun t2 ht2=>f' q2 _ (Same.refl _) t2 ht2⟩⟩
  | .cs x as,hend,hO2,hb2,q2 =>
   obtain ⟨pa,ts,hb2,hpa,hA⟩:∃ (q:Addr) (ts:List Addr),H2 pb'=some (.tup [.str "case",.str x,.ref q])/\H2 q=some (.tup (ts.map V.ref))/\IsArms H2 as ts:=hb2
   obtain ⟨hx,hOs⟩:x∈ks'/\OkXs kv ds ks' as:=by simpa only [OkX] using hO2
   obtain ⟨v,p,l,r,y,t,h1,h2,h3,h4,h5,h6,h7⟩:=hat x hx
   subst h3
   obtain ⟨lt,hg⟩:=hA.get
   refine ⟨_,rfl,ixT hb2 rfl ⟨rfl,_,rfl,zI (by decide +kernel) ?_⟩⟩
   refine ⟨_,rfl,_,rfl,ixT hb2 (zj (j:=1) rfl) ⟨nd,_,rfl,(by rw [<- h1]; exact DGet.k (k:=.inr x) hN2),ixT h4 (zj (j:=0) rfl) (ixL h5 (zj (j:=0) rfl) ?_)⟩⟩
   refine ⟨_,rfl,ixT hb2 rfl ⟨rfl,_,rfl,zI (by decide +kernel) (nxt ?_)⟩⟩
   refine ⟨_,rfl,ixT hb2 rfl ⟨rfl,_,rfl,zV (by decide +kernel) ?_⟩⟩
   rw [endO,h6] at q2
   have mt:∀ a∈as.hs,(V.str a.1=y↔a.1=tgf (y :: t)):=fun a ha=>by
    match y,h7 with
    | .str tt,_=>exact ⟨fun h=>V.str.inj h,fun h=>congrArg V.str h⟩
    | .int i,_=>exact ⟨fun h=>(by cases h),fun h=>absurd h (hOs.at a ha).1⟩
   refine ⟨_,rfl,ixT hb2 (zj (j:=2) rfl) ⟨pa,rfl,⟨_,SqT.of hpa⟩,ZP (K:=K) (xs:=ts.map V.ref) (fun j τ ys H'=>H'=H2/\(∃ v9,τ=[some (.ref ct),some (.ref d),some (.str g),some (.ref vl),some (.ref nd),some (.ref pb'),v6,some y,none,v9])/\ys.length<=j/\((ys=[]/\∀ (i:Nat) (a:Df),i < j->as.hs[i]?=some a->a.1≠tgf (y :: t))\/∃ (i:Nat) (p0:Addr) (a:Df) (rest:List V),ts[i]?=some p0/\as.hs[i]?=some a/\fnd as (tgf (y :: t))=some a/\ys=.ref p0 :: rest)) ⟨rfl,⟨none,rfl⟩,ui _,.inl ⟨rfl,fun i a h=>absurd h (by lia)⟩⟩ (fun j τ ys H' _ h=>by rw [h.1]; exact SqT.of hpa) ?_ ?_⟩⟩
   ·rintro j v0 τ ys H3 hv0 ⟨rfl,⟨v9,rfl⟩,lys,hys⟩
    rw [uj] at hv0
    obtain ⟨p0,hp0,rfl⟩:=uk.mp hv0
    have hj:=(ud.mp hp0).1
    obtain ⟨a0,ha0⟩:∃ a0,as.hs[j]?=some a0:=⟨_,ug (by lia)⟩
    obtain ⟨q0,s0,g1,g2,g3⟩:=hg j p0 a0 hp0 ha0
    have am0:a0∈as.hs:=uu ha0
    have sc:scal (V.str a0.1) y=true:=by
     match y,h7 with
     | .int _,_=>rfl
     | .str _,_=>rfl
    refine ⟨_,rfl,ixT g1 (zj (j:=0) rfl) ⟨_,rfl,sc,_,rfl,?_⟩⟩
    have lts:ts.length < 100000:=by have:=hend.1; lia
    by_cases c:a0.1=tgf (y :: t)
    ·refine zV (decide_eq_true ((mt a0 am0).mpr c)) ⟨_,rfl,by lia,rfl,⟨_,rfl⟩,by rw [uf]; show _ + 1<=_; lia,.inr ?_⟩
     rcases hys with ⟨rfl,hno⟩ | ⟨i,p1,a1,rest,i1,i2,i3,rfl⟩
     ·exact ⟨j,p0,a0,[],hp0,ha0,wb (fun i b hi hb=>decide_eq_false (hno i b hi hb)) ha0 (decide_eq_true c),rfl⟩
     ·exact ⟨i,p1,a1,rest ++ [.ref p0],i1,i2,i3,rfl⟩
    ·refine zI (decide_eq_false fun h=>c ((mt a0 am0).mp h)) ⟨rfl,⟨_,rfl⟩,by lia,?_⟩
     rcases hys with ⟨rfl,hno⟩ | h
     ·refine .inl ⟨rfl,fun i b hi hb=>?_⟩
      by_cases ci:i=j
      ·subst ci
       rw [ha0] at hb
       cases hb
       exact c
      ·exact hno i b (by lia) hb
     ·exact .inr h
   ·rintro τ ys H3 ⟨rfl,_,_,hys⟩ l8 hl8
    have n8:=same_new hl8 (.lst ys)
    have e8:=zf (H:=H3) (a:=l8) (o:=.lst ys)
    refine ⟨_,rfl,by show 0<=sizeLine; decide,fun l9 hl9=>?_⟩
    have n9:=n8.new (o:=.lst []) hl9
    rcases hys with ⟨rfl,hno⟩ | ⟨i,p0,a0,rest,i1,i2,i3,rfl⟩
    ·refine ⟨l8,l9,_,rfl,rfl,SqL.of (old hl9 e8),SqL.of zf,true,rfl,iteT ?_⟩
     have hf:fnd as (tgf (y :: t))=none:=UN.mpr fun a ha=>by
      obtain ⟨j,hj⟩:=Ud ha
      have:=hno j a (by rw [ub,lt]; exact (ud.mp hj).1) hj
      simpa using this
     rw [hf] at q2
     exact ⟨by show 2<=sizeLine; decide,fun t1 ht1=>⟨by show 2<=sizeLine; decide,fun t2 ht2=>flt _ q2 _ n9 t1 ht1 t2 ht2⟩⟩
    ·refine ⟨l8,l9,_,rfl,rfl,SqL.of (old hl9 e8),SqL.of zf,false,rfl,iteF (nxt ?_)⟩
     obtain ⟨q0,s0,g1,g2,g3⟩:=hg i p0 a0 i1 i2
     have am0:a0∈as.hs:=uu i2
     obtain ⟨y0,hy0,hy1⟩:=hend.2 a0 am0
     obtain ⟨_,_,o3⟩:=hOs.at a0 am0
     rw [hy0] at g3 o3
     have g3:H3 s0=some (.tup [.str "give",.str y0]):=g3
     have hyk:y0∈ks':=by
      have:y0∈ks' ++ a0.2.1:=by simpa only [OkX] using o3
      rcases uN.mp this with h | h
      ·exact h
      ·exact absurd h hy1
     rw [i3] at q2
     dsimp only at q2
     rw [hy0] at q2
     dsimp only at q2
     rw [Zr (e:=e') hy1] at q2
     obtain ⟨v',hv',f'⟩:=fin y0 hyk
     refine ⟨_,rfl,ixL (old hl9 e8) (zj (j:=0) rfl) (ixT (n9 _ _ g1) (zj (j:=2) rfl) ?_)⟩
     exact ⟨_,rfl,_,rfl,ixT (n9 _ _ g3) (zj (j:=1) rfl) ⟨nd,v',rfl,(by rw [<- hv']; exact DGet.k (k:=.inr y0) (n9 _ _ hN2)),by show 2<=sizeLine; decide,fun t2 ht2=>f' q2 _ n9 t2 ht2⟩⟩
end
end GN
namespace GN
open PySem L2 K11
theorem At.fl {v:V} (h:At v):xc v=true:=by
 match v,h with
 | .int _,_=>rfl
 | .str _,_=>rfl
theorem vK {H:Hp} {n:Nat} {xs:List V} {a b:Addr} (h:(H a=some (.lst xs)/\H b=some (.lst xs))\/(H a=some (.tup xs)/\H b=some (.tup xs))) (f:∀ x∈xs,xc x=true):Sme (n + 2) H (.ref a) (.ref b) :=
 .inr ⟨a,b,xs,xs,rfl,rfl,h,rfl,fun i u v h1 h2=>.inl ⟨f u (uu h1),by rw [h1] at h2; exact Ul.inj h2⟩⟩
def AtG:Oc->Prop
 | .told f=>∀ x∈f,At x
 | _=>True
theorem AnsG.same {H H':Hp} {r:Addr} {st:Int} {o:Oc} (h:AnsG H r st o) (s:Same H H'):AnsG H' r st o:=by
 match o,h with
 | .told f,h=>obtain ⟨l,a,b⟩:=h; exact ⟨l,s _ _ a,s _ _ b⟩
 | .late,h=>exact s _ _ h
 | .fault w,h=>exact s _ _ h
def Y3:Sp:=fun vs H Q _=>∃ (g u:Addr) (st:Int) (o:Oc),vs=[.ref g,.ref u]/\AnsG H g st o/\AnsG H u st o/\AtG o/\∀ H',Same H H'->Q (.bl true) H'
section
variable {P:Program} {w:World} {K:ua} {mg:Str->Option Value} {base:Heap} {f:Addr} {fd:FuncData}
theorem scSame:FnScope ["_law_got","_law_due_here","_law_parts"] ["_law_got","_law_due_here"] (zp WW):=⟨rfl,rfl,rfl,by decide +kernel,rfl,by decide +kernel,by decide +kernel⟩
theorem zaF:(["_law_got","_law_due_here","_law_parts","_law_one"]:List Str).Nodup:=by decide +kernel
theorem VO (F:Fun K "_law_same" "_law_same" WW f fd) (m_isinstance:mg "isinstance"=none) (m_list:mg "list"=none) (m_bool:mg "bool"=none) (m_tuple:mg "tuple"=none) (m_len:mg "len"=none):FnOk P w K mg base CX0 1 f fd ["_law_got","_law_due_here"] Y3:=by
 refine F.by scSame (fun vs H Q E h=>?_) (fun cdv A outer s H vs Q E hr h=>?_)
 ·obtain ⟨g,u,st,o,rfl,_⟩:=h
  rfl
 obtain ⟨g,u,st,o,rfl,hg,hu,hat,q⟩:=h
 refine ⟨_,
  (zi (zH (jW.pt (wk (y6 (ye (zG zY rfl m_isinstance uJ (ja_c (jv 0) (ja_c (yu (v:=.ty "tuple") rfl m_tuple uW rfl) zg))))) (wk (zt xQ (zG zz rfl m_len uC (ja_c (jv 0) zg)) zh (zw _)) (xH (zt xQ (zq zr (jv 0) zh (fun _ _=>rfl)) (zq zr (jv 1) zh (fun _ _=>rfl)) (zw _)))))) (zk (zx xf)) zA)
  (zi (zH (zt zL (zq zr (jv 1) zh (fun _ _=>rfl)) zu (zw _))
   (zk (zx (wJ (vV (zG zY rfl m_isinstance uJ (ja_c (zq zr (jv 0) zh (fun _ _=>rfl)) (ja_c (yu (v:=.ty "bool") rfl m_bool UJ rfl) zg)))) (wI (yH zL (zq zr (jv 0) zh (fun _ _=>rfl)) (zq zr (jv 1) zh (fun _ _=>rfl)) (zw _))))))  zA)
  (zi (zH (zt zL (zq zr (jv 1) zh (fun _ _=>rfl)) zu (zw _)) (zk (zx (yH zL (zq zr (jv 0) zh (fun _ _=>rfl)) (zq zr (jv 1) zh (fun _ _=>rfl)) (zw _)))) zA)
  (zi (zv (i:=2) scSame.nd rfl (Or.inl rfl) (zq zr (jv 0) zh (fun _ _=>rfl)))
  (zi (zH (jW.pt (wk (y6 (ye (zG zY rfl m_isinstance uJ (ja_c (jv 2) (ja_c (yu (v:=.ty "list") rfl m_list UX rfl) zg))))) (xH (zt xQ (zG zz rfl m_len uC (ja_c (jv 2) zg)) (zG zz rfl m_len uC (ja_c (zq zr (jv 1) zh (fun _ _=>rfl)) zg)) (zw _))))) (zk (zx xf)) zA)
  (zk (zx (wJ (yH (ZO hr) (yA ["_law_one"] rfl (yx (jv 2)) (fun _ _ _ _ _=>(zD (i:=3) zaF rfl (Or.inl rfl))) (fun _ _ _ _ _=>(wy (ye (zG (ZQ K) rfl m_isinstance uJ (ja_c (jv 3) (ja_c (yu (v:=.ty "bool") rfl m_bool UJ rfl) zg)))))) (fun _ _ _ _ _=>(jv 3))) (zZ zg) (zw _)) (wI (yH (Ve (n:=3) (by decide) hr) (jv 2) (zq zr (jv 1) zh (fun _ _=>rfl)) (zw _))))))))))),?_⟩
 have sl:=zQ
 match o,hg,hu,hat with
 | .late,hg,hu,_ =>
  have hg:H g=some (.tup [.str "late",.int st]):=hg
  have hu:H u=some (.tup [.str "late",.int st]):=hu
  refine ⟨_,rfl,_,_,_,_,rfl,.tup hg,rfl,_,rfl,iteF ⟨_,rfl,g,_,rfl,.inr (SqT.of hg),rfl,_,rfl,zI rfl ⟨_,rfl,ixT hg rfl ⟨_,rfl,ixT hu rfl ⟨rfl,_,rfl,zI (by simp) (nxt ?_)⟩⟩⟩⟩⟩
  refine ⟨_,rfl,ixT hu rfl ⟨rfl,_,rfl,zV (by decide +kernel) ?_⟩⟩
  refine ⟨_,rfl,ixT hg (zj (j:=1) rfl) ⟨_,_,_,_,rfl,.int _,rfl,_,rfl,_,rfl,iteT ?_⟩⟩
  refine ⟨_,rfl,ixT hg (zj (j:=1) rfl) ⟨_,rfl,ixT hu (zj (j:=1) rfl) ⟨rfl,?_⟩⟩⟩
  rw [decide_eq_true rfl]
  exact q _ (Same.refl _)
 | .fault ww,hg,hu,_ =>
  have hg:H g=some (.tup [.str "fault",.str ww]):=hg
  have hu:H u=some (.tup [.str "fault",.str ww]):=hu
  refine ⟨_,rfl,_,_,_,_,rfl,.tup hg,rfl,_,rfl,iteF ⟨_,rfl,g,_,rfl,.inr (SqT.of hg),rfl,_,rfl,zI rfl ⟨_,rfl,ixT hg rfl ⟨_,rfl,ixT hu rfl ⟨rfl,_,rfl,zI (by simp) (nxt ?_)⟩⟩⟩⟩⟩
  refine ⟨_,rfl,ixT hu rfl ⟨rfl,_,rfl,zI (by decide +kernel) (nxt ?_)⟩⟩
  refine ⟨_,rfl,ixT hu rfl ⟨rfl,_,rfl,zV (by decide +kernel) ?_⟩⟩
  refine ⟨_,rfl,ixT hg (zj (j:=1) rfl) ⟨_,rfl,ixT hu (zj (j:=1) rfl) ⟨rfl,?_⟩⟩⟩
  rw [decide_eq_true rfl]
  exact q _ (Same.refl _)
 | .told ff,hg,hu,hat =>
  obtain ⟨lg,hg,hlg⟩:=hg
  obtain ⟨lu,hu,hlu⟩:=hu
  have hat:∀ x∈ff.take 100,At x:=fun x hx=>hat x (List.mem_of_mem_take hx)
  generalize ff.take 100=xs at *
  refine ⟨_,rfl,_,_,_,_,rfl,.tup hg,rfl,_,rfl,iteF ⟨_,rfl,g,_,rfl,.inr (SqT.of hg),rfl,_,rfl,zI rfl ⟨_,rfl,ixT hg rfl ⟨_,rfl,ixT hu rfl ⟨rfl,_,rfl,zI (by simp) (nxt ?_)⟩⟩⟩⟩⟩
  refine ⟨_,rfl,ixT hu rfl ⟨rfl,_,rfl,zI (by decide +kernel) (nxt ?_)⟩⟩
  refine ⟨_,rfl,ixT hu rfl ⟨rfl,_,rfl,zI (by decide +kernel) (nxt ?_)⟩⟩
  refine ⟨_,rfl,ixT hg (zj (j:=1) rfl) ?_⟩
  refine ⟨_,rfl,_,_,_,_,rfl,.lst hlg,rfl,_,rfl,iteF ⟨_,rfl,lg,_,rfl,.inl (SqL.of hlg),_,rfl,ixT hu (zj (j:=1) rfl) ⟨lu,_,rfl,.inl (SqL.of hlu),rfl,_,rfl,zI (by simp) (nxt ?_)⟩⟩⟩
  refine ⟨_,rfl,lg,rfl,⟨_,SqL.of hlg⟩,yG (K:=K) (xs:=xs) (fun i τ ys H'=>H=H'/\(∃ x,τ=[some (.ref g),some (.ref u),some (.ref lg),x])/\ys=[]) ⟨rfl,⟨none,rfl⟩,rfl⟩ (fun i τ ys H' _ h=>by rw [<- h.1]; exact SqL.of hlg) ?_ ?_⟩
  ·rintro i x τ ys H' hx ⟨rfl,⟨y,rfl⟩,rfl⟩
   match x,hat x (uu hx) with
   | .int j,_=>exact ⟨_,rfl,_,_,_,_,rfl,.int _,rfl,_,rfl,iteF ⟨rfl,⟨_,rfl⟩,rfl⟩⟩
   | .str j,_=>exact ⟨_,rfl,_,_,_,_,rfl,.str _,rfl,_,rfl,iteF ⟨rfl,⟨_,rfl⟩,rfl⟩⟩
  ·rintro τ ys H' ⟨rfl,_,rfl⟩ p1 hp1
   refine ⟨by show 0<=sizeLine; decide,fun p2 hp2=>?_⟩
   have n1:=(same_new hp1 (.lst [])).new (o:=.lst []) hp2
   refine ⟨p1,p2,_,rfl,rfl,SqL.of (old hp2 zf),SqL.of zf,true,rfl,iteT ?_⟩
   refine ⟨_,rfl,_,rfl,ixT (n1 _ _ hu) (zj (j:=1) rfl) ⟨lg,lu,rfl,rfl,vK (.inl ⟨n1 _ _ hlg,n1 _ _ hlu⟩) fun x hx=>(hat x hx).fl,q _ n1⟩⟩
end
theorem DfL.same {d:Addr} {H H':Hp} {ds:Dfl} (h:DfL H d ds) (s:Same H H'):DfL H' d ds:=by
 obtain ⟨dks,a,b⟩:=h
 refine ⟨dks,s _ _ a,fun g x hx=>?_⟩
 obtain ⟨one,pp,pb,c1,c2,c3,c4⟩:=b g x hx
 exact ⟨one,pp,pb,c1,s _ _ c2,s _ _ c3,c4.keep (.of s)⟩
structure ArgOk (kv:Kvs) (ds:Dfl) (xs:List V):Prop where
 h:hgt kv xs=some 1
 l:xs.length<=100
 a:∀ y∈xs,At y
 n:∀ m,askD kv ds xs m=none
def VP (n:Nat):Sp:=fun vs H Q _=>∃ (d al:Addr) (st:Int) (kv:Kvs) (ds:Dfl) (rw_:Rws) (g:Str) (a:Df) (as:List Addr) (xss:List (List V)),vs=[.ref d,.str g,.ref al,.int st]/\DfL H d ds/\Pr37 kv ds rw_/\dfOf ds g=some a/\H al=some (.lst (as.map V.ref))/\as.length=xss.length/\(∀ (i:Nat) l xs,as[i]?=some l->xss[i]?=some xs->H l=some (.lst xs)/\ArgOk kv ds xs)/\a.2.1.length=xss.length/\xss.length<=100/\0<=st/\st<=(n:Int) /\
 ∀ H' r,Same H H'->AnsG H' r st (evD kv ds st rw_ (n + 1) a xss 0).oc->AtG (evD kv ds st rw_ (n + 1) a xss 0).oc->Q (.ref r) H'
theorem Ya {ev:Addr} {H H1 H2:Hp} (s:Same H H1) (h:H ev=none) (x:KX [ev] H1 H2):Same H H2:=fun b o q=>x b o (fun z=>by
 rw [uh.mp z,h] at q
 cases q) (s b o q)
section
variable {P:Program} {w:World} {K:ua} {mg:Str->Option Value} {base:Heap} {f:Addr} {fd:FuncData}
theorem scDueR:FnScope ["_law_defs","_law_name_here","_law_args","_law_steps","_law_got"] ["_law_defs","_law_name_here","_law_args","_law_steps"] (zp sDue):=⟨rfl,rfl,rfl,by decide +kernel,rfl,by decide +kernel,by decide +kernel⟩
theorem zaG:(["_law_defs","_law_name_here","_law_args","_law_steps","_law_got","_law_parts"]:List Str).Nodup:=by decide +kernel
theorem qv {n lv:Nat} (F:Fun K "_law_due" "_law_due" sDue f fd) (GR:Ca P w K mg base CX0 lv "_law_run" ["_law_count","_law_defs","_law_name_here","_law_values"] (Z9 n)):FnOk P w K mg base CX0 (lv + 1) f fd ["_law_defs","_law_name_here","_law_args","_law_steps"] (VP n):=by
 refine F.by scDueR (fun vs H Q E h=>?_) (fun cdv A outer s H vs Q E hr h=>?_)
 ·obtain ⟨d,al,st,kv,ds,rw_,g,a,as,xss,rfl,_⟩:=h
  rfl
 obtain ⟨d,al,st,kv,ds,rw_,g,a,as,xss,rfl,hd,hP,ha,hal,lal,hA,ll,l100,st0,st1,q⟩:=h
 refine ⟨_,
  (zi (zv (i:=4) scDueR.nd rfl (Or.inl rfl) (zy GR hr rfl zC (ja_c (zZ (ja_c zh (ja_c (jv 3) zg))) (ja_c (jv 0) (ja_c (jv 1) (ja_c (yA ["_law_parts"] rfl (yx (jv 2)) (fun _ _ _ _ _=>(zD (i:=5) zaG rfl (Or.inl rfl))) (fun _ _ _ _ _=>ya) (fun _ _ _ _ _=>(zB (ja_c (jv 5) (ja_c zu zg))))) zg))))))
  (zi (zH (ye (zq zr (jv 4) zh (fun _ _=>rfl)))
   (zk (zx (zB (ja_c zu (ja_c (zq zr (zq zr (jv 4) zh (fun _ _=>rfl)) zh (fun _ _=>rfl)) zg)))))  zA)
  (zk (zx (zq zr (jv 4) zh (fun _ _=>rfl)))))),?_⟩
 have sl:=zQ
 refine ⟨_,rfl,by show 2<=sizeLine; decide,fun ct hct=>?_⟩
 have s1:=same_new hct (.lst [.int 0,.int st])
 have ect:=zf (H:=H) (a:=ct) (o:=.lst [.int 0,.int st])
 have hal1:=s1 _ _ hal
 refine ⟨_,rfl,_,rfl,_,rfl,al,rfl,⟨_,SqL.of hal1⟩,yG (K:=K) (xs:=as.map V.ref) (fun j τ ys H'=>Same (upd H ct (.lst [.int 0,.int st])) H'/\(∃ v,τ=[some (.ref d),some (.str g),some (.ref al),some (.int st),none,v])/\LVs kv ds ct H' ys (xss.take j)) ⟨Same.refl _,⟨none,rfl⟩,rfl,fun i v f h=>by simp at h⟩ (fun j τ ys H' _ h=>SqL.of (h.1 _ _ hal1)) ?_ ?_⟩
 ·rintro j v τ ys H2 hv ⟨s2,⟨u,rfl⟩,hys⟩
  rw [uj] at hv
  obtain ⟨l,hl,rfl⟩:=uk.mp hv
  have hj:=(ud.mp hl).1
  have hx:xss[j]?=some (xss[j]'(by lia)):=ug _
  generalize xss[j]'(by lia)=xs at hx
  obtain ⟨g1,g2⟩:=hA j l xs hl hx
  have l1:=hys.1
  rw [uR] at l1
  refine ⟨_,rfl,by show 2<=sizeLine; decide,fun t1 h1=>⟨by lia,s2.new h1,⟨_,rfl⟩,?_⟩⟩
  rw [Ux,hx]
  refine (hys.same (same_new h1 _)).app ⟨rfl,fun i v f e1 e2=>?_⟩
  cases i with
  | succ i=>simp at e1
  | zero =>
   cases e1
   cases e2
   match xs,g2,g1 with
   | [],g2,_=>exact absurd g2.h (by intro z; cases z)
   | x :: r,g2,g1=>exact .pl zf (by rw [uE g2.l]; exact old h1 (s2 _ _ (s1 _ _ g1))) (zo g1 hct) g2.n g2.a g2.h
 ·rintro τ ys H2 ⟨s2,_,hys⟩ vl hvl
  rw [ub,uE (by lia)] at hys
  have s3:=s2.new (o:=.lst ys) hvl
  have s03:=s1.trans s3
  refine ⟨ct,d,vl,0,st,kv,ds,rw_,g,a,ys,xss,rfl,s3 _ _ ect,hd.same s03,hP,ha,zf,hys.same (same_new hvl _),ll,st0,by lia,?_⟩
  cases ho:evD kv ds st rw_ (n + 1) a xss 0 with
  | late =>
   rw [ho] at q
   intro H4 p4 t4 k4 hp4 ht4
   refine ⟨_,rfl,ixT hp4 (zj (j:=0) rfl) ⟨false,rfl,iteF (nxt ?_)⟩⟩
   exact ⟨_,rfl,ixT hp4 (zj (j:=1) rfl) (q _ t4 (Ya s03 hct k4) ht4 trivial)⟩
  | fault ww =>
   rw [ho] at q
   intro H4 p4 t4 k4 hp4 ht4
   refine ⟨_,rfl,ixT hp4 (zj (j:=0) rfl) ⟨false,rfl,iteF (nxt ?_)⟩⟩
   exact ⟨_,rfl,ixT hp4 (zj (j:=1) rfl) (q _ t4 (Ya s03 hct k4) ht4 trivial)⟩
  | ret ff k1 =>
   rw [ho] at q
   intro H4 p4 v4 k4 hct4 hp4 hv4
   obtain ⟨pv,l,r,x,t,rfl,a2,a3,a4⟩:=hv4.fst
   refine ⟨_,rfl,ixT hp4 (zj (j:=0) rfl) ⟨true,rfl,iteT ?_⟩⟩
   refine ⟨_,rfl,ixT hp4 (zj (j:=1) rfl) (ixT a2 (zj (j:=0) rfl) ⟨by show 2<=sizeLine; decide,fun t1 h1=>?_⟩)⟩
   exact q _ t1 ((Ya s03 hct k4).new h1) ⟨l,zf,old h1 a3⟩ hv4.at
end
end GN
namespace GN
open PySem L2 K11
theorem wZ (k:Nat):cl (ys k)=Ut (k % 2) 121:=by
 unfold ys
 rcases (show k % 2=0\/k % 2=1 by lia) with e | e
 ·rw [e]; decide +kernel
 ·rw [e]; decide +kernel
theorem wB {z:Str} {b:Bool} {j k:Nat} (hj:j < 1352) (hk:k < 1352) (h:nm z b j=nm z b k):j=k:=by
 have hl:∀ i:Nat,(cl (core i)).length=3:=fun i=>by rw [xy]; rfl
 have cinj:cl (core j)=cl (core k)->j % 2=k % 2->j=k:=fun e e0=>by
  rw [xy,xy] at e
  injection e with e1 e2
  injection e2 with _ e3
  injection e3 with e3 _
  lia
 have e:=congrArg cl h
 unfold nm at e
 cases b with
 | true =>
  rw [if_pos rfl,if_pos rfl,zP,zP,zP,zP] at e
  have el:=congrArg List.length e
  rw [uf,uf,uf,uf,hl,hl,wZ,wZ,Uz,Uz] at el
  rw [uG,uG] at e
  exact cinj (List.append_inj_left e (by rw [hl,hl])) (by lia)
 | false =>
  rw [if_neg (by decide),if_neg (by decide),zP,zP,zP,zP] at e
  have el:=congrArg List.length e
  rw [uf,uf,uf,uf,hl,hl,wZ,wZ,Uz,Uz] at el
  exact cinj (List.append_inj_right' e (by rw [hl,hl])) (by lia)
theorem Qj {z:Str} {b:Bool} {k:Nat}:nm z b k≠"":=fun e=>by
 have h1:(cl (core k)).length=3:=by rw [xy]; rfl
 have:(cl (nm z b k)).length=0:=by rw [e]; decide +kernel
 unfold nm at this
 split at this
 ·rw [zP,zP,uf,uf] at this; lia
 ·rw [zP,zP,uf,uf] at this; lia
theorem w4:∀ {l:List (Str × Nat)} {kvs:Kvs} {t:Str},t ∉ l.map (·.1)->valV (puts l kvs) (.inr t)=valV kvs (.inr t)
 | [],_,_,_=>rfl
 | a :: l,kvs,t,h=>by
  rw [uP,uq,not_or] at h
  show valV (puts l (putK kvs (.inr a.1) (.int (a.2:Int)))) _=_
  rw [w4 h.2,yV,if_neg (fun e=>h.1 (Sum.inr.inj e))]
end GN
namespace GN
open PySem L2 K11
def Sc37 (H:Hp) (sl:Addr) (ps:List Addr) (sc:List (Str × Int)):Prop:=H sl=some (.lst (ps.map V.ref))/\ps.length=sc.length/\∀ (i:Nat) p a,ps[i]?=some p->sc[i]?=some a->H p=some (.tup [.str a.1,.int a.2])
def ScOk (sc:List (Str × Int)):Prop:=sc≠[]/\sc.length<=12/\∀ a∈sc,-1<=a.2/\a.2<=9
theorem Sc37.same {H H':Hp} {sl:Addr} {ps:List Addr} {sc:List (Str × Int)} (h:Sc37 H sl ps sc) (s:Same H H'):Sc37 H' sl ps sc:=⟨s _ _ h.1,h.2.1,fun i p a h1 h2=>s _ _ (h.2.2 i p a h1 h2)⟩
theorem Sc37.kp {K:ua} {H H':Hp} {st sl:Addr} {B:Nat} {ps:List Addr} {sc:List (Str × Int)} (h:Sc37 H sl ps sc) (k:Kp st H H') (S:Sta K H st B):Sc37 H' sl ps sc:=⟨k.k _ _ (S.neR h.1) h.1,h.2.1,fun i p a h1 h2=>k.tups S _ _ (h.2.2 i p a h1 h2)⟩
def jy (K:ua):Sp:=fun vs H Q _=>∃ (st nl:Addr) (B m:Nat) (ns:List Str),vs=[.ref st,.ref nl,.int (m:Nat)]/\Sta K H st B/\B + 20 < LIM/\H nl=some (.lst (ns.map V.str))/\(m=0\/ns≠[])/\m<=9/\ns.length<=100 /\
 ∀ (H':Hp) (p:Addr) (xs:List Str),Kp st H H'->Sta K H' st (B + 9)->H' p=some (.tup (xs.map V.str))->xs.length=m->(∀ x∈xs,x∈ns)->Q (.ref p) H'
def VQ (K:ua):Sp:=fun vs H Q _=>∃ (st sl:Addr) (B:Nat) (ps:List Addr) (sc:List (Str × Int)),vs=[.ref st,.ref sl]/\Sta K H st B/\B + 100 < LIM/\Sc37 H sl ps sc/\ScOk sc /\
 ∀ (H':Hp) (p:Addr) (x:Str) (ns:List Str),Kp st H H'->Sta K H' st (B + 14)->IsDx H' (.ask x ns) p->x∈sc.map (·.1)->(∀ n∈ns,n∈sc.map (·.1))->ns.length<=9->Q (.ref p) H'
section
variable {P:Program} {w:World} {K:ua} {mg:Str->Option Value} {base:Heap} {f:Addr} {fd:FuncData}
theorem zaH:FnScope ["_law_state","_law_names","_law_many"] ["_law_state","_law_names","_law_many"] (zp WP):=⟨rfl,rfl,rfl,by decide +kernel,rfl,by decide +kernel,by decide +kernel⟩
theorem zaI:(["_law_state","_law_names","_law_many","_law_k"]:List Str).Nodup:=by decide +kernel
theorem qw (F:Fun K "_law_some" "_law_some" WP f fd) (GD:Ca P w K mg base CX0 1 "_law_draw" ["_law_state","_law_many"] (xa K)) (m_range:mg "range"=none) (m_tuple:mg "tuple"=none) (m_len:mg "len"=none):FnOk P w K mg base CX0 2 f fd ["_law_state","_law_names","_law_many"] (jy K):=by
 refine F.by zaH (fun vs H Q E h=>?_) (fun cdv A outer s H vs Q E hr h=>?_)
 ·obtain ⟨st,nl,B,m,ns,rfl,_⟩:=h
  rfl
 obtain ⟨st,nl,B,m,ns,rfl,S0,hB,hnl,hm,m9,n100,q⟩:=h
 refine ⟨_,
  (zk (zx (yh zR rfl m_tuple uW (ja_c (yA ["_law_k"] rfl (yn rfl m_range (ja_c (jv 2) zg)) (fun _ _ _ _ _=>(zD (i:=3) zaI rfl (Or.inl rfl))) (fun _ _ _ _ _=>ya) (fun _ _ _ _ _=>(zq (xW K) (jv 1) (zy GD hr rfl zC (ja_c (jv 0) (ja_c (zG (wr K) rfl m_len uC (ja_c (jv 1) zg)) zg))) (fun _ _=>rfl)))) zg)))),?_⟩
 have sl:=zQ
 have LM:LIM=4611686018427387904:=rfl
 have nn:nl≠st:=S0.neS hnl
 refine ⟨_,rfl,_,rfl,by lia,by lia,yz (n:=m) (fun i τ ys H'=>Kp st H H'/\Sta K H' st (B + i)/\(∃ x,τ=[some (.ref st),some (.ref nl),some (.int (m:Nat)),x])/\∃ xs:List Str,ys=xs.map V.str/\xs.length=i/\∀ x∈xs,x∈ns) ⟨.refl,S0,⟨none,rfl⟩,[],rfl,rfl,fun z hz=>by cases hz⟩ ?_ ?_⟩
 ·rintro i τ ys H1 hi ⟨k1,S1,⟨x,rfl⟩,xs,rfl,lx,hx⟩
  have hi:i < m:=by lia
  have ne:ns≠[]:=by
   rcases hm with h | h
   ·lia
   ·exact h
  have lp:0 < ns.length:=Um.mpr ne
  have lmm:(ns.map V.str).length=ns.length:=ub ..
  refine ⟨_,rfl,_,rfl,_,rfl,nl,_,rfl,.inl (SqL.of (k1.k _ _ nn hnl)),?_⟩
  refine ⟨st,_,B + i,rfl,S1,by lia,by lia,fun H2 r k2 S2 r0 r1=>?_⟩
  have hr':(ns.map V.str)[r.toNat]?=some (.str (ns[r.toNat]'(by lia))):=by rw [uj,ug]; rfl
  refine ⟨nl,_,_,_,rfl,rfl,SqL.of ((k1.trans k2).k _ _ nn hnl),by have:=zj hr'; rw [show ((r.toNat:Nat):Int)=r by lia] at this; exact this,?_⟩
  refine ⟨by rw [ub]; lia,k1.trans k2,S2,⟨_,rfl⟩,xs ++ [ns[r.toNat]'(by lia)],by rw [uF]; rfl,by rw [uf,lx]; rfl,fun y hy=>?_⟩
  rcases uN.mp hy with hy | hy
  ·exact hx y hy
  ·rw [uh.mp hy]
   exact List.getElem_mem _
 ·rintro τ ys H1 ⟨k1,S1,_,xs,rfl,lx,hx⟩ l hl
  refine ⟨l,_,rfl,.inl ⟨SqL.of zf,fun p hp=>?_⟩⟩
  have n1:=(same_new hl (.lst (xs.map V.str))).new (o:=.tup (xs.map V.str)) hp
  exact q _ p xs (k1.trans (.of n1)) ((S1.mono (by lia)).same n1) zf (by lia) hx
theorem scLAsk:FnScope ["_law_state","_law_scope","_law_names","_law_some_here","_law_g","_law_wants"] ["_law_state","_law_scope"] (zp WQ):=⟨rfl,rfl,rfl,by decide +kernel,rfl,by decide +kernel,by decide +kernel⟩
theorem Y4:(["_law_state","_law_scope","_law_names","_law_some_here","_law_g","_law_wants","_law_name_here"]:List Str).Nodup:=by decide +kernel
theorem qx:(["_law_state","_law_scope","_law_names","_law_some_here","_law_g","_law_wants","_law_one"]:List Str).Nodup:=by decide +kernel
theorem qy (F:Fun K "_law_ask" "_law_ask" WQ f fd) (GD:Ca P w K mg base CX0 1 "_law_draw" ["_law_state","_law_many"] (xa K)) (GS:Ca P w K mg base CX0 2 "_law_some" ["_law_state","_law_names","_law_many"] (jy K)) (m_len:mg "len"=none):FnOk P w K mg base CX0 3 f fd ["_law_state","_law_scope"] (VQ K):=by
 refine F.by scLAsk (fun vs H Q E h=>?_) (fun cdv A outer s H vs Q E hr h=>?_)
 ·obtain ⟨st,sl,B,ps,sc,rfl,_⟩:=h
  rfl
 obtain ⟨st,sl,B,ps,sc,rfl,S0,hB,hSc,⟨hne,l12,hw⟩,q⟩:=h
 have r1:Room 1 _:=hr.mono (by decide)
 refine ⟨_,
  (zi (wL [5] ["_law_name_here"] (i:=2) scLAsk.nd rfl (Or.inl rfl) rfl (yx (jv 1)) (fun _ _ _ _ _=>(jc K (n:=2) rfl (zO (zD (i:=6) Y4 rfl (Or.inl rfl)) (zO (zD (i:=5) Y4 rfl (Or.inl rfl)) yI)))) (fun _ _ _ _ _=>ya) (fun _ _ _ _ _=>(jv 6)))
  (zi (y7 ["_law_one"] (i:=3) scLAsk.nd rfl (Or.inl rfl) rfl (yx (jv 1)) (fun _ _ _ _ _=>(zD (i:=6) qx rfl (Or.inl rfl))) (fun _ _ _ _ _=>(wy (zt qW (zq (jb K) (jv 6) zh (fun _ _=>rfl)) zh (zw _)))) (fun _ _ _ _ _=>(jv 6)))
  (zi (zH (jW.pt (wk (zt (ZO r1) (jv 3) (zZ zg) (zw _)) (xH (zt zL (zy GD r1 rfl zC (ja_c (jv 0) (ja_c zh zg))) zh (zw _)))))
   (zk (zx (zB (ja_c zu (ja_c (zq zE (jv 2) (zy GD r1 rfl zC (ja_c (jv 0) (ja_c (zG zz rfl m_len uC (ja_c (jv 2) zg)) zg))) (fun _ _=>rfl)) (ja_c (zy GS hr rfl zC (ja_c (jv 0) (ja_c (jv 2) (ja_c (zy GD r1 rfl zC (ja_c (jv 0) (ja_c zh zg))) zg)))) zg))))))  zA)
  (zi (x6 (zq zE (jv 3) (zF yS (zF yS (zG zz rfl m_len uC (ja_c (jv 3) zg)) zh) (zF yT (zy GD r1 rfl zC (ja_c (jv 0) (ja_c (zG zz rfl m_len uC (ja_c (jv 3) zg)) zg))) (zF yr zh (zy GD r1 rfl zC (ja_c (jv 0) (ja_c (zG zz rfl m_len uC (ja_c (jv 3) zg)) zg)))))) (fun _ _=>rfl)) (xI (n:=2) rfl (zO (zD (i:=4) scLAsk.nd rfl (Or.inl rfl)) (zO (zD (i:=5) scLAsk.nd rfl (Or.inl rfl)) yI))))
  (zk (zx (zB (ja_c zu (ja_c (jv 4) (ja_c (zy GS hr rfl zC (ja_c (jv 0) (ja_c (jv 2) (ja_c (jv 5) zg)))) zg)))))))))),?_⟩
 have sl0:=zQ
 have LM:LIM=4611686018427387904:=rfl
 have lps:=hSc.2.1
 refine ⟨_,rfl,sl,rfl,⟨_,SqL.of hSc.1⟩,yG (K:=K) (xs:=ps.map V.ref) (fun j τ ys H'=>H=H'/\(∃ v5 v6,τ=[some (.ref st),some (.ref sl),none,none,none,v5,v6])/\ys=((sc.take j).map (·.1)).map V.str) ⟨rfl,⟨none,none,rfl⟩,rfl⟩ (fun j τ ys H' _ h=>by rw [<- h.1]; exact SqL.of hSc.1) ?_ ?_⟩
 ·rintro j v τ ys H1 hv ⟨rfl,⟨v5,v6,rfl⟩,rfl⟩
  rw [uj] at hv
  obtain ⟨p,hp,rfl⟩:=uk.mp hv
  have hj:=(ud.mp hp).1
  have ha:sc[j]?=some (sc[j]'(by lia)):=ug _
  generalize sc[j]'(by lia)=aa at ha
  refine ⟨_,_,rfl,SqT.of (hSc.2.2 j p aa hp ha),rfl,_,_,rfl,_,_,rfl,rfl,_,rfl,by rw [ub,ub,uR]; lia,rfl,⟨_,_,rfl⟩,?_⟩
  rw [Ux,ha,uF,uF]
  rfl
 rintro τ ys H1 ⟨rfl,_,rfl⟩ nl hnl
 rw [ub,lps,uE (ui _)]
 obtain ⟨nms,enm⟩:∃ nms,nms=sc.map (·.1):=⟨_,rfl⟩
 rw [<- enm] at q ⊢
 have lnm:nms.length=sc.length:=by rw [enm,ub]
 have lpos:0 < nms.length:=by rw [lnm]; exact Um.mpr hne
 have s1:=same_new hnl (.lst (nms.map V.str))
 have hnl1:=zf (H:=H) (a:=nl) (o:=.lst (nms.map V.str))
 have S1:=S0.same s1
 have hSc1:=hSc.same s1
 have nn:nl≠st:=S0.ne hnl
 show (tSeq _ _:TS) _ _ (upd H nl (.lst (nms.map V.str)))
 generalize upd H nl (.lst (nms.map V.str))=H1 at *
 have k1:Kp st H H1:=.of s1
 refine ⟨_,rfl,sl,rfl,⟨_,SqL.of hSc1.1⟩,yG (K:=K) (xs:=ps.map V.ref) (fun j τ ys H'=>H1=H'/\(∃ v6,τ=[some (.ref st),some (.ref sl),some (.ref nl),none,none,none,v6])/\∃ qs:List Addr,ys=qs.map V.ref/\qs.length<=j/\∀ q∈qs,∃ a∈sc,0<=a.2/\H1 q=some (.tup [.str a.1,.int a.2])) ⟨rfl,⟨none,rfl⟩,[],rfl,ui _,fun q hq=>by cases hq⟩ (fun j τ ys H' _ h=>by rw [<- h.1]; exact SqL.of hSc1.1) ?_ ?_⟩
 ·rintro j v τ ys H2 hv ⟨rfl,⟨v6,rfl⟩,qs,rfl,lq,hqs⟩
  rw [uj] at hv
  obtain ⟨p,hp,rfl⟩:=uk.mp hv
  have hj:=(ud.mp hp).1
  have ha:sc[j]?=some (sc[j]'(by lia)):=ug _
  generalize sc[j]'(by lia)=aa at ha
  have hpa:=hSc1.2.2 j p aa hp ha
  refine ⟨_,rfl,ixT hpa (zj (j:=1) rfl) ⟨_,_,rfl,rfl,_,rfl,ite2 (fun c=>⟨_,rfl,by rw [ub]; lia,rfl,⟨_,rfl⟩,qs ++ [p],by rw [uF]; rfl,by rw [uf]; show _ + 1<=_; lia,fun q' hq'=>?_⟩) (fun c=>⟨rfl,⟨_,rfl⟩,qs,rfl,by lia,hqs⟩)⟩⟩
  rcases uN.mp hq' with hq' | hq'
  ·exact hqs q' hq'
  ·rw [uh.mp hq']
   exact ⟨aa,uu ha,of_decide_eq_true c,hpa⟩
 rintro τ ys H2 ⟨rfl,_,qs,rfl,lq,hqs⟩ l3 hl3
 rw [ub] at lq
 have s2:=same_new hl3 (.lst (qs.map V.ref))
 have hl32:=zf (H:=H1) (a:=l3) (o:=.lst (qs.map V.ref))
 have S2:=S1.same s2
 have hnl2:=s2 _ _ hnl1
 have n3:l3≠st:=S1.ne hl3
 have hqs2:∀ q∈qs,∃ a∈sc,0<=a.2/\upd H1 l3 (.lst (qs.map V.ref)) q=some (.tup [.str a.1,.int a.2]):=fun q hq=>let ⟨a,h1,h2,h3⟩:=hqs q hq; ⟨a,h1,h2,s2 _ _ h3⟩
 have k2:Kp st H (upd H1 l3 (.lst (qs.map V.ref))):=k1.trans (.of s2)
 dsimp only [Ub,L2.start]
 generalize upd H1 l3 (.lst (qs.map V.ref))=H2 at *
 clear hqs s1 s2
 have atn:∀ {r:Int},0<=r->r < (nms.length:Nat)->∃ x∈nms,atI (nms.map V.str) r=some (.str x):=fun {r} h0 h1=>by
  have hr':(nms.map V.str)[r.toNat]?=some (.str (nms[r.toNat]'(by lia))):=by rw [uj,ug]; rfl
  have:=zj hr'
  rw [show ((r.toNat:Nat):Int)=r by lia] at this
  exact ⟨_,List.getElem_mem _,this⟩
 refine (show ∀ (uA u:TS) (D:Ends),D.rt=Q->(∀ (D':Ends) (H3:Hp),D'.rt=Q->Kp st H2 H3->Sta K H3 st (B + 1)->uA D' [some (.ref st),some (.ref sl),some (.ref nl),some (.ref l3),none,none] H3)->(∀ H3,Kp st H2 H3->Sta K H3 st (B + 1)->qs≠[]->u D [some (.ref st),some (.ref sl),some (.ref nl),some (.ref l3),none,none] H3)->(tSeq (tIfS _ uA Yc) u:TS) D [some (.ref st),some (.ref sl),some (.ref nl),some (.ref l3),none,none] H2 from ?kk) _ _ _ (by rfl) ?gg ?tt
 case kk =>
  intro uA u D hD' hA hU
  refine ⟨_,rfl,by show 0<=sizeLine; decide,fun l9 hl9=>?_⟩
  have s9:=same_new hl9 (.lst [])
  by_cases cq:qs=[]
  ·have hl32:H2 l3=some (.lst []):=by rw [hl32,cq]; rfl
   exact ⟨l3,l9,_,rfl,rfl,SqL.of (s9 _ _ hl32),SqL.of zf,true,rfl,iteT (iteT (hA _ _ hD' (.of s9) ((S2.same s9).mono (by lia))))⟩
  ·obtain ⟨q0,qr,eq⟩:=List.exists_cons_of_ne_nil cq
   have hl32:H2 l3=some (.lst (.ref q0 :: qr.map V.ref)):=by rw [hl32,eq]; rfl
   refine ⟨l3,l9,_,rfl,rfl,SqL.of (s9 _ _ hl32),SqL.of zf,false,rfl,iteF ?_⟩
   refine ⟨_,rfl,st,6,B,rfl,S2.same s9,by lia,by decide,fun H3 r k3 S3 _ _=>⟨rfl,_,rfl,ite2 (fun c=>hA _ _ hD' ((Kp.of s9).trans k3) S3) (fun c=>nxt (hU _ ((Kp.of s9).trans k3) S3 cq))⟩⟩
 case gg =>
  intro D' H3 hD' k3 S3
  have hnl3:=k3.k _ _ nn hnl2
  refine ⟨_,rfl,_,rfl,_,rfl,nl,_,rfl,.inl (SqL.of hnl3),?_⟩
  rw [ub]
  refine ⟨st,_,B + 1,rfl,S3,by lia,by lia,fun H4 r4 k4 S4 r40 r41=>?_⟩
  obtain ⟨x,hx,hax⟩:=atn r40 r41
  refine ⟨nl,_,_,_,rfl,rfl,SqL.of (k4.k _ _ nn hnl3),hax,_,rfl,_,rfl,_,rfl,st,4,B + 1 + 1,rfl,S4,by lia,by decide,fun H5 r5 k5 S5 r50 r51=>?_⟩
  obtain ⟨m,rfl⟩:∃ m:Nat,r5=(m:Int):=⟨r5.toNat,by lia⟩
  refine ⟨st,nl,B + 1 + 1 + 1,m,nms,rfl,S5,by lia,k5.k _ _ nn (k4.k _ _ nn hnl3),.inr (Um.mp lpos),by lia,by lia,fun H6 p6 xs k6 S6 hp6 lx hxs=>⟨by show 3<=sizeLine; decide,fun p hp=>?_⟩⟩
  rw [hD']
  have n7:=same_new hp (.tup [.str "ask",.str x,.ref p6])
  exact q _ p x xs (((((k2.trans k3).trans k4).trans k5).trans k6).trans (.of n7)) ((S6.mono (by lia)).same n7) ⟨p6,zf,n7 _ _ hp6⟩ hx hxs (by lia)
 case tt =>
  intro H3 k3 S3 cq
  have hl33:=k3.k _ _ n3 hl32
  have lq0:0 < qs.length:=Um.mpr cq
  refine ⟨_,rfl,_,rfl,l3,_,rfl,.inl (SqL.of hl33),_,_,rfl,rfl,_,rfl,_,rfl,l3,_,rfl,.inl (SqL.of hl33),?_⟩
  rw [ub]
  refine ⟨st,_,B + 1,rfl,S3,by lia,by lia,fun H4 r4 k4 S4 r40 r41=>?_⟩
  have hl34:=k4.k _ _ n3 hl33
  refine ⟨_,rfl,_,rfl,l3,_,rfl,.inl (SqL.of hl34),?_⟩
  rw [ub]
  refine ⟨st,_,B + 1 + 1,rfl,S4,by lia,by lia,fun H5 r5 k5 S5 r50 r51=>⟨_,_,rfl,rfl,_,_,rfl,rfl,(by show (0:Int) < 1 + r5; lia),_,_,rfl,rfl,?_⟩⟩
  have hl35:=k5.k _ _ n3 hl34
  have e1:=Int.emod_nonneg r4 (show (1 + r5:Int)≠0 by lia)
  have e2:=tj r4 (show (0:Int) < 1 + r5 by lia)
  obtain ⟨ix,hix⟩:∃ ix:Nat,((qs.length:Nat):Int) - 1 - r4 % (1 + r5)=(ix:Int):=⟨(((qs.length:Nat):Int) - 1 - r4 % (1 + r5)).toNat,by lia⟩
  have hq0:qs[ix]?=some (qs[ix]'(by lia)):=ug _
  generalize qs[ix]'(by lia)=q0 at hq0
  have hq1:(qs.map V.ref)[ix]?=some (.ref q0):=by rw [uj,hq0]; rfl
  obtain ⟨aa,am,aw,hqa⟩:=hqs2 q0 (uu hq0)
  have k35:=(k3.trans k4).trans k5
  have hqa5:=k35.tups S2 _ _ hqa
  obtain ⟨m,hm⟩:∃ m:Nat,aa.2=(m:Int):=⟨aa.2.toNat,by lia⟩
  have hw1:=hw aa am
  have hat:=zj hq1
  rw [<- hix] at hat
  refine ⟨l3,_,_,_,rfl,rfl,SqL.of hl35,hat,q0,_,rfl,SqT.of hqa5,rfl,_,_,rfl,_,_,rfl,rfl,?_⟩
  dsimp only [Ub]
  rw [hm]
  refine ⟨_,rfl,_,rfl,_,rfl,_,rfl,st,nl,_,m,nms,rfl,S5,by lia,k35.k _ _ nn hnl2,.inr (Um.mp lpos),by lia,by lia,fun H6 p6 xs k6 S6 hp6 lx hxs=>⟨by show 3<=sizeLine; decide,fun p hp=>?_⟩⟩
  have n7:=same_new hp (.tup [.str "ask",.str aa.1,.ref p6])
  exact q _ p aa.1 xs (((k2.trans k35).trans k6).trans (.of n7)) ((S6.mono (by lia)).same n7) ⟨p6,zf,n7 _ _ hp6⟩ (by rw [enm]; exact Ua.mpr ⟨aa,am,rfl⟩) hxs (by lia)
end
end GN
namespace GN
open PySem L2 K11
def Good (z:Str) (b:Bool) (hs:Dfl) (ks:List Str):Dx->Prop
 | .dd (.num i)=>Sm i
 | .dd (.op _ _ _)=>False
 | .dd (.mk t ns)=>∃ m:Nat,m < 5/\t=nm z b m/\ns.length=m/\∀ n∈ns,n∈ks
 | .fn g ns=>∃ a∈hs,g=a.1/\ns.length<=a.2.1.length/\∀ n∈ns,n∈ks
 | .call g ns=>∃ a∈hs,g=a.1/\ns.length=a.2.1.length/\∀ n∈ns,n∈ks
 | .ask x ns=>x∈ks/\(∀ n∈ns,n∈ks)/\ns.length<=9
def VR (K:ua):Sp:=fun vs H Q _=>∃ (st sl dl wp:Addr) (B:Nat) (ps:List Addr) (sc:List (Str × Int)) (os:List Addr) (hs:Dfl) (z:Str) (b:Bool),vs=[.ref st,.ref sl,.ref dl,.ref wp]/\Sta K H st B/\B + 200 < LIM/\Sc37 H sl ps sc/\ScOk sc/\H dl=some (.lst (os.map V.ref))/\IsDs H os hs/\hs.length=3/\(∀ a∈hs,a.2.1.length<=4)/\H wp=some (.lst [.str z,.bl b])/\z.length<=6 /\
 ∀ (H':Hp) (p pd:Addr) (dd:Dx) (w:Int),Kp st H H'->Sta K H' st (B + 30)->H' p=some (.tup [.ref pd,.int w])->IsDx H' dd pd->Good z b hs (sc.map (·.1)) dd->-1<=w->w<=9->Q (.ref p) H'
section
variable {P:Program} {w:World} {K:ua} {mg:Str->Option Value} {base:Heap} {f:Addr} {fd:FuncData}
theorem scDeed:FnScope ["_law_state","_law_scope","_law_defs","_law_world","_law_names","_law_way","_law_size","_law_name_here","_law_params","_law_body","_law_many"] ["_law_state","_law_scope","_law_defs","_law_world"] (zp WR):=⟨rfl,rfl,rfl,by decide +kernel,rfl,by decide +kernel,by decide +kernel⟩
theorem VS:(["_law_state","_law_scope","_law_defs","_law_world","_law_names","_law_way","_law_size","_law_name_here","_law_params","_law_body","_law_many","_law_wants"]:List Str).Nodup:=by decide +kernel
theorem qz (F:Fun K "_law_deed" "_law_deed" WR f fd) (GD:Ca P w K mg base CX0 1 "_law_draw" ["_law_state","_law_many"] (xa K)) (GM:Ca P w K mg base CX0 1 "_law_name" ["_law_world","_law_k"] spNm) (GS:Ca P w K mg base CX0 2 "_law_some" ["_law_state","_law_names","_law_many"] (jy K)) (GA:Ca P w K mg base CX0 3 "_law_ask" ["_law_state","_law_scope"] (VQ K)) (m_len:mg "len"=none):FnOk P w K mg base CX0 4 f fd ["_law_state","_law_scope","_law_defs","_law_world"] (VR K):=by
 refine F.by scDeed (fun vs H Q E h=>?_) (fun cdv A outer s H vs Q E hr h=>?_)
 ·obtain ⟨st,sl,dl,wp,B,ps,sc,os,hs,z,b,rfl,_⟩:=h
  rfl
 obtain ⟨st,sl,dl,wp,B,ps,sc,os,hs,z,b,rfl,S0,hB,hSc,hOk,hdl,hds,l3,h4,hwp,lz,q⟩:=h
 obtain ⟨hne,l12,hw⟩:=id hOk
 have r1:Room 1 _:=hr.mono (by decide)
 have r2:Room 2 _:=hr.mono (by decide)
 refine ⟨_,
  (zi (wL [7] ["_law_wants"] (i:=4) scDeed.nd rfl (Or.inl rfl) rfl (yx (jv 1)) (fun _ _ _ _ _=>(jc K (n:=2) rfl (zO (zD (i:=7) VS rfl (Or.inl rfl)) (zO (zD (i:=11) VS rfl (Or.inl rfl)) yI)))) (fun _ _ _ _ _=>ya) (fun _ _ _ _ _=>(jv 7)))
  (zi (zv (i:=5) scDeed.nd rfl (Or.inl rfl) (zy GD r1 rfl zC (ja_c (jv 0) (ja_c zh zg))))
  (zi (zH (zt zL (jv 5) zh (zw _))
   (zk (zx (zB (ja_c (zB (ja_c zu (ja_c (zF yS (zy GD r1 rfl zC (ja_c (jv 0) (ja_c zh zg))) zh) zg))) (ja_c (xj zh) zg)))))  zA)
  (zi (zH (zt zL (jv 5) zh (zw _))
   (zi (zv (i:=6) scDeed.nd rfl (Or.inl rfl) (zy GD r1 rfl zC (ja_c (jv 0) (ja_c zh zg))))
   (zk (zx (zB (ja_c (zB (ja_c zu (ja_c (zy GM r1 rfl zC (ja_c (jv 3) (ja_c (jv 6) zg))) (ja_c (zy GS r2 rfl zC (ja_c (jv 0) (ja_c (jv 4) (ja_c (jv 6) zg)))) zg)))) (ja_c (xj zh) zg))))))  zA)
  (zi (zH (zt jR (jv 5) zh (zw _))
   (zk (zx (zB (ja_c (zy GA hr rfl zC (ja_c (jv 0) (ja_c (jv 1) zg))) (ja_c (xj zh) zg)))))  zA)
  (zi (x6 (zq zE (jv 2) (zy GD r1 rfl zC (ja_c (jv 0) (ja_c zh zg))) (fun _ _=>rfl)) (xI (n:=3) rfl (zO (zD (i:=7) scDeed.nd rfl (Or.inl rfl)) (zO (zD (i:=8) scDeed.nd rfl (Or.inl rfl)) (zO (zD (i:=9) scDeed.nd rfl (Or.inl rfl)) yI)))))
  (zi (zH (zt zL (jv 5) zh (zw _))
   (zk (zx (zB (ja_c (zB (ja_c zu (ja_c (jv 7) (ja_c (zy GS r2 rfl zC (ja_c (jv 0) (ja_c (jv 4) (ja_c (zG zz rfl m_len uC (ja_c (jv 8) zg)) zg)))) zg)))) (ja_c (xj zh) zg)))))  zA)
  (zi (zv (i:=10) scDeed.nd rfl (Or.inl rfl) (zy GD r1 rfl zC (ja_c (jv 0) (ja_c (zF yr (zG zz rfl m_len uC (ja_c (jv 8) zg)) zh) zg))))
  (zk (zx (zB (ja_c (zB (ja_c zu (ja_c (jv 7) (ja_c (zy GS r2 rfl zC (ja_c (jv 0) (ja_c (jv 4) (ja_c (jv 10) zg)))) zg)))) (ja_c (zF yS (zG zz rfl m_len uC (ja_c (jv 8) zg)) (jv 10)) zg))))))))))))),?_⟩
 have sl0:=zQ
 have LM:LIM=4611686018427387904:=rfl
 have lps:=hSc.2.1
 refine ⟨_,rfl,sl,rfl,⟨_,SqL.of hSc.1⟩,yG (K:=K) (xs:=ps.map V.ref) (fun j τ ys H'=>H=H'/\(∃ v7 v11,τ=[some (.ref st),some (.ref sl),some (.ref dl),some (.ref wp),none,none,none,v7,none,none,none,v11])/\ys=((sc.take j).map (·.1)).map V.str) ⟨rfl,⟨none,none,rfl⟩,rfl⟩ (fun j τ ys H' _ h=>by rw [<- h.1]; exact SqL.of hSc.1) ?_ ?_⟩
 ·rintro j v τ ys H1 hv ⟨rfl,⟨v5,v6,rfl⟩,rfl⟩
  rw [uj] at hv
  obtain ⟨p,hp,rfl⟩:=uk.mp hv
  have hj:=(ud.mp hp).1
  have ha:sc[j]?=some (sc[j]'(by lia)):=ug _
  generalize sc[j]'(by lia)=aa at ha
  refine ⟨_,_,rfl,SqT.of (hSc.2.2 j p aa hp ha),rfl,_,_,rfl,_,_,rfl,rfl,_,rfl,by rw [ub,ub,uR]; lia,rfl,⟨_,_,rfl⟩,?_⟩
  rw [Ux,ha,uF,uF]
  rfl
 rintro τ ys H1 ⟨rfl,_,rfl⟩ nl hnl
 rw [ub,lps,uE (ui _)]
 obtain ⟨nms,enm⟩:∃ nms,nms=sc.map (·.1):=⟨_,rfl⟩
 rw [<- enm] at q ⊢
 have lnm:nms.length=sc.length:=by rw [enm,ub]
 have lpos:0 < nms.length:=by rw [lnm]; exact Um.mpr hne
 have nem:nms≠[]:=Um.mp lpos
 have s1:=same_new hnl (.lst (nms.map V.str))
 have hnl1:=zf (H:=H) (a:=nl) (o:=.lst (nms.map V.str))
 have S1:=S0.same s1
 have hSc1:=hSc.same s1
 have nn:nl≠st:=S0.ne hnl
 have nwp:wp≠st:=S0.neW hwp
 have ndl:dl≠st:=S0.neR hdl
 have hwp1:=s1 _ _ hwp
 have hdl1:=s1 _ _ hdl
 have hds1:=hds.keep (.of s1)
 have k1:Kp st H (upd H nl (.lst (nms.map V.str))):=.of s1
 dsimp only [Ub,L2.start]
 show (tSeq _ _:TS) _ _ (upd H nl (.lst (nms.map V.str)))
 generalize upd H nl (.lst (nms.map V.str))=H1 at *
 refine ⟨_,rfl,st,8,B,rfl,S1,by lia,by decide,fun H2 way k2 S2 w0 w8=>?_⟩
 have k12:=k1.trans k2
 have fin:∀ (H3:Hp) (pd:Addr) (dd:Dx) (w:Int),Kp st H H3->Sta K H3 st (B + 30)->IsDx H3 dd pd->Good z b hs nms dd->-1<=w->w<=9->∀ p,H3 p=none->Q (.ref p) (upd H3 p (.tup [.ref pd,.int w])):=fun H3 pd dd w k3 S3 hdd hg h1 h2 p hp=>q _ p pd dd w (k3.trans (.of (same_new hp _))) (S3.same (same_new hp _)) zf (hdd.keep (.of (same_new hp _))) hg h1 h2
 dsimp only [Ub]
 refine ⟨_,rfl,rfl,_,rfl,?_⟩
 by_cases c0:way=0
 ·refine zV (decide_eq_true (by rw [c0])) ?_
  refine ⟨_,rfl,st,99,B + 1,rfl,S2,by lia,by decide,fun H3 r k3 S3 r0 r1=>⟨_,_,rfl,rfl,by show 2<=sizeLine; decide,fun pd hpd=>⟨_,rfl,by show 2<=sizeLine; decide,fun p hp=>?_⟩⟩⟩
  have n4:=same_new hpd (.tup [.str "num",.int (r - 49)])
  exact fin _ pd (.dd (.num (r - 49))) (-1) ((k12.trans k3).trans (.of n4)) ((S3.mono (by lia)).same n4) zf (by show Sm _; unfold Sm; lia) (by decide) (by decide) p hp
 refine zI (decide_eq_false fun h=>c0 (V.int.inj h)) (nxt ⟨_,rfl,rfl,_,rfl,?_⟩)
 by_cases c1:way=1
 ·refine zV (decide_eq_true (by rw [c1])) ?_
  refine ⟨_,rfl,st,5,B + 1,rfl,S2,by lia,by decide,fun H3 r k3 S3 r0 r1=>?_⟩
  obtain ⟨m,rfl⟩:∃ m:Nat,r=(m:Int):=⟨r.toNat,by lia⟩
  have k23:=k2.trans k3
  refine ⟨_,rfl,_,rfl,wp,z,b,[],m,rfl,k23.k _ _ nwp hwp1,lz,_,rfl,_,rfl,_,rfl,st,nl,_,m,nms,rfl,S3,by lia,k23.k _ _ nn hnl1,.inr nem,by lia,by lia,fun H6 p6 xs k6 S6 hp6 lx hxs=>⟨by show 3<=sizeLine; decide,fun pd hpd=>⟨_,rfl,by show 2<=sizeLine; decide,fun p hp=>?_⟩⟩⟩
  have n4:=same_new hpd (.tup [.str "make",.str (nm z b m),.ref p6])
  exact fin _ pd (.dd (.mk (nm z b m) xs)) (-1) (((k1.trans k23).trans k6).trans (.of n4)) ((S6.mono (by lia)).same n4) ⟨p6,zf,n4 _ _ hp6⟩ ⟨m,by lia,rfl,lx,hxs⟩ (by decide) (by decide) p hp
 refine zI (decide_eq_false fun h=>c1 (V.int.inj h)) (nxt ⟨_,rfl,_,_,rfl,rfl,_,rfl,ite2 (fun c4=>?_) (fun c4=>nxt ?_)⟩)
 ·refine ⟨_,rfl,_,rfl,st,sl,_,ps,sc,rfl,S2,by lia,hSc1.kp k2 S1,hOk,fun H3 pd x ns k3 S3 hdd hx hns l9=>⟨_,rfl,by show 2<=sizeLine; decide,fun p hp=>?_⟩⟩
  rw [<- enm] at hx hns
  exact fin _ pd (.ask x ns) (-1) (k12.trans k3) (S3.mono (by lia)) hdd ⟨hx,hns,l9⟩ (by decide) (by decide) p hp
 refine ⟨_,rfl,_,rfl,st,3,B + 1,rfl,S2,by lia,by decide,fun H3 r k3 S3 r0 r3=>?_⟩
 obtain ⟨i,rfl⟩:∃ m:Nat,r=(m:Int):=⟨r.toNat,by lia⟩
 have k23:=k2.trans k3
 have los:=hds1.1
 have ho:os[i]?=some (os[i]'(by lia)):=ug _
 have ha:hs[i]?=some (hs[i]'(by lia)):=ug _
 generalize os[i]'(by lia)=o0 at ho
 generalize hs[i]'(by lia)=a at ha
 have am:a∈hs:=uu ha
 obtain ⟨pp,pb,g1,g2,g3⟩:=(hds1.keep (k23.tups S1)).2 i o0 a ho ha
 have ho1:(os.map V.ref)[i]?=some (.ref o0):=by rw [uj,ho]; rfl
 have a4:=h4 a am
 refine ⟨dl,_,_,_,rfl,rfl,SqL.of (k23.k _ _ ndl hdl1),zj ho1,o0,_,rfl,SqT.of g1,rfl,_,_,rfl,_,_,rfl,_,_,rfl,rfl,?_⟩
 dsimp only [Ub]
 have hnl3:=k23.k _ _ nn hnl1
 have lpp:(a.2.1.map V.str).length=a.2.1.length:=ub ..
 refine ⟨_,rfl,rfl,_,rfl,?_⟩
 by_cases c2:way=2
 ·refine zV (decide_eq_true (by rw [c2])) ?_
  refine ⟨_,rfl,_,rfl,_,rfl,_,rfl,pp,_,rfl,.inr (SqT.of g2),st,nl,_,a.2.1.length,nms,by rw [lpp]; rfl,S3,by lia,hnl3,.inr nem,by lia,by lia,fun H6 p6 xs k6 S6 hp6 lx hxs=>⟨by show 3<=sizeLine; decide,fun pd hpd=>⟨_,rfl,by show 2<=sizeLine; decide,fun p hp=>?_⟩⟩⟩
  have n4:=same_new hpd (.tup [.str "call",.str a.1,.ref p6])
  exact fin _ pd (.call a.1 xs) (-1) (((k1.trans k23).trans k6).trans (.of n4)) ((S6.mono (by lia)).same n4) ⟨p6,zf,n4 _ _ hp6⟩ ⟨a,am,rfl,lx,hxs⟩ (by decide) (by decide) p hp
 refine zI (decide_eq_false fun h=>c2 (V.int.inj h)) (nxt ?_)
 refine ⟨_,rfl,_,rfl,pp,_,rfl,.inr (SqT.of g2),_,_,rfl,rfl,st,_,_,rfl,S3,by lia,by lia,fun H4 r4 k4 S4 r40 r41=>?_⟩
 obtain ⟨m,rfl⟩:∃ m:Nat,r4=(m:Int):=⟨r4.toNat,by lia⟩
 dsimp only [Ub]
 refine ⟨_,rfl,_,rfl,_,rfl,_,rfl,st,nl,_,m,nms,rfl,S4,by lia,k4.k _ _ nn hnl3,.inr nem,by lia,by lia,fun H6 p6 xs k6 S6 hp6 lx hxs=>⟨by show 3<=sizeLine; decide,fun pd hpd=>?_⟩⟩
 have n4:=same_new hpd (.tup [.str "func",.str a.1,.ref p6])
 refine ⟨_,rfl,pp,_,rfl,.inr (SqT.of (n4 _ _ (k6.tups S4 _ _ (k4.tups S3 _ _ g2)))),_,rfl,_,_,rfl,rfl,by show 2<=sizeLine; decide,fun p hp=>?_⟩
 exact fin _ pd (.fn a.1 xs) _ ((((k1.trans k23).trans k4).trans k6).trans (.of n4)) ((S6.mono (by lia)).same n4) ⟨p6,zf,n4 _ _ hp6⟩ ⟨a,am,rfl,by lia,hxs⟩ (by lia) (by lia) p hp
end
end GN
namespace GN
open PySem L2 K11
def w5:List (Str × List Str × Bd)->Arms
 | []=>.nil
 | (t,ns,b) :: r=>.cons t ns b (w5 r)
theorem wc:∀ l:List (Str × List Str × Bd),(w5 l).hs=l
 | []=>rfl
 | (t,ns,b) :: r=>by rw [w5,Arms.hs,wc r]
theorem vL {H:Hp}:∀ {l:List (Str × List Str × Bd)} {ts:List Addr},ts.length=l.length->(∀ (i:Nat) p a,ts[i]?=some p->l[i]?=some a->∃ q s,H p=some (.tup [.str a.1,.ref q,.ref s])/\H q=some (.tup (a.2.1.map V.str))/\IsBd H a.2.2 s)->IsArms H (w5 l) ts
 | [],[],_,_=>rfl
 | [],_ :: _,h,_=>by simp at h
 | _ :: _,[],h,_=>by simp at h
 | (t,ns,b) :: r,p :: ts,h,g=>by
  obtain ⟨q,s,a1,a2,a3⟩:=g 0 p _ rfl rfl
  exact ⟨p,q,s,ts,rfl,a1,a2,a3,vL (by simpa using h) fun i p a h1 h2=>g (i + 1) p a (by simpa using h1) (by simpa using h2)⟩
abbrev nm20 (z:Str) (b:Bool) (k:Nat):List Str:=(UR k).map fun j=>nm z b (20 + j)
def Zs (z:Str) (b:Bool) (ks:List Str):Bd->Prop
 | .give y=>y∈ks
 | .iff x b' c'=>x∈ks/\(∃ y,b'=.give y/\y∈ks)/\∃ y,c'=.give y/\y∈ks
 | .cs x as=>x∈ks/\as.hs.length=5/\∀ a∈as.hs,∃ k:Nat,k < 5/\a.1=nm z b k/\a.2.1=nm20 z b k/\∃ y,a.2.2=.give y/\y∈ks
 | .lt _ _ _=>False
def VT (K:ua):Sp:=fun vs H Q _=>∃ (st sl wp:Addr) (B:Nat) (ps:List Addr) (sc:List (Str × Int)) (z:Str) (b:Bool) (x:Str),vs=[.ref st,.ref sl,.ref wp,.str x]/\Sta K H st B/\B + 200 < LIM/\Sc37 H sl ps sc/\ScOk sc/\H wp=some (.lst [.str z,.bl b])/\z.length<=6/\x∈sc.map (·.1) /\
 ∀ (H':Hp) (p:Addr) (en:Bd),Kp st H H'->Sta K H' st (B + 30)->IsBd H' en p->Zs z b (sc.map (·.1)) en->Q (.ref p) H'
section
variable {P:Program} {w:World} {K:ua} {mg:Str->Option Value} {base:Heap} {f:Addr} {fd:FuncData}
theorem scLast:FnScope ["_law_state","_law_scope","_law_world","_law_x","_law_way","_law_some_here","_law_gives","_law_names"] ["_law_state","_law_scope","_law_world","_law_x"] (zp WS):=⟨rfl,rfl,rfl,by decide +kernel,rfl,by decide +kernel,by decide +kernel⟩
theorem Y5:(["_law_state","_law_scope","_law_world","_law_x","_law_way","_law_some_here","_law_gives","_law_names","_law_name_here","_law_wants"]:List Str).Nodup:=by decide +kernel
theorem jz:(["_law_state","_law_scope","_law_world","_law_x","_law_way","_law_some_here","_law_gives","_law_names","_law_k"]:List Str).Nodup:=by decide +kernel
theorem qA:(["_law_state","_law_scope","_law_world","_law_x","_law_way","_law_some_here","_law_gives","_law_names","_law_k","_law_j"]:List Str).Nodup:=by decide +kernel
theorem qB (F:Fun K "_law_last" "_law_last" WS f fd) (GD:Ca P w K mg base CX0 1 "_law_draw" ["_law_state","_law_many"] (xa K)) (GM:Ca P w K mg base CX0 1 "_law_name" ["_law_world","_law_k"] spNm) (m_len:mg "len"=none) (m_range:mg "range"=none) (m_tuple:mg "tuple"=none):FnOk P w K mg base CX0 2 f fd ["_law_state","_law_scope","_law_world","_law_x"] (VT K):=by
 refine F.by scLast (fun vs H Q E h=>?_) (fun cdv A outer s H vs Q E hr h=>?_)
 ·obtain ⟨st,sl,wp,B,ps,sc,z,b,x,rfl,_⟩:=h
  rfl
 obtain ⟨st,sl,wp,B,ps,sc,z,b,x,rfl,S0,hB,hSc,hOk,hwp,lz,hx,q⟩:=h
 obtain ⟨hne,l12,hw⟩:=id hOk
 have r1:Room 1 _:=hr.mono (by decide)
 refine ⟨_,
  (zi (zv (i:=4) scLast.nd rfl (Or.inl rfl) (zy GD r1 rfl zC (ja_c (jv 0) (ja_c zh zg))))
  (zi (y7 ["_law_name_here","_law_wants"] (i:=5) scLast.nd rfl (Or.inl rfl) rfl (yx (jv 1)) (fun _ _ _ _ _=>(jc K (n:=2) rfl (zO (zD (i:=8) Y5 rfl (Or.inl rfl)) (zO (zD (i:=9) Y5 rfl (Or.inl rfl)) yI)))) (fun _ _ _ _ _=>(wy (zt qW (jv 9) zh (zw _)))) (fun _ _ _ _ _=>(jv 8)))
  (zi (zH (jW.pt (wH (zt (Q2 r1) (jv 5) (zZ zg) (zw _)) (wH (zt wm (jv 4) zh (zw _)) (wx (zt zL (zy GD r1 rfl zC (ja_c (jv 0) (ja_c zh zg))) zh (zw _))))))
   (zk (zv (i:=3) scLast.nd rfl (Or.inl rfl) (zq zE (jv 5) (zy GD r1 rfl zC (ja_c (jv 0) (ja_c (zG zz rfl m_len uC (ja_c (jv 5) zg)) zg))) (fun _ _=>rfl))))  zA)
  (zi (zv (i:=6) scLast.nd rfl (Or.inr rfl) (yA ["_law_k"] rfl (yn rfl m_range (ja_c zh zg)) (fun _ _ _ _ _=>(zD (i:=8) jz rfl (Or.inl rfl))) (fun _ _ _ _ _=>ya) (fun _ _ _ _ _=>(zB (ja_c zu (ja_c (zq (jb K) (zq (xW K) (jv 1) (zy GD r1 rfl zC (ja_c (jv 0) (ja_c (zG (wr K) rfl m_len uC (ja_c (jv 1) zg)) zg))) (fun _ _=>rfl)) zh (fun _ _=>rfl)) zg))))))
  (zi (zH (zt zL (jv 4) zh (zw _))
   (zk (zx (zB (ja_c zu (ja_c (jv 3) (ja_c (zq zE (jv 6) zh (fun _ _=>rfl)) (ja_c (zq zE (jv 6) zh (fun _ _=>rfl)) zg)))))))  zA)
  (zi (zH (zt zL (jv 4) zh (zw _))
   (zi (zv (i:=7) scLast.nd rfl (Or.inr rfl) (yA ["_law_k"] rfl (yn rfl m_range (ja_c zh zg)) (fun _ _ _ _ _=>(zD (i:=8) jz rfl (Or.inl rfl))) (fun _ _ _ _ _=>ya) (fun _ _ _ _ _=>(yh (jd K) rfl m_tuple uW (ja_c (yA ["_law_j"] rfl (yn rfl m_range (ja_c (jv 8) zg)) (fun _ _ _ _ _=>(zD (i:=9) qA rfl (Or.inl rfl))) (fun _ _ _ _ _=>ya) (fun _ _ _ _ _=>(zy GM r1 rfl zC (ja_c (jv 2) (ja_c (zF yr zh (jv 9)) zg))))) zg)))))
   (zk (zx (zB (ja_c zu (ja_c (jv 3) (ja_c (yh zR rfl m_tuple uW (ja_c (yA ["_law_k"] rfl (yn rfl m_range (ja_c zh zg)) (fun _ _ _ _ _=>(zD (i:=8) jz rfl (Or.inl rfl))) (fun _ _ _ _ _=>ya) (fun _ _ _ _ _=>(zB (ja_c (zy GM r1 rfl zC (ja_c (jv 2) (ja_c (jv 8) zg))) (ja_c (zq (xW K) (jv 7) (jv 8) (fun _ _=>rfl)) (ja_c (zq (xW K) (jv 6) (jv 8) (fun _ _=>rfl)) zg)))))) zg)) zg)))))))  zA)
  (zk (zx (zB (ja_c zu (ja_c (jv 3) zg))))))))))),?_⟩
 have sl0:=zQ
 have LM:LIM=4611686018427387904:=rfl
 have lps:=hSc.2.1
 obtain ⟨nms,enm⟩:∃ nms,nms=sc.map (·.1):=⟨_,rfl⟩
 rw [<- enm] at q hx
 have lnm:nms.length=sc.length:=by rw [enm,ub]
 have lpos:0 < sc.length:=Um.mpr hne
 have nwp:wp≠st:=S0.neW hwp
 refine ⟨_,rfl,st,8,B,rfl,S0,by lia,by decide,fun H1 way k1 S1 w0 w8=>?_⟩
 have hSc1:=hSc.kp k1 S0
 have hwp1:=k1.k _ _ nwp hwp
 refine ⟨_,rfl,sl,rfl,⟨_,SqL.of hSc1.1⟩,yG (K:=K) (xs:=ps.map V.ref) (fun j τ ys H'=>H1=H'/\(∃ v8 v9,τ=[some (.ref st),some (.ref sl),some (.ref wp),some (.str x),some (.int way),none,none,none,v8,v9])/\∃ xs:List Str,ys=xs.map V.str/\xs.length<=j/\∀ x∈xs,x∈nms) ⟨rfl,⟨none,none,rfl⟩,[],rfl,ui _,fun x hx=>by cases hx⟩ (fun j τ ys H' _ h=>by rw [<- h.1]; exact SqL.of hSc1.1) ?_ ?_⟩
 ·rintro j v τ ys H2 hv ⟨rfl,⟨v8,v9,rfl⟩,xs,rfl,lx,hxs⟩
  rw [uj] at hv
  obtain ⟨p,hp,rfl⟩:=uk.mp hv
  have hj:=(ud.mp hp).1
  have ha:sc[j]?=some (sc[j]'(by lia)):=ug _
  generalize sc[j]'(by lia)=aa at ha
  have hpa:=hSc1.2.2 j p aa hp ha
  refine ⟨_,_,rfl,SqT.of hpa,rfl,_,_,rfl,_,_,rfl,rfl,_,rfl,_,_,rfl,rfl,_,rfl,ite2 (fun c=>⟨_,rfl,by rw [ub]; lia,rfl,⟨_,_,rfl⟩,xs ++ [aa.1],by rw [uF]; rfl,by rw [uf]; show _ + 1<=_; lia,fun y hy=>?_⟩) (fun c=>⟨rfl,⟨_,_,rfl⟩,xs,rfl,by lia,hxs⟩)⟩
  rcases uN.mp hy with hy | hy
  ·exact hxs y hy
  ·rw [uh.mp hy,enm]
   exact Ua.mpr ⟨aa,uu ha,rfl⟩
 rintro τ ys H2 ⟨rfl,_,xs,rfl,lx,hxs⟩ l5 hl5
 rw [ub] at lx
 have s2:=same_new hl5 (.lst (xs.map V.str))
 have hl52:=zf (H:=H1) (a:=l5) (o:=.lst (xs.map V.str))
 have S2:=S1.same s2
 have hSc2:=hSc1.same s2
 have hwp2:=s2 _ _ hwp1
 have n5:l5≠st:=S1.ne hl5
 have k2:Kp st H (upd H1 l5 (.lst (xs.map V.str))):=k1.trans (.of s2)
 dsimp only [Ub,L2.start]
 generalize upd H1 l5 (.lst (xs.map V.str))=H2 at *
 refine (show ∀ (u:TS) (D:Ends),(∀ (H3:Hp) (x':Str),Kp st H2 H3->Sta K H3 st (B + 3)->x'∈nms->u D [some (.ref st),some (.ref sl),some (.ref wp),some (.str x'),some (.int way),some (.ref l5),none,none] H3)->(tSeq _ u:TS) D [some (.ref st),some (.ref sl),some (.ref wp),some (.str x),some (.int way),some (.ref l5),none,none] H2 from ?kk) _ _ ?rr
 case kk =>
  intro u D hU
  refine ⟨_,rfl,by show 0<=sizeLine; decide,fun l9 hl9=>?_⟩
  have s9:=same_new hl9 (.lst [])
  by_cases cx:xs=[]
  ·have hl52:H2 l5=some (.lst []):=by rw [hl52,cx]; rfl
   exact ⟨l5,l9,_,rfl,rfl,SqL.of (s9 _ _ hl52),SqL.of zf,false,rfl,iteF (iteF (nxt (hU _ x (.of s9) ((S2.same s9).mono (by lia)) hx)))⟩
  ·obtain ⟨x0,xr,ex⟩:=List.exists_cons_of_ne_nil cx
   have hl53:H2 l5=some (.lst (.str x0 :: xr.map V.str)):=by rw [hl52,ex]; rfl
   have lx0:0 < xs.length:=Um.mpr cx
   refine ⟨l5,l9,_,rfl,rfl,SqL.of (s9 _ _ hl53),SqL.of zf,true,rfl,iteT ?_⟩
   refine ⟨_,rfl,_,_,rfl,rfl,_,rfl,ite2 (fun c=>?_) (fun c=>iteF (nxt (hU _ x (.of s9) ((S2.same s9).mono (by lia)) hx)))⟩
   refine ⟨_,rfl,st,2,B + 1,rfl,S2.same s9,by lia,by decide,fun H3 r k3 S3 _ _=>⟨rfl,_,rfl,ite2 (fun c=>?_) (fun c=>nxt (hU _ x ((Kp.of s9).trans k3) (S3.mono (by lia)) hx))⟩⟩
   have k23:=(Kp.of (st:=st) s9).trans k3
   have hl54:=k23.k _ _ n5 hl52
   have lxm:(xs.map V.str).length=xs.length:=ub ..
   refine ⟨_,rfl,_,rfl,_,rfl,l5,_,rfl,.inl (SqL.of hl54),st,_,_,rfl,S3,by lia,by lia,fun H4 r4 k4 S4 r40 r41=>?_⟩
   have hr':(xs.map V.str)[r4.toNat]?=some (.str (xs[r4.toNat]'(by lia))):=by rw [uj,ug]; rfl
   have hat:=zj hr'
   rw [show ((r4.toNat:Nat):Int)=r4 by lia] at hat
   exact ⟨l5,_,_,_,rfl,rfl,SqL.of (k4.k _ _ n5 hl54),hat,hU _ _ (k23.trans k4) S4 (hxs _ (List.getElem_mem _))⟩
 case rr =>
  intro H3 x' k3 S3 hx'
  have hSc3:=hSc2.kp k3 S2
  have hwp3:=k3.k _ _ nwp hwp2
  have k03:=k2.trans k3
  have lpm:(ps.map V.ref).length=sc.length:=by rw [ub]; exact lps
  refine ⟨_,rfl,by show -(2 ^ 62)<=(5:Int); decide,by show (5:Int) < 2 ^ 62; decide,yz (fun j τ ys H'=>Kp st H3 H'/\Sta K H' st (B + 3 + j)/\(∃ v8,τ=[some (.ref st),some (.ref sl),some (.ref wp),some (.str x'),some (.int way),some (.ref l5),none,none,v8])/\∃ gs:List (Addr × Str),ys=gs.map (fun g=>.ref g.1)/\gs.length=j/\∀ g∈gs,g.2∈nms/\H' g.1=some (.tup [.str "give",.str g.2])) ⟨.refl,S3,⟨none,rfl⟩,[],rfl,rfl,fun g hg=>by cases hg⟩ ?_ ?_⟩
  ·rintro j τ ys H4 hj ⟨k4,S4,⟨v8,rfl⟩,gs,rfl,lg,hgs⟩
   have hj:j < 5:=hj
   have hSc4:=hSc3.kp k4 S3
   refine ⟨_,rfl,_,rfl,_,rfl,sl,_,rfl,.inl (SqL.of hSc4.1),st,_,_,rfl,S4,by lia,by lia,fun H5 r5 k5 S5 r50 r51=>?_⟩
   have hSc5:=hSc4.kp k5 S4
   have hp0:ps[r5.toNat]?=some (ps[r5.toNat]'(by lia)):=ug _
   have ha0:sc[r5.toNat]?=some (sc[r5.toNat]'(by lia)):=ug _
   generalize ps[r5.toNat]'(by lia)=p0 at hp0
   generalize sc[r5.toNat]'(by lia)=a0 at ha0
   have hr':(ps.map V.ref)[r5.toNat]?=some (.ref p0):=by rw [uj,hp0]; rfl
   have hat:=zj hr'
   rw [show ((r5.toNat:Nat):Int)=r5 by lia] at hat
   refine ⟨sl,_,_,_,rfl,rfl,SqL.of hSc5.1,hat,ixT (hSc5.2.2 _ p0 a0 hp0 ha0) (zj (j:=0) rfl) ⟨by show 2<=sizeLine; decide,fun t1 h1=>⟨by rw [ub]; lia,(k4.trans k5).new h1,S5.new h1 _,⟨_,rfl⟩,gs ++ [(t1,a0.1)],by rw [uF]; rfl,by rw [uf,lg]; rfl,fun g hg=>?_⟩⟩⟩
   rcases uN.mp hg with hg | hg
   ·exact ⟨(hgs g hg).1,old h1 (k5.tups S4 _ _ (hgs g hg).2)⟩
   ·rw [uh.mp hg]
    exact ⟨by rw [enm]; exact Ua.mpr ⟨a0,uu ha0,rfl⟩,zf⟩
  rintro τ ys H4 ⟨k4,S4,_,gs,rfl,lg,hgs⟩ l6 hl6
  have lg:gs.length=5:=lg
  have S4:Sta K H4 st (B + 8):=S4
  have s5:=same_new hl6 (.lst (gs.map fun g=>V.ref g.1))
  have hl65:=zf (H:=H4) (a:=l6) (o:=.lst (gs.map fun g=>V.ref g.1))
  have S5:=S4.same s5
  have hgs5:∀ g∈gs,g.2∈nms/\upd H4 l6 (.lst (gs.map fun g=>V.ref g.1)) g.1=some (.tup [.str "give",.str g.2]):=fun g hg=>⟨(hgs g hg).1,s5 _ _ (hgs g hg).2⟩
  have k05:Kp st H (upd H4 l6 (.lst (gs.map fun g=>V.ref g.1))):=(k03.trans k4).trans (.of s5)
  have hwp5:=s5 _ _ (k4.k _ _ nwp hwp3)
  have gat:∀ i:Nat,i < 5->∃ g∈gs,(gs.map fun g=>V.ref g.1)[i]?=some (.ref g.1)/\gs[i]?=some g:=fun i hi=>by
   have hg:gs[i]?=some (gs[i]'(by lia)):=ug _
   exact ⟨_,uu hg,by rw [uj,hg]; rfl,hg⟩
  dsimp only [Ub]
  generalize upd H4 l6 (.lst (gs.map fun g=>V.ref g.1))=H5 at *
  clear hgs hl6 s5 k4 hSc3 S3 k3
  refine ⟨_,rfl,rfl,_,rfl,?_⟩
  by_cases c0:way=0
  ·obtain ⟨g0,m0,e0,_⟩:=gat 0 (by decide)
   obtain ⟨g1,m1,e1,_⟩:=gat 1 (by decide)
   refine zV (decide_eq_true (by rw [c0])) ?_
   refine ⟨_,rfl,_,rfl,l6,_,_,_,rfl,rfl,SqL.of hl65,zj e0,_,rfl,l6,_,_,_,rfl,rfl,SqL.of hl65,zj e1,by show 4<=sizeLine; decide,fun p hp=>?_⟩
   have n6:=same_new hp (.tup [.str "if",.str x',.ref g0.1,.ref g1.1])
   exact q _ p (.iff x' (.give g0.2) (.give g1.2)) (k05.trans (.of n6)) ((S5.mono (by lia)).same n6) ⟨g0.1,g1.1,zf,n6 _ _ (hgs5 g0 m0).2,n6 _ _ (hgs5 g1 m1).2⟩ ⟨hx',⟨_,rfl,(hgs5 g0 m0).1⟩,_,rfl,(hgs5 g1 m1).1⟩
  refine zI (decide_eq_false fun h=>c0 (V.int.inj h)) (nxt ⟨_,rfl,rfl,_,rfl,?_⟩)
  by_cases c1:way=1
  rotate_left
  ·refine zI (decide_eq_false fun h=>c1 (V.int.inj h)) (nxt ?_)
   refine ⟨_,rfl,by show 2<=sizeLine; decide,fun p hp=>?_⟩
   have n6:=same_new hp (.tup [.str "give",.str x'])
   exact q _ p (.give x') (k05.trans (.of n6)) ((S5.mono (by lia)).same n6) zf hx'
  refine zV (decide_eq_true (by rw [c1])) ?_
  refine ⟨_,rfl,by show -(2 ^ 62)<=(5:Int); decide,by show (5:Int) < 2 ^ 62; decide,yz (fun j τ ys H'=>Same H5 H'/\(∃ v8,τ=[some (.ref st),some (.ref sl),some (.ref wp),some (.str x'),some (.int way),some (.ref l5),some (.ref l6),none,v8])/\∃ ts:List Addr,ys=ts.map V.ref/\ts.length=j/\∀ (i:Nat) t,ts[i]?=some t->H' t=some (.tup ((nm20 z b i).map V.str))) ⟨Same.refl _,⟨none,rfl⟩,[],rfl,rfl,fun i t h=>by simp at h⟩ ?_ ?_⟩
  ·rintro j τ ys H6 hj ⟨s6,⟨v8,rfl⟩,ts,rfl,lt,hts⟩
   have hj:j < 5:=hj
   have hwp6:=s6 _ _ hwp5
   have ez:(0:Int) + ((j:Nat):Int)=((j:Nat):Int):=Int.zero_add _
   rw [ez]
   refine ⟨_,rfl,_,rfl,by show -(2 ^ 62)<=(j:Int); lia,by show (j:Int) < 2 ^ 62; lia,yz (n:=j) (fun i τ ys H'=>H6=H'/\(∃ v9,τ=[some (.ref st),some (.ref sl),some (.ref wp),some (.str x'),some (.int way),some (.ref l5),some (.ref l6),none,some (.int ((j:Nat):Int)),v9])/\ys=(nm20 z b i).map V.str) ⟨rfl,⟨none,rfl⟩,rfl⟩ ?_ ?_⟩
   ·rintro i τ ys H7 hi ⟨rfl,⟨v9,rfl⟩,rfl⟩
    refine ⟨_,rfl,_,rfl,_,_,rfl,rfl,wp,z,b,[],20 + i,by show [V.ref wp,V.int ((20:Int) + (0 + ((i:Nat):Int)))]=_; rw [show (20:Int) + (0 + ((i:Nat):Int))=((20 + i:Nat):Int) by lia],hwp6,lz,?_⟩
    refine ⟨by rw [ub,ub,UQ]; lia,rfl,⟨_,rfl⟩,?_⟩
    rw [nm20,nm20,List.range_succ,uF,uF]
    rfl
   ·rintro τ ys H7 ⟨rfl,_,rfl⟩ l9 hl9
    refine ⟨l9,_,rfl,.inl ⟨SqL.of zf,fun t1 h1=>?_⟩⟩
    have n8:=(same_new hl9 (.lst ((nm20 z b j).map V.str))).new (o:=.tup ((nm20 z b j).map V.str)) h1
    refine ⟨by rw [ub]; lia,s6.trans n8,⟨_,rfl⟩,ts ++ [t1],by rw [uF]; rfl,by rw [uf,lt]; rfl,fun i t hi=>?_⟩
    by_cases ci:i < ts.length
    ·rw [uv ci] at hi
     exact n8 _ _ (hts i t hi)
    ·rw [uL (by lia)] at hi
     have:i=ts.length:=by
      have:=(ud.mp hi).1
      simp at this
      lia
     subst this
     rw [UP] at hi
     cases hi
     rw [lt]
     exact zf
  rintro τ ys H6 ⟨s6,_,ts,rfl,lt,hts⟩ l7 hl7
  have lt:ts.length=5:=lt
  have s7:=s6.new (o:=.lst (ts.map V.ref)) hl7
  have n7:=same_new hl7 (.lst (ts.map V.ref))
  have hl77:=zf (H:=H6) (a:=l7) (o:=.lst (ts.map V.ref))
  have hts7:∀ (i:Nat) t,ts[i]?=some t->upd H6 l7 (.lst (ts.map V.ref)) t=some (.tup ((nm20 z b i).map V.str)):=fun i t h=>n7 _ _ (hts i t h)
  dsimp only [Ub]
  generalize upd H6 l7 (.lst (ts.map V.ref))=H7 at *
  have hl67:=s7 _ _ hl65
  have hwp7:=s7 _ _ hwp5
  refine ⟨_,rfl,_,rfl,by show -(2 ^ 62)<=(5:Int); decide,by show (5:Int) < 2 ^ 62; decide,yz (fun j τ ys H'=>Same H7 H'/\(∃ v8,τ=[some (.ref st),some (.ref sl),some (.ref wp),some (.str x'),some (.int way),some (.ref l5),some (.ref l6),some (.ref l7),v8])/\∃ (us:List Addr) (as:List (Str × List Str × Bd)),ys=us.map V.ref/\us.length=j/\as.length=j/\(∀ (i:Nat) p a,us[i]?=some p->as[i]?=some a->∃ q s,H' p=some (.tup [.str a.1,.ref q,.ref s])/\H' q=some (.tup (a.2.1.map V.str))/\IsBd H' a.2.2 s)/\∀ a∈as,∃ k:Nat,k < 5/\a.1=nm z b k/\a.2.1=nm20 z b k/\∃ y,a.2.2=.give y/\y∈nms) ⟨Same.refl _,⟨none,rfl⟩,[],[],rfl,rfl,rfl,fun i p a h=>by simp at h,fun a ha=>by cases ha⟩ ?_ ?_⟩
  ·rintro j τ ys H8 hj ⟨s8,⟨v8,rfl⟩,us,as,rfl,lu,la,hus,has⟩
   have hj:j < 5:=hj
   obtain ⟨g0,m0,e0,_⟩:=gat j hj
   have ht0:ts[j]?=some (ts[j]'(by lia)):=ug _
   generalize ts[j]'(by lia)=t0 at ht0
   have ht1:(ts.map V.ref)[j]?=some (.ref t0):=by rw [uj,ht0]; rfl
   have ez:(0:Int) + ((j:Nat):Int)=((j:Nat):Int):=Int.zero_add _
   rw [ez]
   refine ⟨_,rfl,_,rfl,wp,z,b,[],j,rfl,s8 _ _ hwp7,lz,_,rfl,_,rfl,l7,_,_,_,rfl,rfl,SqL.of (s8 _ _ hl77),zj ht1,_,rfl,_,rfl,l6,_,_,_,rfl,rfl,SqL.of (s8 _ _ hl67),zj e0,by show 3<=sizeLine; decide,fun t1 h1=>?_⟩
   have n9:=same_new h1 (.tup [.str (nm z b j),.ref t0,.ref g0.1])
   refine ⟨by rw [ub]; lia,s8.trans n9,⟨_,rfl⟩,us ++ [t1],as ++ [(nm z b j,nm20 z b j,.give g0.2)],by rw [uF]; rfl,by rw [uf,lu]; rfl,by rw [uf,la]; rfl,fun i p a h1' h2'=>?_,fun a ha=>?_⟩
   ·by_cases ci:i < us.length
    ·rw [uv ci] at h1'
     rw [uv (by lia)] at h2'
     obtain ⟨q0,s0,b1,b2,b3⟩:=hus i p a h1' h2'
     exact ⟨q0,s0,n9 _ _ b1,n9 _ _ b2,b3.keep (.of n9)⟩
    ·rw [uL (by lia)] at h1' h2'
     have:i=us.length:=by
      have:=(ud.mp h1').1
      simp at this
      lia
     subst this
     rw [UP] at h1'
     rw [show us.length - as.length=0 by lia] at h2'
     cases h1'
     cases h2'
     exact ⟨t0,g0.1,zf,n9 _ _ (s8 _ _ (hts7 j t0 ht0)),n9 _ _ (s8 _ _ (s7 _ _ (hgs5 g0 m0).2))⟩
   ·rcases uN.mp ha with ha | ha
    ·exact has a ha
    ·rw [uh.mp ha]
     exact ⟨j,hj,rfl,rfl,_,rfl,(hgs5 g0 m0).1⟩
  rintro τ ys H8 ⟨s8,_,us,as,rfl,lu,la,hus,has⟩ l9 hl9
  have lu:us.length=5:=lu
  have la:as.length=5:=la
  refine ⟨l9,_,rfl,.inl ⟨SqL.of zf,fun tp htp=>⟨by show 3<=sizeLine; decide,fun p hp=>?_⟩⟩⟩
  have n9:=((same_new hl9 (.lst (us.map V.ref))).new (o:=.tup (us.map V.ref)) htp).new (o:=.tup [.str "case",.str x',.ref tp]) hp
  have s9:=(s7.trans s8).trans n9
  refine q _ p (.cs x' (w5 as)) (k05.trans (.of s9)) ((S5.mono (by lia)).same s9) ⟨tp,us,zf,old hp zf,vL (by lia) fun i p a h1 h2=>?_⟩ ⟨hx',by rw [wc,la],fun a ha=>has a (by rw [wc] at ha; exact ha)⟩
  obtain ⟨q0,s0,b1,b2,b3⟩:=hus i p a h1 h2
  exact ⟨q0,s0,n9 _ _ b1,n9 _ _ b2,b3.keep (.of n9)⟩
end
end GN
namespace GN
open PySem L2 K11
def GoodR (z:Str) (b:Bool) (hs:Dfl):List Str->List (Str × Dx)->Prop
 | _,[]=>True
 | ks,(n,d) :: r=>Good z b hs ks d/\GoodR z b hs (ks ++ [n]) r
theorem GoodR.snoc {z:Str} {b:Bool} {hs:Dfl} {n:Str} {d:Dx}:∀ {r:List (Str × Dx)} {ks:List Str},GoodR z b hs ks r->Good z b hs (ks ++ r.map (·.1)) d->GoodR z b hs ks (r ++ [(n,d)])
 | [],ks,_,h=>by rw [List.map_nil,uO] at h; exact ⟨h,trivial⟩
 | (m,d') :: r,ks,⟨a,g⟩,h=>⟨a,g.snoc (by rw [uG]; exact h)⟩
abbrev nm2 (z:Str) (b:Bool) (k:Nat):List Str:=(UR k).map fun j=>nm z b j
theorem Zt (z:Str) (b:Bool) (k:Nat):nm2 z b (k + 1)=nm2 z b k ++ [nm z b k]:=by
 rw [nm2,nm2,List.range_succ,uF]
 rfl
def VU (K:ua):Sp:=fun vs H Q _=>∃ (st dl wp:Addr) (B:Nat) (os:List Addr) (hs:Dfl) (z:Str) (b:Bool) (hd:Str),vs=[.ref st,.ref dl,.ref wp,.str hd]/\Sta K H st B/\B + 2000 < LIM/\H dl=some (.lst (os.map V.ref))/\IsDs H os hs/\hs.length=3/\(∀ a∈hs,a.2.1.length<=4)/\H wp=some (.lst [.str z,.bl b])/\z.length<=6 /\
 ∀ (H':Hp) (p pp pb:Addr) (rows:List (Str × Dx)) (en:Bd),Kp st H H'->Sta K H' st (B + 400)->H' p=some (.tup [.str hd,.ref pp,.ref pb])->H' pp=some (.tup ((nm2 z b 2).map V.str))->IsBd H' (lets rows en) pb->GoodR z b hs (nm2 z b 2) rows->nm2 z b 2 ++ rows.map (·.1)=nm2 z b (2 + rows.length)->rows.length<=9->Zs z b (nm2 z b 2 ++ rows.map (·.1)) en->Q (.ref p) H'
section
variable {P:Program} {w:World} {K:ua} {mg:Str->Option Value} {base:Heap} {f:Addr} {fd:FuncData}
theorem scMain:FnScope ["_law_state","_law_defs","_law_world","_law_head","_law_params","_law_scope","_law_rows","_law_k","_law_deed_here","_law_wants","_law_back","_law_body","_law_name_here"] ["_law_state","_law_defs","_law_world","_law_head"] (zp WT):=⟨rfl,rfl,rfl,by decide +kernel,rfl,by decide +kernel,by decide +kernel⟩
theorem qC (F:Fun K "_law_main" "_law_main" WT f fd) (GD:Ca P w K mg base CX0 1 "_law_draw" ["_law_state","_law_many"] (xa K)) (GM:Ca P w K mg base CX0 1 "_law_name" ["_law_world","_law_k"] spNm) (GE:Ca P w K mg base CX0 4 "_law_deed" ["_law_state","_law_scope","_law_defs","_law_world"] (VR K)) (GL:Ca P w K mg base CX0 2 "_law_last" ["_law_state","_law_scope","_law_world","_law_x"] (VT K)) (m_len:mg "len"=none) (m_range:mg "range"=none) (m_tuple:mg "tuple"=none) (m_reversed:mg "reversed"=none):FnOk P w K mg base CX0 5 f fd ["_law_state","_law_defs","_law_world","_law_head"] (VU K):=by
 refine F.by scMain (fun vs H Q E h=>?_) (fun cdv A outer s H vs Q E hr h=>?_)
 ·obtain ⟨st,dl,wp,B,os,hs,z,b,hd,rfl,_⟩:=h
  rfl
 obtain ⟨st,dl,wp,B,os,hs,z,b,hd,rfl,S0,hB,hdl,hds,l3,h4,hwp,lz,q⟩:=h
 have r1:Room 1 _:=hr.mono (by decide)
 have r2:Room 2 _:=hr.mono (by decide)
 refine ⟨_,
  (zi (zv (i:=4) scMain.nd rfl (Or.inl rfl) (zZ (ja_c (zy GM r1 rfl zC (ja_c (jv 2) (ja_c zh zg))) (ja_c (zy GM r1 rfl zC (ja_c (jv 2) (ja_c zh zg))) zg))))
  (zi (wL [12] [] (i:=5) scMain.nd rfl (Or.inl rfl) rfl (yx (jv 4)) (fun _ _ _ _ _=>(zD (i:=12) scMain.nd rfl (Or.inl rfl))) (fun _ _ _ _ _=>ya) (fun _ _ _ _ _=>(zB (ja_c (jv 12) (ja_c (xj zh) zg)))))
  (zi (zv (i:=6) scMain.nd rfl (Or.inl rfl) (zZ zg))
  (zi (yE PassesOwn.never rfl (yn rfl m_range (ja_c (zF yr zh (zy GD r1 rfl zC (ja_c (jv 0) (ja_c zh zg)))) zg)) (zD (i:=7) scMain.nd rfl (Or.inl rfl))
   (zi (x6 (zy GE hr rfl zC (ja_c (jv 0) (ja_c (jv 5) (ja_c (jv 1) (ja_c (jv 2) zg))))) (xI (n:=2) rfl (zO (zD (i:=8) scMain.nd rfl (Or.inl rfl)) (zO (zD (i:=9) scMain.nd rfl (Or.inl rfl)) yI))))
   (zi (zU (xl uV Ue Uf yy (jv 5) (ja_c (zB (ja_c (zy GM r1 rfl zC (ja_c (jv 2) (ja_c (zF yr zh (jv 7)) zg))) (ja_c (jv 9) zg))) zg)))
   (zk (zU (xl uV Ue Uf yy (jv 6) (ja_c (zB (ja_c (zq zr (zq zE (jv 5) (xj zh) (fun _ _=>rfl)) zh (fun _ _=>rfl)) (ja_c (jv 8) zg))) zg)))))))
  (zi (zv (i:=10) scMain.nd rfl (Or.inl rfl) (zF yT (zy GD r1 rfl zC (ja_c (jv 0) (ja_c (zG zz rfl m_len uC (ja_c (jv 5) zg)) zg))) (zF yr zh (zy GD r1 rfl zC (ja_c (jv 0) (ja_c zh zg))))))
  (zi (zv (i:=11) scMain.nd rfl (Or.inl rfl) (zy GL r2 rfl zC (ja_c (jv 0) (ja_c (jv 5) (ja_c (jv 2) (ja_c (zq zr (zq zE (jv 5) (zF yS (zF yS (zG zz rfl m_len uC (ja_c (jv 5) zg)) zh) (jv 10)) (fun _ _=>rfl)) zh (fun _ _=>rfl)) zg))))))
  (zi (yE PassesOwn.never rfl (WF rfl m_reversed (ja_c (jv 6) zg)) (xI (n:=2) rfl (zO (zD (i:=12) scMain.nd rfl (Or.inl rfl)) (zO (zD (i:=8) scMain.nd rfl (Or.inl rfl)) yI)))
   (zk (zv (i:=11) scMain.nd rfl (Or.inl rfl) (zB (ja_c zu (ja_c (jv 12) (ja_c (jv 8) (ja_c (jv 11) zg))))))))
  (zk (zx (zB (ja_c (jv 3) (ja_c (yh zR rfl m_tuple uW (ja_c (jv 4) zg)) (ja_c (jv 11) zg))))))))))))),?_⟩
 have sl0:=zQ
 have LM:LIM=4611686018427387904:=rfl
 have nwp:wp≠st:=S0.neW hwp
 have ndl:dl≠st:=S0.neR hdl
 refine ⟨_,rfl,wp,z,b,[],0,rfl,hwp,lz,_,rfl,wp,z,b,[],1,rfl,hwp,lz,by show 2<=sizeLine; decide,fun pl hpl=>?_⟩
 have s1:=same_new hpl (.lst [.str (nm z b 0),.str (nm z b 1)])
 have hpl1:upd H pl (.lst [.str (nm z b 0),.str (nm z b 1)]) pl=some (.lst ((nm2 z b 2).map V.str)):=zf
 dsimp only [Ub,L2.start]
 generalize upd H pl (.lst [.str (nm z b 0),.str (nm z b 1)])=H1 at *
 refine ⟨_,rfl,pl,rfl,⟨_,SqL.of hpl1⟩,yG (K:=K) (xs:=(nm2 z b 2).map V.str) (fun j τ ys H'=>Same H1 H'/\(∃ v,τ=[some (.ref st),some (.ref dl),some (.ref wp),some (.str hd),some (.ref pl),none,none,none,none,none,none,none,v])/\∃ ps:List Addr,ys=ps.map V.ref/\ps.length=j/\∀ (i:Nat) p,ps[i]?=some p->H' p=some (.tup [.str (nm z b i),.int (-1)])) ⟨Same.refl _,⟨none,rfl⟩,[],rfl,rfl,fun i p h=>by simp at h⟩ (fun j τ ys H' _ h=>SqL.of (h.1 _ _ hpl1)) ?_ ?_⟩
 ·rintro j v τ ys H2 hv ⟨s2,⟨v',rfl⟩,ps,rfl,lp,hps⟩
  have hj:j < 2:=(ud.mp hv).1
  obtain rfl:v=.str (nm z b j):=by
   rcases (show j=0\/j=1 by lia) with rfl | rfl <;> (cases hv; rfl)
  refine ⟨_,rfl,_,rfl,by show 2<=sizeLine; decide,fun t1 h1=>⟨by rw [ub]; lia,s2.new h1,⟨_,rfl⟩,ps ++ [t1],by rw [uF]; rfl,by rw [uf,lp]; rfl,fun i p hi=>?_⟩⟩
  by_cases ci:i < ps.length
  ·rw [uv ci] at hi
   exact old h1 (hps i p hi)
  ·rw [uL (by lia)] at hi
   have:i=ps.length:=by
    have:=(ud.mp hi).1
    simp at this
    lia
   subst this
   rw [UP] at hi
   cases hi
   rw [lp]
   exact zf
 rintro τ ys H2 ⟨s2,_,ps0,rfl,lp0,hps0⟩ sl hsl
 have lp0:ps0.length=2:=lp0
 have s3:=s2.new (o:=.lst (ps0.map V.ref)) hsl
 have n3:=same_new hsl (.lst (ps0.map V.ref))
 have hsl3:=zf (H:=H2) (a:=sl) (o:=.lst (ps0.map V.ref))
 have hps3:∀ (i:Nat) p,ps0[i]?=some p->upd H2 sl (.lst (ps0.map V.ref)) p=some (.tup [.str (nm z b i),.int (-1)]):=fun i p h=>n3 _ _ (hps0 i p h)
 have fsl:H sl=none:=(s1.trans s2).free hsl
 have s03:=s1.trans s3
 have hpl3:=s3 _ _ hpl1
 dsimp only [Ub]
 generalize upd H2 sl (.lst (ps0.map V.ref))=H3 at *
 clear hps0 s2 hsl n3
 refine ⟨by show 0<=sizeLine; decide,fun rl hrl=>?_⟩
 have s4:=s03.new (o:=.lst []) hrl
 have n4:=same_new hrl (.lst [])
 have frl:H rl=none:=s03.free hrl
 have nrs:rl≠sl:=fun e=>by rw [e,hsl3] at hrl; cases hrl
 have nrp:rl≠pl:=fun e=>by rw [e,hpl3] at hrl; cases hrl
 have nsp:sl≠pl:=fun e=>by
  rw [e,hpl3] at hsl3
  have:(nm2 z b 2).map V.str=ps0.map V.ref:=by injection hsl3 with h; injection h
  rw [nm2] at this
  cases ps0 with
  | nil=>cases this
  | cons a r=>cases this
 have hrl4:=zf (H:=H3) (a:=rl) (o:=.lst [])
 have hsl4:=n4 _ _ hsl3
 have hpl4:=n4 _ _ hpl3
 have hps4:∀ (i:Nat) p,ps0[i]?=some p->upd H3 rl (.lst []) p=some (.tup [.str (nm z b i),.int (-1)]):=fun i p h=>n4 _ _ (hps3 i p h)
 have S4:=S0.same s4
 have nss:sl≠st:=S0.ne fsl
 have nrst:rl≠st:=S0.ne frl
 have npst:pl≠st:=S0.ne hpl
 dsimp only [Ub]
 generalize upd H3 rl (.lst [])=H4 at *
 refine ⟨_,rfl,st,9,B,rfl,S4,by lia,by decide,fun H5 r5 k5 S5 r50 r59=>⟨_,_,rfl,rfl,?_⟩⟩
 obtain ⟨N,hN⟩:∃ N:Nat,(1:Int) + r5=(N:Int):=⟨(1 + r5).toNat,by lia⟩
 have hNe:((fun i j=>V.int (i + j)) (1:Int) r5)=V.int (N:Nat):=congrArg V.int hN
 rw [hNe]
 have k05:Kp st H H5:=(Kp.of s4).trans k5
 have sc0:Sc37 H5 sl ps0 [(nm z b 0,-1),(nm z b 1,-1)]:=⟨k5.k _ _ nss hsl4,lp0,fun i p a h1 h2=>by
  have hi:=(ud.mp h1).1
  have:=k5.tups S4 _ _ (hps4 i p h1)
  rcases (show i=0\/i=1 by lia) with rfl | rfl <;> (cases h2; exact this)⟩
 refine ⟨_,rfl,by show -(2 ^ 62)<=((N:Nat):Int); lia,by show ((N:Nat):Int) < 2 ^ 62; lia,Xj (n:=N) (fun j σ H'=>∃ (ps:List Addr) (sc:List (Str × Int)) (rows:List (Str × Dx)) (ts:List Addr) (v7 v8 v9:Option V),σ=[some (.ref st),some (.ref dl),some (.ref wp),some (.str hd),some (.ref pl),some (.ref sl),some (.ref rl),v7,v8,v9,none,none,none]/\Kp st H H'/\Sta K H' st (B + 1 + 30 * j)/\H' pl=some (.lst ((nm2 z b 2).map V.str))/\Sc37 H' sl ps sc/\sc.length=2 + j/\(∀ a∈sc,-1<=a.2/\a.2<=9)/\sc.map (·.1)=nm2 z b (2 + j)/\sc.map (·.1)=nm2 z b 2 ++ rows.map (·.1)/\rows.length=j/\H' rl=some (.lst (ts.map V.ref))/\ts.length=j/\(∀ (i:Nat) t r,ts[i]?=some t->rows[i]?=some r->∃ pd,H' t=some (.tup [.str r.1,.ref pd])/\IsDx H' r.2 pd)/\GoodR z b hs (nm2 z b 2) rows) ⟨ps0,_,[],[],none,none,none,rfl,k05,S5,k5.k _ _ npst hpl4,sc0,rfl,fun a ha=>by
  simp only [uq,UC,or_false] at ha
  rcases ha with rfl | rfl <;> exact ⟨(by show (-1:Int)<=-1; decide),(by show (-1:Int)<=9; decide)⟩,rfl,rfl,rfl,k5.k _ _ nrst hrl4,rfl,fun i t r h=>by simp at h,trivial⟩ ?_ ?_⟩
 ·rintro j σ H6 hj ⟨ps,sc,rows,ts,v7,v8,v9,rfl,k6,S6,hpl6,hSc6,lsc,hw6,en6,er6,lr,hrl6,lt,hts6,hgr⟩
  have hj:j < N:=by lia
  have hwp6:=k6.k _ _ nwp hwp
  have okSc:ScOk sc:=⟨fun e=>by rw [e] at lsc; simp at lsc; lia,by lia,hw6⟩
  refine ⟨_,rfl,_,rfl,_,rfl,_,rfl,st,sl,dl,wp,_,ps,sc,os,hs,z,b,rfl,S6,by lia,hSc6,okSc,k6.k _ _ ndl hdl,hds.keep (k6.tups S0),l3,h4,hwp6,lz,fun H7 p7 pd dd w k7 S7 hp7 hdd hgood w0 w9=>?_⟩
  refine ⟨p7,_,rfl,SqT.of hp7,rfl,_,_,rfl,_,_,rfl,rfl,?_⟩
  have k67:=k6.trans k7
  have hSc7:=hSc6.kp k7 S6
  have hwp7:=k67.k _ _ nwp hwp
  dsimp only [Ub]
  refine ⟨_,rfl,.inl ⟨rfl,_,SqL.of hSc7.1⟩,_,rfl,_,rfl,_,_,rfl,rfl,wp,z,b,[],2 + j,by show [V.ref wp,V.int ((2:Int) + (0 + ((j:Nat):Int)))]=_; rw [show (2:Int) + (0 + ((j:Nat):Int))=((2 + j:Nat):Int) by lia],hwp7,lz,_,rfl,by show 2<=sizeLine; decide,fun t1 h1=>?_⟩
  have n8:=same_new h1 (.tup [.str (nm z b (2 + j)),.int w])
  have et1:=zf (H:=H7) (a:=t1) (o:=.tup [.str (nm z b (2 + j)),.int w])
  have S8:=S7.same n8
  have k68:=k67.trans (.of n8)
  have hSc8:=hSc7.same n8
  have hpl8:=n8 _ _ (k7.k _ _ npst hpl6)
  have hrl8:=n8 _ _ (k7.k _ _ nrst hrl6)
  have hdd8:=hdd.keep (.of n8)
  have hts8:∀ (i:Nat) t r,ts[i]?=some t->rows[i]?=some r->∃ pd,upd H7 t1 (.tup [.str (nm z b (2 + j)),.int w]) t=some (.tup [.str r.1,.ref pd])/\IsDx (upd H7 t1 (.tup [.str (nm z b (2 + j)),.int w])) r.2 pd:=fun i t r e1 e2=>let ⟨pd,a1,a2⟩:=hts6 i t r e1 e2; ⟨pd,n8 _ _ (k7.tups S6 _ _ a1),(a2.keep (k7.tups S6)).keep (.of n8)⟩
  generalize upd H7 t1 (.tup [.str (nm z b (2 + j)),.int w])=H8 at *
  refine ⟨sl,_,_,rfl,rfl,hSc8.1,by rw [ub,hSc8.2.1]; lia,?_⟩
  have tu9:Tups H8 (upd H8 sl (.lst (ps.map V.ref ++ [.ref t1]))):=fun p xs e=>by rw [zm (z9 e hSc8.1 (by intro z; cases z))]; exact e
  have hsl9:upd H8 sl (.lst (ps.map V.ref ++ [.ref t1])) sl=some (.lst ((ps ++ [t1]).map V.ref)):=by rw [zf,uF]; rfl
  have S9:Sta K (upd H8 sl (.lst (ps.map V.ref ++ [.ref t1]))) st (B + 1 + 30 * j + 30):=Sta.put S0 fsl k68 S8
  have k9:Kp st H (upd H8 sl (.lst (ps.map V.ref ++ [.ref t1]))):=k68.put fsl
  have hpl9:upd H8 sl (.lst (ps.map V.ref ++ [.ref t1])) pl=some (.lst ((nm2 z b 2).map V.str)):=by rw [zm (Ne.symm nsp)]; exact hpl8
  have hrl9:upd H8 sl (.lst (ps.map V.ref ++ [.ref t1])) rl=some (.lst (ts.map V.ref)):=by rw [zm nrs]; exact hrl8
  have et9:=tu9 _ _ et1
  have hdd9:=hdd8.keep tu9
  have hSc9:∀ (i:Nat) p a,ps[i]?=some p->sc[i]?=some a->upd H8 sl (.lst (ps.map V.ref ++ [.ref t1])) p=some (.tup [.str a.1,.int a.2]):=fun i p a e1 e2=>tu9 _ _ (hSc8.2.2 i p a e1 e2)
  have hts9:∀ (i:Nat) t r,ts[i]?=some t->rows[i]?=some r->∃ pd,upd H8 sl (.lst (ps.map V.ref ++ [.ref t1])) t=some (.tup [.str r.1,.ref pd])/\IsDx (upd H8 sl (.lst (ps.map V.ref ++ [.ref t1]))) r.2 pd:=fun i t r e1 e2=>let ⟨pd,a1,a2⟩:=hts8 i t r e1 e2; ⟨pd,tu9 _ _ a1,a2.keep tu9⟩
  have lpsc:=hSc8.2.1
  generalize upd H8 sl (.lst (ps.map V.ref ++ [.ref t1]))=H9 at *
  refine ⟨_,rfl,.inl ⟨rfl,_,SqL.of hrl9⟩,_,rfl,_,rfl,sl,_,_,_,rfl,rfl,SqL.of hsl9,(by rw [uF]; exact Wf _ _),ixT et9 (zj (j:=0) rfl) ⟨_,rfl,by show 2<=sizeLine; decide,fun t2 h2=>?_⟩⟩
  have n10:=same_new h2 (.tup [.str (nm z b (2 + j)),.ref pd])
  refine ⟨rl,_,_,rfl,rfl,n10 _ _ hrl9,by rw [ub]; lia,?_⟩
  have tu11:Tups (upd H9 t2 (.tup [.str (nm z b (2 + j)),.ref pd])) (upd (upd H9 t2 (.tup [.str (nm z b (2 + j)),.ref pd])) rl (.lst (ts.map V.ref ++ [.ref t2]))):=fun p xs e=>by rw [zm (z9 e (n10 _ _ hrl9) (by intro z; cases z))]; exact e
  have tu:=Tups.trans (Tups.of n10) tu11
  refine ⟨ps ++ [t1],sc ++ [(nm z b (2 + j),w)],rows ++ [(nm z b (2 + j),dd)],ts ++ [t2],_,_,_,rfl,(k9.trans (.of n10)).put frl,Sta.put S0 frl (k9.trans (.of n10)) ((S9.same n10).mono (by lia)),by rw [zm (Ne.symm nrp)]; exact n10 _ _ hpl9,⟨by rw [zm (Ne.symm nrs)]; exact n10 _ _ hsl9,by rw [uf,uf,lpsc]; rfl,fun i p a e1 e2=>?_⟩,by rw [uf,lsc]; show 2 + j + 1=_; lia,fun a ha=>?_,by rw [uF,en6,show 2 + (j + 1)=2 + j + 1 by lia,Zt]; rfl,by rw [uF,er6,uF,uG]; rfl,by rw [uf,lr]; rfl,by rw [zf,uF]; rfl,by rw [uf,lt]; rfl,fun i t r e1 e2=>?_,hgr.snoc (by rw [<- er6]; exact hgood)⟩
  ·by_cases ci:i < ps.length
   ·rw [uv ci] at e1
    rw [uv (by lia)] at e2
    exact tu _ _ (hSc9 i p a e1 e2)
   ·rw [uL (by lia)] at e1 e2
    have:i=ps.length:=by
     have:=(ud.mp e1).1
     simp at this
     lia
    subst this
    rw [UP] at e1
    rw [show ps.length - sc.length=0 by lia] at e2
    cases e1
    cases e2
    exact tu _ _ et9
  ·rcases uN.mp ha with ha | ha
   ·exact hw6 a ha
   ·rw [uh.mp ha]
    exact ⟨w0,w9⟩
  ·by_cases ci:i < ts.length
   ·rw [uv ci] at e1
    rw [uv (by lia)] at e2
    obtain ⟨pd',a1,a2⟩:=hts9 i t r e1 e2
    exact ⟨pd',tu _ _ a1,a2.keep tu⟩
   ·rw [uL (by lia)] at e1 e2
    have:i=ts.length:=by
     have:=(ud.mp e1).1
     simp at this
     lia
    subst this
    rw [UP] at e1
    rw [show ts.length - rows.length=0 by lia] at e2
    cases e1
    cases e2
    exact ⟨pd,tu11 _ _ zf,hdd9.keep tu⟩
 ·rintro σ H6 ⟨ps,sc,rows,ts,v7,v8,v9,rfl,k6,S6,hpl6,hSc6,lsc,hw6,en6,er6,lr,hrl6,lt,hts6,hgr⟩
  have hwp6:=k6.k _ _ nwp hwp
  have okSc:ScOk sc:=⟨fun e=>by rw [e] at lsc; simp at lsc; lia,by lia,hw6⟩
  have lps:=hSc6.2.1
  have lpm:(ps.map V.ref).length=sc.length:=by rw [ub]; exact lps
  refine ⟨_,rfl,_,rfl,sl,_,rfl,.inl (SqL.of hSc6.1),st,_,_,rfl,S6,by lia,by lia,fun H7 r7 k7 S7 r70 r71=>?_⟩
  refine ⟨_,rfl,st,3,_,rfl,S7,by lia,by decide,fun H8 r8 k8 S8 r80 r83=>⟨_,_,rfl,rfl,_,_,rfl,rfl,(by show (0:Int) < 1 + r8; lia),?_⟩⟩
  have e1:=Int.emod_nonneg r7 (show (1 + r8:Int)≠0 by lia)
  have e2:=tj r7 (show (0:Int) < 1 + r8 by lia)
  have k68:=k7.trans k8
  have hSc8:=hSc6.kp k68 S6
  have hwp8:=k68.k _ _ nwp hwp6
  have hrl8:=k68.k _ _ nrst hrl6
  have hpl8:=k68.k _ _ npst hpl6
  have hts8:∀ (i:Nat) t r,ts[i]?=some t->rows[i]?=some r->∃ pd,H8 t=some (.tup [.str r.1,.ref pd])/\IsDx H8 r.2 pd:=fun i t r e1 e2=>let ⟨pd,a1,a2⟩:=hts6 i t r e1 e2; ⟨pd,k68.tups S6 _ _ a1,a2.keep (k68.tups S6)⟩
  generalize hback:r7 % (1 + r8)=back at *
  obtain ⟨ix,hix⟩:∃ ix:Nat,((sc.length:Nat):Int) - 1 - back=(ix:Int):=⟨(((sc.length:Nat):Int) - 1 - back).toNat,by lia⟩
  have hl1:ix < sc.length:=by lia
  have hl2:ix < ps.length:=by rw [lps]; exact hl1
  have hp0:ps[ix]?=some ps[ix]:=ug _
  have ha0:sc[ix]?=some sc[ix]:=ug _
  generalize ps[ix]=p0 at hp0
  generalize sc[ix]=a0 at ha0
  have hr':(ps.map V.ref)[ix]?=some (.ref p0):=by rw [uj,hp0]; rfl
  have hat:=zj hr'
  rw [<- hix] at hat
  show (tSeq _ _:TS) _ [some (.ref st),some (.ref dl),some (.ref wp),some (.str hd),some (.ref pl),some (.ref sl),some (.ref rl),v7,v8,v9,some (.int (r7 % (1 + r8))),none,none] H8
  rw [hback]
  clear hix e1 e2 hback r70 r71 r80 r83 hl1 hl2
  refine ⟨_,rfl,_,rfl,_,rfl,_,rfl,_,rfl,sl,_,rfl,.inl (SqL.of hSc8.1),_,_,rfl,rfl,_,rfl,_,_,rfl,rfl,sl,_,_,_,rfl,rfl,SqL.of hSc8.1,(by rw [lpm]; exact hat),ixT (hSc8.2.2 ix p0 a0 hp0 ha0) (zj (j:=0) rfl) ⟨st,sl,wp,_,ps,sc,z,b,a0.1,rfl,S8,by lia,hSc8,okSc,hwp8,lz,Ua.mpr ⟨a0,uu ha0,rfl⟩,fun H9 pb en k9 S9 hen hge=>?_⟩⟩
  have hrl9:=k9.k _ _ nrst hrl8
  have hpl9:=k9.k _ _ npst hpl8
  have hts9:∀ (i:Nat) t r,ts[i]?=some t->rows[i]?=some r->∃ pd,H9 t=some (.tup [.str r.1,.ref pd])/\IsDx H9 r.2 pd:=fun i t r e1 e2=>let ⟨pd,a1,a2⟩:=hts8 i t r e1 e2; ⟨pd,k9.tups S8 _ _ a1,a2.keep (k9.tups S8)⟩
  dsimp only [Ub]
  refine ⟨_,rfl,rl,_,rfl,SqL.of hrl9,Yv (K:=K) (xs:=ts.map V.ref) (fun i σ H'=>Same H9 H'/\∃ (pb':Addr) (v8 v12:Option V),σ=[some (.ref st),some (.ref dl),some (.ref wp),some (.str hd),some (.ref pl),some (.ref sl),some (.ref rl),v7,v8,v9,some (.int back),some (.ref pb'),v12]/\IsBd H' (lets (rows.drop (rows.length - i)) en) pb') ⟨Same.refl _,pb,_,_,rfl,by rw [Nat.sub_zero,List.drop_of_length_le (ui _)]; exact hen⟩ (fun i σ H' _ h=>SqL.of (h.1 _ _ hrl9)) ?_ ?_⟩
  ·rintro i v σ H10 hv ⟨s10,pb',v8',v12,rfl,hb10⟩
   have hi:i < ts.length:=by
    have:=(ud.mp hv).1
    rw [uZ,ub] at this
    exact this
   rw [U0 (by rw [ub]; exact hi),ub,uj] at hv
   obtain ⟨t,ht,rfl⟩:=uk.mp hv
   have hr0:rows[ts.length - 1 - i]?=some (rows[ts.length - 1 - i]'(by lia)):=ug _
   generalize rows[ts.length - 1 - i]'(by lia)=r at hr0
   obtain ⟨pd,a1,a2⟩:=hts9 _ t r ht hr0
   refine ⟨t,_,rfl,SqT.of (s10 _ _ a1),rfl,_,_,rfl,_,_,rfl,rfl,?_⟩
   dsimp only [Ub]
   refine ⟨_,rfl,_,rfl,_,rfl,by show 4<=sizeLine; decide,fun t1 h1=>?_⟩
   have n11:=same_new h1 (.tup [.str "let",.str r.1,.ref pd,.ref pb'])
   refine ⟨s10.trans n11,t1,_,_,rfl,?_⟩
   have ed:rows.drop (rows.length - (i + 1))=r :: rows.drop (rows.length - i):=by
    have:rows[rows.length - (i + 1)]?=some r:=by rw [<- hr0]; congr 1; lia
    obtain ⟨hl,e⟩:=ud.mp this
    rw [U6 hl,e,show rows.length - (i + 1) + 1=rows.length - i by lia]
   rw [ed]
   exact ⟨pd,pb',zf,(a2.keep (.of s10)).keep (.of n11),hb10.keep (.of n11)⟩
  ·rintro σ H10 ⟨s10,pb',v8',v12,rfl,hb10⟩
   rw [ub,show rows.length - ts.length=0 by lia,List.drop_zero] at hb10
   refine ⟨_,rfl,_,rfl,pl,_,rfl,.inl ⟨SqL.of (s10 _ _ hpl9),fun pt hpt=>⟨_,rfl,by show 3<=sizeLine; decide,fun p hp=>?_⟩⟩⟩
   have n11:=(same_new hpt (.tup ((nm2 z b 2).map V.str))).new (o:=.tup [.str hd,.ref pt,.ref pb']) hp
   have s11:=s10.trans n11
   exact q _ p pt pb' rows en (((k6.trans k68).trans k9).trans (.of s11)) ((S9.mono (by lia)).same s11) zf (old hp zf) (hb10.keep (.of n11)) hgr (by rw [<- er6,en6,lr]) (by lia) (by rw [<- er6]; exact hge)
end
end GN
namespace GN
open PySem L2 K11
def hlp (z:Str) (b:Bool) (h0 h1 h2:Str) (many size few:Nat) (xs ys:List Str):Dfl:=[(h0,nm2 z b many,lets [(nm z b 5,.dd (.mk (nm z b size) xs))] (.give (nm z b 5))),(h1,nm2 z b few,lets [(nm z b 5,.ask (nm z b 0) ys)] (.give (nm z b 5))),(h2,nm2 z b 1,lets [] (.give (nm z b 0)))]
structure Hlp (z:Str) (b:Bool) (many size few:Nat) (xs ys:List Str):Prop where
 m:many<=4
 s:size<=4
 x:xs.length=size/\∀ x∈xs,x∈nm2 z b many
 f:1<=few/\few<=3
 y:ys.length<=3/\∀ y∈ys,y∈nm2 z b few
theorem VV (z:Str) (b:Bool) {m n:Nat} (h:m<=n):(nm2 z b n).take m=nm2 z b m:=by
 rw [nm2,nm2,<- List.map_take,List.take_range,Nat.min_eq_left h]
theorem yj (z:Str) (b:Bool) (m:Nat):(nm2 z b m).length=m:=by rw [nm2,ub,UQ]
theorem jB (z:Str) (b:Bool) {m n:Nat} (h:m<=n):cutV ((nm2 z b n).map V.str) none (some ((m:Nat):Int))=(nm2 z b m).map V.str:=by
 rw [Va (by lia),show (((m:Nat):Int)).toNat=m from rfl,<- List.map_take,VV z b h]
theorem w6 (z:Str) (b:Bool) {m n:Nat} (h:m < n):atI ((nm2 z b n).map V.str) ((m:Nat):Int)=some (.str (nm z b m)):=zj (by
 rw [uj,nm2,uj,List.getElem?_range h]
 rfl)
def vM (K:ua):Sp:=fun vs H Q _=>∃ (st wp hl:Addr) (B:Nat) (z:Str) (b:Bool) (h0 h1 h2 h3:Str),vs=[.ref st,.ref wp,.ref hl]/\Sta K H st B/\B + 200 < LIM/\H wp=some (.lst [.str z,.bl b])/\z.length<=6/\H hl=some (.lst [.str h0,.str h1,.str h2,.str h3]) /\
 ∀ (H':Hp) (l o0 o1 o2:Addr) (many size few:Nat) (xs ys:List Str),Kp st H H'->Sta K H' st (B + 40)->H l=none->H' l=some (.lst [.ref o0,.ref o1,.ref o2])->IsDs H' [o0,o1,o2] (hlp z b h0 h1 h2 many size few xs ys)->Hlp z b many size few xs ys->Q (.ref l) H'
section
variable {P:Program} {w:World} {K:ua} {mg:Str->Option Value} {base:Heap} {f:Addr} {fd:FuncData}
theorem scHelpers:FnScope ["_law_state","_law_world","_law_heads","_law_params","_law_many","_law_size","_law_mine","_law_makes_it","_law_first","_law_few","_law_asks","_law_second","_law_third"] ["_law_state","_law_world","_law_heads"] (zp wW):=⟨rfl,rfl,rfl,by decide +kernel,rfl,by decide +kernel,by decide +kernel⟩
theorem XU:(["_law_state","_law_world","_law_heads","_law_params","_law_many","_law_size","_law_mine","_law_makes_it","_law_first","_law_few","_law_asks","_law_second","_law_third","_law_k"]:List Str).Nodup:=by decide +kernel
theorem Yb (F:Fun K "_law_helpers" "_law_helpers" wW f fd) (GD:Ca P w K mg base CX0 1 "_law_draw" ["_law_state","_law_many"] (xa K)) (GM:Ca P w K mg base CX0 1 "_law_name" ["_law_world","_law_k"] spNm) (GS:Ca P w K mg base CX0 2 "_law_some" ["_law_state","_law_names","_law_many"] (jy K)) (m_range:mg "range"=none) (m_tuple:mg "tuple"=none):FnOk P w K mg base CX0 3 f fd ["_law_state","_law_world","_law_heads"] (vM K):=by
 refine F.by scHelpers (fun vs H Q E h=>?_) (fun cdv A outer s H vs Q E hr h=>?_)
 ·obtain ⟨st,wp,hl,B,z,b,h0,h1,h2,h3,rfl,_⟩:=h
  rfl
 obtain ⟨st,wp,hl,B,z,b,h0,h1,h2,h3,rfl,S0,hB,hwp,lz,hhl,q⟩:=h
 have r1:Room 1 _:=hr.mono (by decide)
 have r2:Room 2 _:=hr.mono (by decide)
 refine ⟨_,
  (zi (y7 ["_law_k"] (i:=3) scHelpers.nd rfl (Or.inl rfl) rfl (yn rfl m_range (ja_c zh zg)) (fun _ _ _ _ _=>(zD (i:=13) XU rfl (Or.inl rfl))) (fun _ _ _ _ _=>ya) (fun _ _ _ _ _=>(zy GM r1 rfl zC (ja_c (jv 1) (ja_c (jv 13) zg)))))
  (zi (zv (i:=4) scHelpers.nd rfl (Or.inl rfl) (zy GD r1 rfl zC (ja_c (jv 0) (ja_c zh zg))))
  (zi (zv (i:=5) scHelpers.nd rfl (Or.inl rfl) zh)
  (zi (zH (zt jR (jv 4) zh (zw _))
   (zk (zv (i:=5) scHelpers.nd rfl (Or.inl rfl) (zy GD r1 rfl zC (ja_c (jv 0) (ja_c zh zg)))))  zA)
  (zi (zv (i:=6) scHelpers.nd rfl (Or.inl rfl) (yh zR rfl m_tuple uW (ja_c (xk xR (jv 3) xO (xP (jv 4))) zg)))
  (zi (zv (i:=7) scHelpers.nd rfl (Or.inl rfl) (zB (ja_c zu (ja_c (zy GM r1 rfl zC (ja_c (jv 1) (ja_c (jv 5) zg))) (ja_c (zy GS r2 rfl zC (ja_c (jv 0) (ja_c (xk xR (jv 3) xO (xP (jv 4))) (ja_c (jv 5) zg)))) zg)))))
  (zi (zv (i:=8) scHelpers.nd rfl (Or.inl rfl) (zB (ja_c zu (ja_c (zq zE (jv 3) zh (fun _ _=>rfl)) (ja_c (jv 7) (ja_c (zB (ja_c zu (ja_c (zq zE (jv 3) zh (fun _ _=>rfl)) zg))) zg))))))
  (zi (zv (i:=9) scHelpers.nd rfl (Or.inl rfl) (zF yr zh (zy GD r1 rfl zC (ja_c (jv 0) (ja_c zh zg)))))
  (zi (zv (i:=10) scHelpers.nd rfl (Or.inl rfl) (zB (ja_c zu (ja_c (zq zE (jv 3) zh (fun _ _=>rfl)) (ja_c (zy GS r2 rfl zC (ja_c (jv 0) (ja_c (xk xR (jv 3) xO (xP (jv 9))) (ja_c (zy GD r1 rfl zC (ja_c (jv 0) (ja_c zh zg))) zg)))) zg)))))
  (zi (zv (i:=11) scHelpers.nd rfl (Or.inl rfl) (zB (ja_c zu (ja_c (zq zE (jv 3) zh (fun _ _=>rfl)) (ja_c (jv 10) (ja_c (zB (ja_c zu (ja_c (zq zE (jv 3) zh (fun _ _=>rfl)) zg))) zg))))))
  (zi (zv (i:=12) scHelpers.nd rfl (Or.inl rfl) (zB (ja_c zu (ja_c (zq zE (jv 3) zh (fun _ _=>rfl)) zg))))
  (zk (zx (zZ (ja_c (zB (ja_c (zq zE (jv 2) zh (fun _ _=>rfl)) (ja_c (jv 6) (ja_c (jv 8) zg)))) (ja_c (zB (ja_c (zq zE (jv 2) zh (fun _ _=>rfl)) (ja_c (yh zR rfl m_tuple uW (ja_c (xk xR (jv 3) xO (xP (jv 9))) zg)) (ja_c (jv 11) zg)))) (ja_c (zB (ja_c (zq zE (jv 2) zh (fun _ _=>rfl)) (ja_c (zB (ja_c (zq zE (jv 3) zh (fun _ _=>rfl)) zg)) (ja_c (jv 12) zg)))) zg))))))))))))))))),?_⟩
 have sl0:=zQ
 have LM:LIM=4611686018427387904:=rfl
 have nwp:wp≠st:=S0.neW hwp
 have nhl:hl≠st:=S0.neS (ts:=[h0,h1,h2,h3]) hhl
 refine ⟨_,rfl,by show -(2 ^ 62)<=(6:Int); decide,by show (6:Int) < 2 ^ 62; decide,yz (fun j τ ys H'=>H=H'/\(∃ v,τ=[some (.ref st),some (.ref wp),some (.ref hl),none,none,none,none,none,none,none,none,none,none,v])/\ys=(nm2 z b j).map V.str) ⟨rfl,⟨none,rfl⟩,rfl⟩ ?_ ?_⟩
 ·rintro j τ ys H1 hj ⟨rfl,⟨v,rfl⟩,rfl⟩
  have hj:j < 6:=hj
  refine ⟨_,rfl,_,rfl,wp,z,b,[],j,(by rw [Int.zero_add]; rfl),hwp,lz,?_⟩
  refine ⟨by rw [ub,yj]; lia,rfl,⟨_,rfl⟩,?_⟩
  rw [Zt,uF]
  rfl
 rintro τ ys H1 ⟨rfl,_,rfl⟩ pl hpl
 have s1:=same_new hpl (.lst ((nm2 z b 6).map V.str))
 have hpl1:upd H pl (.lst ((nm2 z b 6).map V.str)) pl=some (.lst ((nm2 z b 6).map V.str)):=zf
 have npl:pl≠st:=S0.ne hpl
 have S1:=S0.same s1
 have hwp1:=s1 _ _ hwp
 have hhl1:=s1 _ _ hhl
 have k1:Kp st H (upd H pl (.lst ((nm2 z b 6).map V.str))):=.of s1
 rw [show (6:Int).toNat=6 from rfl]
 dsimp only [Ub,L2.start]
 generalize upd H pl (.lst ((nm2 z b 6).map V.str))=H1 at *
 change (tSeq _ (tSeq _ (tSeq _ _)):TS) _ [some (.ref st),some (.ref wp),some (.ref hl),some (.ref pl),none,none,none,none,none,none,none,none,none] H1
 refine (show ∀ (u:TS) (D:Ends),(∀ (H':Hp) (many size:Nat),Kp st H1 H'->Sta K H' st (B + 2)->many<=4->size<=4->(many=0->size=0)->u D [some (.ref st),some (.ref wp),some (.ref hl),some (.ref pl),some (.int (many:Nat)),some (.int (size:Nat)),none,none,none,none,none,none,none] H')->(tSeq _ (tSeq _ (tSeq _ u)):TS) D [some (.ref st),some (.ref wp),some (.ref hl),some (.ref pl),none,none,none,none,none,none,none,none,none] H1 from ?kk) _ _ ?rr
 case kk =>
  intro u D hU
  refine ⟨_,rfl,st,5,B,rfl,S1,by lia,by decide,fun H2 r2 k2 S2 r20 r25=>?_⟩
  obtain ⟨many,rfl⟩:∃ m:Nat,r2=(m:Int):=⟨r2.toNat,by lia⟩
  refine ⟨_,rfl,_,_,rfl,rfl,_,rfl,ite2 (fun c=>?_) (fun c=>nxt ?_)⟩
  ·refine ⟨_,rfl,st,5,B + 1,rfl,S2,by lia,by decide,fun H3 r3 k3 S3 r30 r35=>?_⟩
   obtain ⟨size,rfl⟩:∃ m:Nat,r3=(m:Int):=⟨r3.toNat,by lia⟩
   have c:=of_decide_eq_true c
   exact hU H3 many size (k2.trans k3) S3 (by lia) (by lia) (by lia)
  ·exact hU H2 many 0 k2 (S2.mono (by lia)) (by lia) (by lia) (fun _=>rfl)
 case rr =>
  intro H2 many size k2 S2 m4 s4 ms
  have hpl2:=k2.k _ _ npl hpl1
  have hwp2:=k2.k _ _ nwp hwp1
  have hhl2:=k2.k _ _ nhl hhl1
  refine ⟨_,rfl,_,rfl,_,rfl,pl,_,rfl,SqL.of hpl2,fun la hla=>⟨la,_,rfl,.inl ⟨SqL.of zf,fun tm htm=>?_⟩⟩⟩
  rw [jB z b (by lia)] at htm ⊢
  have n3:=(same_new hla (.lst ((nm2 z b many).map V.str))).new (o:=.tup ((nm2 z b many).map V.str)) htm
  have etm:=zf (H:=upd H2 la (.lst ((nm2 z b many).map V.str))) (a:=tm) (o:=.tup ((nm2 z b many).map V.str))
  have S3:=S2.same n3
  have k3:=k2.trans (.of n3)
  dsimp only [Ub]
  generalize upd (upd H2 la (.lst ((nm2 z b many).map V.str))) tm (.tup ((nm2 z b many).map V.str))=H3 at *
  have hpl3:=n3 _ _ hpl2
  refine ⟨_,rfl,_,rfl,wp,z,b,[],size,rfl,n3 _ _ hwp2,lz,_,rfl,_,rfl,_,rfl,_,rfl,pl,_,rfl,SqL.of hpl3,fun lb hlb=>?_⟩
  rw [jB z b (by lia)]
  have n4:=same_new hlb (.lst ((nm2 z b many).map V.str))
  refine ⟨_,rfl,st,lb,_,size,nm2 z b many,rfl,S3.same n4,by lia,zf,?_,by lia,by rw [yj]; lia,fun H5 px xs k5 S5 hpx lx hxs=>⟨by show 3<=sizeLine; decide,fun pm hpm=>?_⟩⟩
  ·by_cases c:many=0
   ·exact .inl (ms c)
   ·refine .inr fun e=>?_
    have:=yj z b many
    rw [e] at this
    exact c this.symm
  have k45:=(Kp.of (st:=st) n4).trans k5
  have n6:=same_new hpm (.tup [.str "make",.str (nm z b size),.ref px])
  have epm:=zf (H:=H5) (a:=pm) (o:=.tup [.str "make",.str (nm z b size),.ref px])
  have S6:=S5.same n6
  have k36:=k45.trans (.of n6)
  have etm6:=k36.tups S3 _ _ etm
  have hpl6:=k36.k _ _ npl hpl3
  have hpx6:=n6 _ _ hpx
  have hhl6:=k36.k _ _ nhl (n3 _ _ hhl2)
  have k16:=k3.trans k36
  dsimp only [Ub]
  generalize upd H5 pm (.tup [.str "make",.str (nm z b size),.ref px])=H6 at *
  refine ⟨_,rfl,pl,_,_,_,rfl,rfl,SqL.of hpl6,w6 z b (m:=5) (by decide),_,rfl,_,rfl,pl,_,_,_,rfl,rfl,SqL.of hpl6,w6 z b (m:=5) (by decide),by show 2<=sizeLine; decide,fun g1 hg1=>⟨by show 4<=sizeLine; decide,fun b1 hb1=>?_⟩⟩
  have n7:=(same_new hg1 (.tup [.str "give",.str (nm z b 5)])).new (o:=.tup [.str "let",.str (nm z b 5),.ref pm,.ref g1]) hb1
  have hB1:IsBd (upd (upd H6 g1 (.tup [.str "give",.str (nm z b 5)])) b1 (.tup [.str "let",.str (nm z b 5),.ref pm,.ref g1])) (lets [(nm z b 5,.dd (.mk (nm z b size) xs))] (.give (nm z b 5))) b1:=⟨pm,g1,zf,⟨px,n7 _ _ epm,n7 _ _ hpx6⟩,old hb1 zf⟩
  have S7:=S6.same n7
  have etm7:=n7 _ _ etm6
  have hpl7:=n7 _ _ hpl6
  have hhl7:=n7 _ _ hhl6
  have k17:=k16.trans (.of n7)
  dsimp only [Ub]
  generalize upd (upd H6 g1 (.tup [.str "give",.str (nm z b 5)])) b1 (.tup [.str "let",.str (nm z b 5),.ref pm,.ref g1])=H7 at *
  refine ⟨_,rfl,st,3,_,rfl,S7,by lia,by decide,fun H8 r8 k8 S8 r80 r83=>⟨_,_,rfl,rfl,?_⟩⟩
  obtain ⟨few,hfew⟩:∃ N:Nat,(1:Int) + r8=(N:Int):=⟨(1 + r8).toNat,by lia⟩
  have hfe:((fun i j=>V.int (i + j)) (1:Int) r8)=V.int (few:Nat):=congrArg V.int hfew
  rw [hfe]
  have etm8:=k8.tups S7 _ _ etm7
  have hpl8:=k8.k _ _ npl hpl7
  have hhl8:=k8.k _ _ nhl hhl7
  have hB18:=hB1.keep (k8.tups S7)
  have k18:=k17.trans k8
  refine ⟨_,rfl,pl,_,_,_,rfl,rfl,SqL.of hpl8,w6 z b (m:=0) (by decide),_,rfl,_,rfl,_,rfl,_,rfl,pl,_,rfl,SqL.of hpl8,fun lc hlc=>?_⟩
  rw [jB z b (by lia)]
  have n9:=same_new hlc (.lst ((nm2 z b few).map V.str))
  refine ⟨_,rfl,st,4,_,rfl,S8.same n9,by lia,by decide,fun H9 r9 k9 S9 r90 r94=>?_⟩
  obtain ⟨m,rfl⟩:∃ m:Nat,r9=(m:Int):=⟨r9.toNat,by lia⟩
  have nlc:lc≠st:=S8.ne hlc
  refine ⟨st,lc,_,m,nm2 z b few,rfl,S9,by lia,k9.k _ _ nlc zf,.inr fun e=>?_,by lia,by rw [yj]; lia,fun H10 py ys k10 S10 hpy ly hys=>⟨by show 3<=sizeLine; decide,fun pa hpa=>?_⟩⟩
  ·have:=yj z b few
   rw [e] at this
   have:0=few:=this
   lia
  have k8x:=((Kp.of (st:=st) n9).trans k9).trans k10
  have n11:=same_new hpa (.tup [.str "ask",.str (nm z b 0),.ref py])
  have epa:=zf (H:=H10) (a:=pa) (o:=.tup [.str "ask",.str (nm z b 0),.ref py])
  have k811:=k8x.trans (.of n11)
  have S11:=S10.same n11
  have etm11:=k811.tups S8 _ _ etm8
  have hpl11:=k811.k _ _ npl hpl8
  have hhl11:=k811.k _ _ nhl hhl8
  have hB111:=hB18.keep (k811.tups S8)
  have hpy11:=n11 _ _ hpy
  have k111:=k18.trans k811
  dsimp only [Ub]
  generalize upd H10 pa (.tup [.str "ask",.str (nm z b 0),.ref py])=H11 at *
  refine ⟨_,rfl,pl,_,_,_,rfl,rfl,SqL.of hpl11,w6 z b (m:=5) (by decide),_,rfl,_,rfl,pl,_,_,_,rfl,rfl,SqL.of hpl11,w6 z b (m:=5) (by decide),by show 2<=sizeLine; decide,fun g2 hg2=>⟨by show 4<=sizeLine; decide,fun b2 hb2=>?_⟩⟩
  have n12:=(same_new hg2 (.tup [.str "give",.str (nm z b 5)])).new (o:=.tup [.str "let",.str (nm z b 5),.ref pa,.ref g2]) hb2
  have hB2:IsBd (upd (upd H11 g2 (.tup [.str "give",.str (nm z b 5)])) b2 (.tup [.str "let",.str (nm z b 5),.ref pa,.ref g2])) (lets [(nm z b 5,.ask (nm z b 0) ys)] (.give (nm z b 5))) b2:=⟨pa,g2,zf,⟨py,n12 _ _ epa,n12 _ _ hpy11⟩,old hb2 zf⟩
  have S12:=S11.same n12
  have etm12:=n12 _ _ etm11
  have hpl12:=n12 _ _ hpl11
  have hhl12:=n12 _ _ hhl11
  have hB112:=hB111.keep (.of n12)
  have k112:=k111.trans (.of n12)
  dsimp only [Ub]
  generalize upd (upd H11 g2 (.tup [.str "give",.str (nm z b 5)])) b2 (.tup [.str "let",.str (nm z b 5),.ref pa,.ref g2])=H12 at *
  refine ⟨_,rfl,pl,_,_,_,rfl,rfl,SqL.of hpl12,w6 z b (m:=0) (by decide),by show 2<=sizeLine; decide,fun b3 hb3=>?_⟩
  have n13:=same_new hb3 (.tup [.str "give",.str (nm z b 0)])
  have hB3:upd H12 b3 (.tup [.str "give",.str (nm z b 0)]) b3=some (.tup [.str "give",.str (nm z b 0)]):=zf
  have S13:=S12.same n13
  have etm13:=n13 _ _ etm12
  have hpl13:=n13 _ _ hpl12
  have hhl13:=n13 _ _ hhl12
  have hB113:=hB112.keep (.of n13)
  have hB213:=hB2.keep (.of n13)
  have k113:=k112.trans (.of n13)
  dsimp only [Ub]
  generalize upd H12 b3 (.tup [.str "give",.str (nm z b 0)])=H13 at *
  refine ⟨_,rfl,ixL hhl13 (zj (j:=0) rfl) ⟨_,rfl,_,rfl,by show 3<=sizeLine; decide,fun o0 ho0=>?_⟩⟩
  have n14:=same_new ho0 (.tup [.str h0,.ref tm,.ref b1])
  have eo0:=zf (H:=H13) (a:=o0) (o:=.tup [.str h0,.ref tm,.ref b1])
  generalize upd H13 o0 (.tup [.str h0,.ref tm,.ref b1])=H14 at *
  refine ⟨_,rfl,ixL (n14 _ _ hhl13) (zj (j:=1) rfl) ⟨_,rfl,_,rfl,_,rfl,pl,_,rfl,SqL.of (n14 _ _ hpl13),fun ld hld=>⟨ld,_,rfl,.inl ⟨SqL.of zf,fun tf htf=>?_⟩⟩⟩⟩
  rw [jB z b (by lia)] at htf ⊢
  have n15:=(n14.new (o:=.lst ((nm2 z b few).map V.str)) hld).new (o:=.tup ((nm2 z b few).map V.str)) htf
  have eo05:=old (o:=.tup ((nm2 z b few).map V.str)) htf (old (o:=.lst ((nm2 z b few).map V.str)) hld eo0)
  have etf:=zf (H:=upd H14 ld (.lst ((nm2 z b few).map V.str))) (a:=tf) (o:=.tup ((nm2 z b few).map V.str))
  generalize upd (upd H14 ld (.lst ((nm2 z b few).map V.str))) tf (.tup ((nm2 z b few).map V.str))=H15 at *
  refine ⟨_,rfl,by show 3<=sizeLine; decide,fun o1 ho1=>?_⟩
  have n16:=same_new ho1 (.tup [.str h1,.ref tf,.ref b2])
  have eo1:=zf (H:=H15) (a:=o1) (o:=.tup [.str h1,.ref tf,.ref b2])
  generalize upd H15 o1 (.tup [.str h1,.ref tf,.ref b2])=H16 at *
  have n1316:=n15.trans n16
  refine ⟨_,rfl,ixL (n1316 _ _ hhl13) (zj (j:=2) rfl) ⟨_,rfl,pl,_,_,_,rfl,rfl,SqL.of (n1316 _ _ hpl13),w6 z b (m:=0) (by decide),by show 1<=sizeLine; decide,fun tg htg=>⟨_,rfl,by show 3<=sizeLine; decide,fun o2 ho2=>⟨by show 3<=sizeLine; decide,fun l hl'=>?_⟩⟩⟩⟩
  have n17:=((same_new htg (.tup [.str (nm z b 0)])).new (o:=.tup [.str h2,.ref tg,.ref b3]) ho2).new (o:=.lst [.ref o0,.ref o1,.ref o2]) hl'
  have nn:=n1316.trans n17
  have fl:H l=none:=by
   have kk:Kp st H _:=(k1.trans k113).trans (.of (n1316.trans ((same_new htg (.tup [.str (nm z b 0)])).new (o:=.tup [.str h2,.ref tg,.ref b3]) ho2)))
   have SS:=S13.same (n1316.trans ((same_new htg (.tup [.str (nm z b 0)])).new (o:=.tup [.str h2,.ref tg,.ref b3]) ho2))
   exact kk.free (SS.ne hl') hl'
  refine q _ l o0 o1 o2 many size few xs ys ((k1.trans k113).trans (.of nn)) ((S13.same nn).mono (by lia)) fl zf ⟨rfl,fun i o a e1 e2=>?_⟩ ⟨m4,s4,⟨lx,hxs⟩,⟨by lia,by lia⟩,by lia,hys⟩
  match i,e1,e2 with
  | 0,e1,e2 =>
   cases e1
   cases e2
   exact ⟨tm,b1,n17 _ _ (n16 _ _ eo05),nn _ _ etm13,hB113.keep (.of nn)⟩
  | 1,e1,e2 =>
   cases e1
   cases e2
   exact ⟨tf,b2,n17 _ _ eo1,n17 _ _ (n16 _ _ etf),hB213.keep (.of nn)⟩
  | 2,e1,e2 =>
   cases e1
   cases e2
   exact ⟨tg,b3,old hl' zf,old hl' (old ho2 zf),nn _ _ hB3⟩
  | i + 3,e1,_=>simp at e1
end
end GN
namespace GN
open PySem L2 K11
theorem Zu {z:Str} {b:Bool} {k:Nat} (h:noBl z):noBl (nm z b k):=by
 have h1:32 ∉ cl (core k):=by
  rw [xy]
  simp only [uq,UC,or_false]
  lia
 have h2:32 ∉ cl (ys k):=by
  rw [wZ]
  intro h
  have:=List.eq_of_mem_replicate h
  lia
 unfold noBl nm
 split
 ·rw [zP,zP,uN,uN]
  rintro ((h' | h') | h')
  ·exact h1 h'
  ·exact h h'
  ·exact h2 h'
 ·rw [zP,zP,uN,uN]
  rintro ((h' | h') | h')
  ·exact h2 h'
  ·exact h h'
  ·exact h1 h'
theorem VW:∀ n m:Fin 10,cl (numS n)=cl (numS m)->n=m:=by decide +kernel
theorem qD {n m:Nat} (hn:n<=9) (hm:m<=9) (h:cl (numS n)=cl (numS m)):n=m:=congrArg Fin.val (VW ⟨n,by lia⟩ ⟨m,by lia⟩ h)
theorem XV {g g':Str} {n n':Nat} (h:noBl g) (h':noBl g') (hn:n<=9) (hn':n'<=9) (e:ftag g n=ftag g' n'):g=g'/\n=n':=by
 refine ⟨Zj h h' e,?_⟩
 have e:=congrArg cl e
 rw [yR,yR] at e
 have e1:=List.append_cancel_left e
 injection e1 with _ e2
 exact qD hn hn' (y9 h h' e2).2
theorem vc {m:Nat} {t:Str}:∀ {l:List (Str × Nat)} {kvs:Kvs},(t,m)∈l->(∀ m',(t,m')∈l->m'=m)->valV (puts l kvs) (.inr t)=some (.int (m:Nat))
 | [],_,h,_=>by cases h
 | a :: l,kvs,h,g=>by
  show valV (puts l (putK kvs (.inr a.1) (.int (a.2:Int)))) _=_
  by_cases c:t∈l.map (·.1)
  ·obtain ⟨⟨t',m'⟩,hm,e⟩:=Ua.mp c
   cases e
   have:=g m' (ut _ hm)
   subst this
   exact vc hm fun m'' h''=>g m'' (ut _ h'')
  ·rw [w4 c]
   rcases uq.mp h with e | h
   ·rw [<- e,yV,if_pos rfl]
   ·exact absurd (Ua.mpr ⟨_,h,rfl⟩) c
theorem x4 {t:Str} {v:V}:∀ {l:List (Str × Nat)} {kvs:Kvs},valV (puts l kvs) (.inr t)=some v->(∃ m,(t,m)∈l/\v=.int (m:Nat))\/valV kvs (.inr t)=some v
 | [],_,h=>.inr h
 | a :: l,kvs,h=>by
  rcases x4 (l:=l) h with ⟨m,h1,h2⟩ | h
  ·exact .inl ⟨m,ut _ h1,h2⟩
  ·rw [yV] at h
   split at h
   ·rename_i c
    cases h
    have:t=a.1:=Sum.inr.inj c
    subst this
    exact .inl ⟨a.2,uo ..,rfl⟩
   ·exact .inr h
theorem xq:∀ {ds:Dfl} {a:Df},(ds.map (·.1)).Nodup->a∈ds->dfOf ds a.1=some a
 | [],_,_,h=>by cases h
 | d :: ds,a,hn,h=>by
  rw [uP,Uq] at hn
  unfold dfOf
  rw [Uk]
  rcases uq.mp h with rfl | h
  ·rw [decide_eq_true rfl]
  ·rw [decide_eq_false fun e=>hn.1 (by rw [e]; exact Ua.mpr ⟨a,h,rfl⟩)]
   exact xq hn.2 h
def fnL (ds:Dfl):List (Str × Nat):=ds.flatMap fun a=>(UR (a.2.1.length + 1)).map fun m=>(ftag a.1 m,m)
theorem fnL_mem {ds:Dfl} {t:Str} {m:Nat}:(t,m)∈fnL ds↔∃ a∈ds,m<=a.2.1.length/\t=ftag a.1 m:=by
 unfold fnL
 rw [List.mem_flatMap]
 constructor
 ·rintro ⟨a,ha,h⟩
  obtain ⟨m',h1,h2⟩:=Ua.mp h
  rw [Uu] at h1
  cases h2
  exact ⟨a,ha,by lia,rfl⟩
 ·rintro ⟨a,ha,h1,rfl⟩
  exact ⟨a,ha,Ua.mpr ⟨m,Uu.mpr (by lia),rfl⟩⟩
abbrev ks37 (z:Str) (b:Bool):List (List (Str × Nat)):=[(UR 5).map fun k=>(nm z b k,k)]
def kv37 (z:Str) (b:Bool) (ds:Dfl):Kvs:=puts (fnL ds) (puts (ks37 z b).flatten [])
structure Dn (z:Str) (b:Bool) (ds:Dfl):Prop where
 zb:noBl z
 lz:z.length<=6
 n:(ds.map (·.1)).Nodup
 h:∀ a∈ds,∃ k,a.1=nm z b k
 p:∀ a∈ds,a.2.1.length<=9
section
variable {z:Str} {b:Bool} {ds:Dfl}
theorem Dn.nb (D:Dn z b ds):∀ a∈ds,noBl a.1/\a.1.length<=1000/\a.1≠"":=fun a ha=>by
 obtain ⟨k,e⟩:=D.h a ha
 rw [e]
 have:=WY (b:=b) (k:=k) D.lz
 exact ⟨Zu D.zb,by lia,Qj⟩
theorem Dn.tag (D:Dn z b ds) {k:Nat} (hk:k < 5):szOf (kv37 z b ds) (nm z b k)=some k/\szOf (puts (ks37 z b).flatten []) (nm z b k)=some k:=by
 have e:valV (puts (ks37 z b).flatten []) (.inr (nm z b k))=some (.int (k:Nat)):=by
  refine vc ?_ fun m' h=>?_
  ·simp only [Uo,U5,uO]
   exact Ua.mpr ⟨k,Uu.mpr hk,rfl⟩
  ·simp only [Uo,U5,uO] at h
   obtain ⟨j,hj,e⟩:=Ua.mp h
   rw [Uu] at hj
   have e1:=congrArg Prod.fst e
   have e2:=congrArg Prod.snd e
   have:j=k:=wB (by lia) (by lia) e1
   have e2:j=m':=e2
   lia
 have e':valV (kv37 z b ds) (.inr (nm z b k))=some (.int (k:Nat)):=by
  unfold kv37
  rw [w4,e]
  intro h
  obtain ⟨⟨t,m⟩,h1,h2⟩:=Ua.mp h
  obtain ⟨a,ha,_,h4⟩:=fnL_mem.mp h1
  have h2:t=nm z b k:=h2
  have:=Zu (b:=b) (k:=k) D.zb
  rw [<- h2,h4] at this
  exact YU _ _ this
 unfold szOf
 rw [e,e']
 exact ⟨rfl,rfl⟩
theorem Dn.fn (D:Dn z b ds) {a:Df} (ha:a∈ds) {m:Nat} (hm:m<=a.2.1.length):szOf (kv37 z b ds) (ftag a.1 m)=some m:=by
 have e:valV (kv37 z b ds) (.inr (ftag a.1 m))=some (.int (m:Nat)):=by
  unfold kv37
  refine vc (fnL_mem.mpr ⟨a,ha,hm,rfl⟩) fun m' h=>?_
  obtain ⟨a',ha',hm',e⟩:=fnL_mem.mp h
  have:=D.p a ha
  have:=D.p a' ha'
  exact (XV (D.nb a ha).1 (D.nb a' ha').1 (by lia) (by lia) e).2.symm
 unfold szOf
 rw [e]
 rfl
theorem Dn.tg (D:Dn z b ds):TagOk (kv37 z b ds) ds:=by
 refine ⟨fun t m h=>?_,fun a ha=>(D.nb a ha).1,fun a ha=>xq D.n ha⟩
 unfold szOf at h
 cases hv:valV (kv37 z b ds) (.inr t) with
 | none=>rw [hv] at h; cases h
 | some v =>
  rw [hv] at h
  unfold kv37 at hv
  rcases x4 hv with ⟨m',h1,rfl⟩ | hv
  ·cases h
   obtain ⟨a,ha,hm,e⟩:=fnL_mem.mp h1
   have:=D.p a ha
   have:=(D.nb a ha).2.1
   exact ⟨by rw [e]; exact VD this (by lia),.inl ⟨a,ha,e⟩⟩
  ·rcases x4 hv with ⟨m',h1,rfl⟩ | hv
   ·simp only [Uo,U5,uO] at h1
    obtain ⟨j,hj,e⟩:=Ua.mp h1
    have e:nm z b j=t:=congrArg Prod.fst e
    have:=WY (b:=b) (k:=j) D.lz
    rw [<- e]
    exact ⟨by lia,.inr (Zu D.zb)⟩
   ·cases hv
theorem Dn.ext (D:Dn z b ds):∀ t m,szOf (puts (ks37 z b).flatten []) t=some m->szOf (kv37 z b ds) t=some m:=fun t m h=>by
 cases hv:valV (puts (ks37 z b).flatten []) (.inr t) with
 | none=>unfold szOf at h; rw [hv] at h; cases h
 | some v =>
  rcases x4 hv with ⟨m',h1,rfl⟩ | hv'
  ·simp only [Uo,U5,uO] at h1
   obtain ⟨j,hj,e⟩:=Ua.mp h1
   rw [Uu] at hj
   have e:nm z b j=t:=congrArg Prod.fst e
   rw [<- e] at h ⊢
   rw [(D.tag hj).2] at h
   rw [(D.tag hj).1]
   exact h
  ·cases hv'
theorem qF (D:Dn z b ds) {hs:Dfl} (hh:∀ a∈hs,a∈ds) {ks:List Str}:∀ {d:Dx},Good z b hs ks d->OkDx (kv37 z b ds) ds ks d/\D37 ds d
 | .dd (.num i),h=>⟨⟨h,fun t ns e=>by cases e⟩,trivial⟩
 | .dd (.op _ _ _),h=>h.elim
 | .dd (.mk t ns),⟨m,hm,et,ln,hn⟩=>⟨⟨⟨hn,by lia⟩,fun t' ns' e=>by
   cases e
   rw [et,(D.tag hm).1,ln]⟩,by rw [et]; exact Zu D.zb⟩
 | .fn g ns,⟨a,ha,eg,ln,hn⟩=>by
  have am:=hh a ha
  have:=D.p a am
  subst eg
  exact ⟨⟨hn,by lia,(D.nb a am).2.1,D.fn am ln⟩,(D.nb a am).2.2,a,xq D.n am⟩
 | .call g ns,⟨a,ha,eg,ln,hn⟩=>by
  have am:=hh a ha
  have:=D.p a am
  subst eg
  exact ⟨⟨hn,by lia,a,xq D.n am,ln.symm⟩,trivial⟩
 | .ask x ns,h=>⟨h,trivial⟩
theorem zaJ {kv:Kvs} {ks:List Str} {n:Str} {d:Dx} {bd:Bd} (h:OkDx kv ds ks d) (g:OkX kv ds (ks ++ [n]) bd):OkX kv ds ks (.lt n d bd):=by
 cases d <;> (simp only [OkX]; exact ⟨h,g⟩)
theorem Y6 {kv:Kvs} {ks:List Str}:∀ {as:Arms},(∀ a∈as.hs,a.1≠""/\szOf kv a.1=some a.2.1.length/\OkX kv ds (ks ++ a.2.1) a.2.2)->OkXs kv ds ks as
 | .nil,_=>by simp only [OkXs]
 | .cons t ns bd r,h=>by
  simp only [OkXs]
  have h0:=h (t,ns,bd) (uo ..)
  exact ⟨h0.1,h0.2.1,h0.2.2,Y6 fun a ha=>h a (ut _ ha)⟩
theorem Y7:∀ {as:Arms} {n:Nat},(∀ a∈as.hs,a.2.1.length + a.2.2.sz + 1<=n)->as.sz<=as.hs.length * n
 | .nil,n,_=>by rw [Arms.sz]; exact u6 _
 | .cons t ns bd r,n,h=>by
  rw [Arms.sz,Arms.hs,uD,Nat.succ_mul]
  have h0:=h (t,ns,bd) (uo ..)
  have h1:=Y7 (as:=r) fun a ha=>h a (ut _ ha)
  have h0:ns.length + bd.sz + 1<=n:=h0
  lia
theorem VX (D:Dn z b ds) {ks:List Str} (hk:∀ n∈ks,∃ i,i < 15/\n=nm z b i):∀ {en:Bd},Zs z b ks en->OkX (kv37 z b ds) ds ks en/\End37 en/\en.sz<=100
 | .give y,h=>⟨by simp only [OkX]; exact h,trivial,by rw [Bd.sz]; decide⟩
 | .iff x b' c',⟨h1,⟨y,hy,hy'⟩,y2,hy2,hy2'⟩=>by
  subst hy hy2
  refine ⟨by simp only [OkX]; exact ⟨h1,hy',hy2'⟩,⟨⟨_,rfl⟩,_,rfl⟩,?_⟩
  rw [Bd.sz,Bd.sz,Bd.sz]
  decide
 | .cs x as,⟨h1,l5,h⟩=>by
  have hX:OkXs (kv37 z b ds) ds ks as:=Y6 fun a ha=>by
   obtain ⟨k,hk5,e1,e2,y,e3,hy⟩:=h a ha
   have:a.2.1.length=k:=by rw [e2,nm20,ub,UQ]
   rw [e1,e3,this]
   exact ⟨Qj,(D.tag hk5).1,by simp only [OkX]; exact Uj _ hy⟩
  refine ⟨by simp only [OkX]; exact ⟨h1,hX⟩,⟨by lia,fun a ha=>?_⟩,?_⟩
  ·obtain ⟨k,hk5,e1,e2,y,e3,hy⟩:=h a ha
   refine ⟨y,e3,fun hm=>?_⟩
   rw [e2] at hm
   obtain ⟨j,hj,ej⟩:=Ua.mp hm
   rw [Uu] at hj
   obtain ⟨i,hi,ei⟩:=hk y hy
   rw [ei] at ej
   have:=wB (by lia) (by lia) ej
   lia
  ·have:=Y7 (as:=as) (n:=10) fun a ha=>by
    obtain ⟨k,hk5,e1,e2,y,e3,hy⟩:=h a ha
    have:a.2.1.length=k:=by rw [e2,nm20,ub,UQ]
    rw [e3,Bd.sz]
    lia
   rw [Bd.sz]
   lia
theorem Zv (D:Dn z b ds) {hs:Dfl} (hh:∀ a∈hs,a∈ds) {en:Bd} (hz:en.sz<=100):∀ {rows:List (Str × Dx)} {ks:List Str},GoodR z b hs ks rows->OkX (kv37 z b ds) ds (ks ++ rows.map (·.1)) en->OkX (kv37 z b ds) ds ks (lets rows en)/\(∀ p∈rows,D37 ds p.2)/\(lets rows en).sz<=rows.length + 100
 | [],ks,_,h=>by
  rw [List.map_nil,uO] at h
  exact ⟨h,fun p hp=>(by cases hp),by show en.sz<=0 + 100; lia⟩
 | (n,d) :: r,ks,⟨g1,g2⟩,h=>by
  obtain ⟨a1,a2⟩:=qF D hh g1
  obtain ⟨b1,b2,b3⟩:=Zv D hh hz g2 (by rw [uG]; exact h)
  refine ⟨zaJ a1 b1,fun p hp=>?_,by rw [lets,Bd.sz,uD]; lia⟩
  rcases uq.mp hp with rfl | hp
  ·exact a2
  ·exact b2 p hp
end
end GN
namespace GN
open PySem L2 K11
theorem zaK {z:Str} {b:Bool} {n:Nat} (h:n<=1000):(nm2 z b n).Nodup:=by
 rw [nm2,List.Nodup,List.pairwise_iff_getElem]
 intro i j hi hj hij e
 rw [ub,UQ] at hi hj
 rw [List.getElem_map,List.getElem_map,List.getElem_range,List.getElem_range] at e
 have:=wB (by lia) (by lia) e
 lia
theorem jC {z:Str} {b:Bool} {n:Nat} {x:Str} (h:x∈nm2 z b n):∃ i,i < n/\x=nm z b i:=by
 obtain ⟨i,hi,e⟩:=Ua.mp h
 exact ⟨i,Uu.mp hi,e.symm⟩
theorem VY {z:Str} {b:Bool} {n i:Nat} (h:i < n):nm z b i∈nm2 z b n:=Ua.mpr ⟨i,Uu.mpr h,rfl⟩
structure Def37 (z:Str) (b:Bool) (ds:Dfl) (a:Df) (rows:List (Str × Dx)) (en:Bd):Prop where
 e:a.2.2=lets rows en
 nd:a.2.1.Nodup
 l:a.2.1.length<=9
 o:OkX (kv37 z b ds) ds a.2.1 a.2.2
 d:∀ p∈rows,D37 ds p.2
 n:End37 en
 r:rows.length<=20
 s:a.2.2.sz<=700
theorem Y8 {z:Str} {b:Bool} {ds hs:Dfl} {g:Str} {m:Nat} {rows:List (Str × Dx)} {en:Bd} (D:Dn z b ds) (hh:∀ a∈hs,a∈ds) (hm:m<=4) (hg:GoodR z b hs (nm2 z b m) rows) (hk:∀ n∈nm2 z b m ++ rows.map (·.1),∃ i,i < 15/\n=nm z b i) (he:Zs z b (nm2 z b m ++ rows.map (·.1)) en) (hr:rows.length<=20):Def37 z b ds (g,nm2 z b m,lets rows en) rows en:=by
 obtain ⟨e1,e2,e3⟩:=VX D hk he
 obtain ⟨r1,r2,r3⟩:=Zv D hh e3 hg e1
 exact ⟨rfl,zaK (by lia),by show (nm2 z b m).length<=9; rw [yj]; lia,r1,r2,e2,hr,by show (lets rows en).sz<=700; lia⟩
def insD (ip:Nat) (md:Df) (hs:Dfl):Dfl:=hs.take ip ++ md :: hs.drop ip
theorem insD_mem {ip:Nat} {md a:Df} {hs:Dfl}:a∈insD ip md hs↔a=md\/a∈hs:=by
 unfold insD
 constructor
 ·intro h
  rcases uN.mp h with h | h
  ·exact .inr (List.mem_of_mem_take h)
  ·rcases uq.mp h with h | h
   ·exact .inl h
   ·exact .inr (List.mem_of_mem_drop h)
 ·rintro (rfl | h)
  ·exact uM _ (uo ..)
  ·rw [<- UA ip hs] at h
   rcases uN.mp h with h | h
   ·exact Uj _ h
   ·exact uM _ (ut _ h)
theorem wd (ip:Nat) (md:Df) (hs:Dfl):(insD ip md hs).Perm (md :: hs):=by
 unfold insD
 refine List.perm_middle.trans ?_
 rw [UA]
section
variable {z:Str} {b:Bool} {j0 many size few ip:Nat} {xs ys:List Str} {rows:List (Str × Dx)} {en:Bd}
def rw37 (z:Str) (b:Bool) (j0 size:Nat) (xs ys:List Str) (rows:List (Str × Dx)) (en:Bd):Rws:=fun g=>if g=nm z b j0 then ([(nm z b 5,.dd (.mk (nm z b size) xs))],.give (nm z b 5)) else if g=nm z b 5 then ([(nm z b 5,.ask (nm z b 0) ys)],.give (nm z b 5)) else if g=nm z b 6 then ([],.give (nm z b 0)) else (rows,en)
theorem pr37 (zb:noBl z) (lz:z.length<=6) (hj:j0 < 5) (hH:Hlp z b many size few xs ys) (hg:GoodR z b (hlp z b (nm z b j0) (nm z b 5) (nm z b 6) many size few xs ys) (nm2 z b 2) rows) (hn:nm2 z b 2 ++ rows.map (·.1)=nm2 z b (2 + rows.length)) (hr:rows.length<=9) (he:Zs z b (nm2 z b 2 ++ rows.map (·.1)) en) :
  Pr37 (kv37 z b (insD ip (nm z b 7,nm2 z b 2,lets rows en) (hlp z b (nm z b j0) (nm z b 5) (nm z b 6) many size few xs ys))) (insD ip (nm z b 7,nm2 z b 2,lets rows en) (hlp z b (nm z b j0) (nm z b 5) (nm z b 6) many size few xs ys)) (rw37 z b j0 size xs ys rows en) /\
  PGOk (ks37 z b) (insD ip (nm z b 7,nm2 z b 2,lets rows en) (hlp z b (nm z b j0) (nm z b 5) (nm z b 6) many size few xs ys)) (kv37 z b (insD ip (nm z b 7,nm2 z b 2,lets rows en) (hlp z b (nm z b j0) (nm z b 5) (nm z b 6) many size few xs ys))) /\
  Dn z b (insD ip (nm z b 7,nm2 z b 2,lets rows en) (hlp z b (nm z b j0) (nm z b 5) (nm z b 6) many size few xs ys)):=by
 obtain ⟨hs,ehs⟩:∃ hs,hs=hlp z b (nm z b j0) (nm z b 5) (nm z b 6) many size few xs ys:=⟨_,rfl⟩
 obtain ⟨md,emd⟩:∃ md:Df,md=(nm z b 7,nm2 z b 2,lets rows en):=⟨_,rfl⟩
 rw [<- ehs] at hg ⊢
 rw [<- emd]
 have inj:∀ {i j:Nat},i < 10->j < 10->i≠j->nm z b i≠nm z b j:=fun h1 h2 n e=>n (wB (by lia) (by lia) e)
 have mem:∀ a,a∈insD ip md hs->a=md\/a=(nm z b j0,nm2 z b many,lets [(nm z b 5,.dd (.mk (nm z b size) xs))] (.give (nm z b 5)))\/a=(nm z b 5,nm2 z b few,lets [(nm z b 5,.ask (nm z b 0) ys)] (.give (nm z b 5)))\/a=(nm z b 6,nm2 z b 1,lets [] (.give (nm z b 0))):=fun a ha=>by
  rcases insD_mem.mp ha with h | h
  ·exact .inl h
  ·rw [ehs,hlp] at h
   simp only [uq,UC,or_false] at h
   exact .inr h
 have hh:∀ a∈hs,a∈insD ip md hs:=fun a ha=>insD_mem.mpr (.inr ha)
 have D:Dn z b (insD ip md hs):=by
  refine ⟨zb,lz,?_,fun a ha=>?_,fun a ha=>?_⟩
  ·rw [((wd ip md hs).map _).nodup_iff,uP,ehs,emd,hlp]
   simp only [uP,List.map_nil,Uq,uq,UC,or_false,not_or,not_false_eq_true,and_true,List.nodup_nil]
   exact ⟨⟨inj (by lia) (by lia) (by lia),inj (by lia) (by lia) (by lia),inj (by lia) (by lia) (by lia)⟩,⟨inj (by lia) (by lia) (by lia),inj (by lia) (by lia) (by lia)⟩,inj (by lia) (by lia) (by lia)⟩
  ·rcases mem a ha with rfl | rfl | rfl | rfl
   ·exact ⟨7,by rw [emd]⟩
   ·exact ⟨j0,rfl⟩
   ·exact ⟨5,rfl⟩
   ·exact ⟨6,rfl⟩
  ·have m4:=hH.m
   have f3:=hH.f
   rcases mem a ha with rfl | rfl | rfl | rfl
   ·rw [emd]; show (nm2 z b 2).length<=9; rw [yj]; decide
   ·show (nm2 z b many).length<=9; rw [yj]; lia
   ·show (nm2 z b few).length<=9; rw [yj]; lia
   ·show (nm2 z b 1).length<=9; rw [yj]; decide
 have k5:∀ m:Nat,m<=4->∀ n∈nm2 z b m ++ [nm z b 5],∃ i,i < 15/\n=nm z b i:=fun m hm n hn=>by
  rcases uN.mp hn with h | h
  ·obtain ⟨i,hi,e⟩:=jC h
   exact ⟨i,by lia,e⟩
  ·exact ⟨5,by decide,uh.mp h⟩
 have F:∀ a∈insD ip md hs,Def37 z b (insD ip md hs) a (rw37 z b j0 size xs ys rows en a.1).1 (rw37 z b j0 size xs ys rows en a.1).2:=fun a ha=>by
  have hs4:=hH.s
  rcases mem a ha with rfl | rfl | rfl | rfl
  ·have e:rw37 z b j0 size xs ys rows en a.1=(rows,en):=by
    unfold rw37
    rw [emd,if_neg (inj (by lia) (by lia) (by lia)),if_neg (inj (by lia) (by lia) (by lia)),if_neg (inj (by lia) (by lia) (by lia))]
   rw [e,emd]
   rw [emd] at D hh
   refine Y8 D hh (by decide) hg (fun n hn'=>?_) he (by lia)
   rw [hn] at hn'
   obtain ⟨i,hi,e⟩:=jC hn'
   exact ⟨i,by lia,e⟩
  ·have e:rw37 z b j0 size xs ys rows en (nm z b j0)=([(nm z b 5,.dd (.mk (nm z b size) xs))],.give (nm z b 5)):=by
    unfold rw37
    rw [if_pos rfl]
   show Def37 z b _ _ (rw37 z b j0 size xs ys rows en (nm z b j0)).1 (rw37 z b j0 size xs ys rows en (nm z b j0)).2
   rw [e]
   exact Y8 (hs:=hs) D hh hH.m ⟨⟨size,by lia,rfl,hH.x.1,hH.x.2⟩,trivial⟩ (k5 many hH.m) (uM _ (uh.mpr rfl)) (by show 1<=20; decide)
  ·have e:rw37 z b j0 size xs ys rows en (nm z b 5)=([(nm z b 5,.ask (nm z b 0) ys)],.give (nm z b 5)):=by
    unfold rw37
    rw [if_neg (inj (by lia) (by lia) (by lia)),if_pos rfl]
   show Def37 z b _ _ (rw37 z b j0 size xs ys rows en (nm z b 5)).1 (rw37 z b j0 size xs ys rows en (nm z b 5)).2
   rw [e]
   have hf:=hH.f
   have hy:=hH.y
   exact Y8 (hs:=hs) D hh (by lia) ⟨⟨VY (by lia),hy.2,by lia⟩,trivial⟩ (k5 few (by lia)) (uM _ (uh.mpr rfl)) (by show 1<=20; decide)
  ·have e:rw37 z b j0 size xs ys rows en (nm z b 6)=([],.give (nm z b 0)):=by
    unfold rw37
    rw [if_neg (inj (by lia) (by lia) (by lia)),if_neg (inj (by lia) (by lia) (by lia)),if_pos rfl]
   show Def37 z b _ _ (rw37 z b j0 size xs ys rows en (nm z b 6)).1 (rw37 z b j0 size xs ys rows en (nm z b 6)).2
   rw [e]
   refine Y8 (hs:=hs) D hh (by decide) trivial (fun n hn'=>?_) (Uj _ (VY (by decide))) (by show 0<=20; decide)
   rw [List.map_nil,uO] at hn'
   obtain ⟨i,hi,e⟩:=jC hn'
   exact ⟨i,by lia,e⟩
 refine ⟨⟨fun a ha=>⟨(F a ha).e,(F a ha).n⟩,D.tg,fun a ha=>⟨(F a ha).nd,(F a ha).l,(F a ha).o⟩,fun a ha=>(F a ha).d,fun a ha=>(F a ha).r⟩,⟨⟨by simp,fun a ha=>?_⟩,D.n,?_,fun a ha=>⟨(F a ha).nd,(F a ha).l,(F a ha).o,(F a ha).s⟩,D.ext,D.tg⟩,D⟩
 ·simp only [Uo,U5,uO] at ha
  obtain ⟨j,hj,e⟩:=Ua.mp ha
  rw [Uu] at hj
  rw [<- e]
  show j<=9
  lia
 ·rw [(wd ip md hs).length_eq,ehs]
  show 4<=100
  decide
end
end GN
namespace GN
open PySem L2 K11
theorem Y9:∀ {zs:List Str},(∀ z∈zs,noBl z)->noBl (Str.join "" zs)
 | [],_=>by unfold noBl; decide +kernel
 | [x],h=>h x uo
 | x :: y :: r,h=>by
  have ih:=Y9 (zs:=y :: r) fun z hz=>h z (ut _ hz)
  have h0:=h x uo
  unfold noBl at ih h0 ⊢
  rw [yc,uN,uN,not_or,not_or]
  exact ⟨h0,by decide +kernel,ih⟩
def Xb (K:ua):Sp:=fun vs H Q _=>∃ (st:Addr) (B:Nat),vs=[.ref st]/\Sta K H st B/\B + 8 < LIM/\∀ (H':Hp) (p:Addr) (z:Str) (b:Bool),Kp st H H'->Sta K H' st (B + 8)->H' p=some (.lst [.str z,.bl b])->z.length<=6->noBl z->Q (.ref p) H'
theorem IsDs.app {H:Hp} {o1 o2:List Addr} {d1 d2:Dfl} (h:IsDs H o1 d1) (g:IsDs H o2 d2):IsDs H (o1 ++ o2) (d1 ++ d2):=⟨by rw [uf,uf,h.1,g.1],fun i o a h1 h2=>by
 have:=h.1
 by_cases c:i < o1.length
 ·rw [uv c] at h1
  rw [uv (by lia)] at h2
  exact h.2 i o a h1 h2
 ·rw [uL (by lia)] at h1 h2
  rw [<- this] at h2
  exact g.2 _ o a h1 h2⟩
theorem IsDs.take {H:Hp} {os:List Addr} {ds:Dfl} (n:Nat) (h:IsDs H os ds):IsDs H (os.take n) (ds.take n):=⟨by rw [uR,uR,h.1],fun i o a h1 h2=>by
 rw [List.getElem?_take] at h1 h2
 split at h1
 ·rename_i c
  rw [if_pos c] at h2
  exact h.2 i o a h1 h2
 ·cases h1⟩
theorem IsDs.drop {H:Hp} {os:List Addr} {ds:Dfl} (n:Nat) (h:IsDs H os ds):IsDs H (os.drop n) (ds.drop n):=⟨by rw [UT,UT,h.1],fun i o a h1 h2=>by
 rw [List.getElem?_drop] at h1 h2
 exact h.2 _ o a h1 h2⟩
theorem IsDs.cons {H:Hp} {o pp pb:Addr} {os:List Addr} {a:Df} {ds:Dfl} (e1:H o=some (.tup [.str a.1,.ref pp,.ref pb])) (e2:H pp=some (.tup (a.2.1.map V.str))) (e3:IsBd H a.2.2 pb) (h:IsDs H os ds):IsDs H (o :: os) (a :: ds):=⟨by rw [uD,uD,h.1],fun i o' a' h1 h2=>by
 cases i with
 | zero=>cases h1; cases h2; exact ⟨pp,pb,e1,e2,e3⟩
 | succ i=>exact h.2 i o' a' h1 h2⟩
theorem IsDs.dfl {H:Hp} {os:List Addr} {ds:Dfl} {d:Addr} {dks:List (Key × V)} (h:IsDs H os ds) (hn:(ds.map (·.1)).Nodup) (hd:H d=some (.dK dks)) (g:∀ (i:Nat) o a,os[i]?=some o->ds[i]?=some a->valV dks (.inr a.1)=some (.ref o)):DfL H d ds:=by
 refine ⟨dks,hd,fun g' a' hf=>?_⟩
 have m':a'∈ds:=uH hf
 have e':a'.1=g':=by simpa using UG hf
 obtain ⟨i,hi⟩:=Ud m'
 have hl:=(ud.mp hi).1
 have ho:os[i]?=some (os[i]'(by rw [h.1]; exact hl)):=ug _
 obtain ⟨pp,pb,e1,e2,e3⟩:=h.2 i _ a' ho hi
 exact ⟨_,pp,pb,by rw [<- e']; exact g i _ a' ho hi,by rw [<- e']; exact e1,e2,e3⟩
theorem jD {kv:Kvs} {i:Int} (h:Sm i):hgt kv [.int i]=some 1:=by
 rw [yD]
 show (match some 0,(if -1000000000000000000000000000000 < i/\i < 1000000000000000000000000000000 then some 0 else none) with
  | some n,some s=>if s<=n then some (n - s + 1) else none
  | _,_=>none)=_
 unfold Sm at h
 rw [if_pos h]
 rfl
theorem jF {kv:Kvs} {ds:Dfl} {i:Int} (h:Sm i):ArgOk kv ds [.int i]:=⟨jD h,by show 1<=100; decide,fun y hy=>by rw [uh.mp hy]; exact trivial,fun m=>rfl⟩
theorem jH {ks:List (List (Str × Nat))} {i:Int} (h:Sm i):Grw ks [.int i]:=⟨by show 1<=300; decide,fun y hy=>by rw [uh.mp hy]; exact trivial,jD h⟩
theorem Xc {kv:Kvs} {t:Str} {i:Int} (h:szOf kv t=some 1) (g:Sm i):hgt kv [.str t,.int i]=some 1:=by
 rw [yD,jD g]
 show (match some 1,szOf kv t with
  | some n,some s=>if s<=n then some (n - s + 1) else none
  | _,_=>none)=_
 rw [h]
 rfl
theorem VZ {t:Str} {i:Int}:∀ y∈[V.str t,.int i],At y:=fun y hy=>by
 rcases uq.mp hy with rfl | hy
 ·exact trivial
 ·rw [uh.mp hy]
  exact trivial
def Arg2 (z:Str) (b:Bool) (xss:List (List V)):Prop:=∃ i j:Int,Sm i/\Sm j/\(xss=[[.int i],[.int j]]\/xss=[[.int i],[.str (nm z b 1),.int j]])
theorem Arg2.ok {z:Str} {b:Bool} {ds:Dfl} {xss:List (List V)} (h:Arg2 z b xss) (D:Dn z b ds):∀ xs∈xss,ArgOk (kv37 z b ds) ds xs/\Grw (ks37 z b) xs:=fun xs hx=>by
 obtain ⟨i,j,si,sj,rfl | rfl⟩:=h
 ·rcases uq.mp hx with rfl | hx
  ·exact ⟨jF si,jH si⟩
  ·rw [uh.mp hx]
   exact ⟨jF sj,jH sj⟩
 ·rcases uq.mp hx with rfl | hx
  ·exact ⟨jF si,jH si⟩
  ·rw [uh.mp hx]
   obtain ⟨t1,t2⟩:=D.tag (k:=1) (by decide)
   exact ⟨⟨Xc t1 sj,by show 2<=100; decide,VZ,fun m=>Y1 (Zu D.zb) m⟩,by show 2<=300; decide,VZ,Xc t2 sj⟩
theorem Arg2.len {z:Str} {b:Bool} {xss:List (List V)} (h:Arg2 z b xss):xss.length=2:=by
 obtain ⟨i,j,si,sj,rfl | rfl⟩:=h <;> rfl
section
variable {P:Program} {w:World} {K:ua} {mg:Str->Option Value} {base:Heap} {f:Addr} {fd:FuncData}
theorem V0 (F:Fun K "_law_stem" "_law_stem" WN f fd) (GD:Ca P w K mg base CX0 1 "_law_draw" ["_law_state","_law_many"] (xa K)) (m_range:mg "range"=none):FnOk P w K mg base CX0 2 f fd ["_law_state"] (Xb K):=by
 refine F.by scStem (fun vs H Q E h=>?_) (fun cdv A outer s H vs Q E hr h=>?_)
 ·obtain ⟨st,B,rfl,_⟩:=h
  rfl
 obtain ⟨st,B,rfl,S0,hB,q⟩:=h
 refine ⟨_,
  (zi (zv (i:=1) scStem.nd rfl (Or.inr rfl) zu)
  (zi (zv (i:=2) scStem.nd rfl (Or.inl rfl) (xl PySem.F.plainAttrs_str PySem.F.slot_str_join PySem.F.type_str_join JE zu (ja_c (yA ["_law_k"] rfl (yn rfl m_range (ja_c (zy GD hr rfl zC (ja_c (jv 0) (ja_c zh zg))) zg)) (fun _ _ _ _ _=>(zD (i:=3) zaj rfl (Or.inl rfl))) (fun _ _ _ _ _=>ya) (fun _ _ _ _ _=>(zq ZJ (jv 1) (zy GD hr rfl zC (ja_c (jv 0) (ja_c zh zg))) (fun _ _=>rfl)))) zg)))
  (zk (zx (zZ (ja_c (jv 2) (ja_c (yH zL (zy GD hr rfl zC (ja_c (jv 0) (ja_c zh zg))) zh (zw _)) zg))))))),?_⟩
 have sl:=zQ
 have LM:LIM=4611686018427387904:=rfl
 refine ⟨rfl,_,rfl,st,7,B,rfl,S0,by lia,by decide,fun H1 r k1 S1 r0 r1=>?_⟩
 refine ⟨_,rfl,by lia,by lia,yz (n:=r.toNat) (fun i τ ys H'=>Kp st H H'/\Sta K H' st (B + 1 + i)/\(∃ x,τ=[some (.ref st),some (.str LET),none,x])/\∃ zs:List Str,ys=zs.map V.str/\zs.length=i/\∀ z∈zs,z.length=1/\noBl z) ⟨k1,S1,⟨none,rfl⟩,[],rfl,rfl,fun z hz=>by cases hz⟩ ?_ ?_⟩
 ·rintro i τ ys H2 hi ⟨k2,S2,⟨x,rfl⟩,zs,rfl,hl,h1⟩
  refine ⟨_,rfl,_,rfl,st,26,B + 1 + i,rfl,S2,by lia,by decide,fun H3 r3 k3 S3 q0 q1=>?_⟩
  refine ⟨LET,_,_,rfl,rfl,by rw [jo]; decide,jm q0 q1,by rw [ub]; lia,k2.trans k3,S3,⟨_,rfl⟩,zs ++ [⟨#[97 + r3.toNat]⟩],by simp,by simp [hl],?_⟩
  intro z hz
  rcases uN.mp hz with hz | hz
  ·exact h1 z hz
  ·rw [uh.mp hz]
   refine ⟨rfl,?_⟩
   show 32 ∉ [97 + r3.toNat]
   rw [uh]
   lia
 rintro τ ys H2 ⟨k2,S2,_,zs,rfl,hl,h1⟩ pj hpj
 refine ⟨"",pj,zs,rfl,rfl,SqL.of zf,by rw [W9 fun z hz=>(h1 z hz).1]; lia,?_⟩
 have zl:(Str.join "" zs).length<=6:=by rw [j9 fun z hz=>(h1 z hz).1]; lia
 have zb:noBl (Str.join "" zs):=Y9 fun z hz=>(h1 z hz).2
 replace k2:=k2.new (o:=.lst (zs.map V.str)) hpj
 replace S2:=(S2.mono (show _<=B + 7 by lia)).new hpj (.lst (zs.map V.str))
 generalize upd H2 pj (.lst (zs.map V.str))=H3 at *
 generalize Str.join "" zs=z at *
 refine ⟨_,rfl,_,rfl,st,2,B + 7,rfl,S2,by lia,by decide,fun H4 r4 k4 S4 _ _=>?_⟩
 refine ⟨rfl,by show 2<=sizeLine; decide,fun p hp=>?_⟩
 exact q _ p z _ ((k2.trans k4).new hp) (S4.new hp _) zf zl zb
end
end GN
namespace GN
open PySem L2 K11
def spTopT (K:ua) (T:Addr):Sp:=fun vs H Q _=>∃ (a:Addr) (ns:List Int),vs=[.ref a]/\SqL K H a (ns.map V.int)/\ns.length<=63/\H T=some (.tbl #[])/\∀ H',Q (.bl true) H'
structure Lw (T pg hl d al ha:Addr) (as hs:List Addr) (ks:List (List (Str × Nat))) (ds:Dfl) (xss:List (List V)) (heads:List V) (H:Hp):Prop where
 tb:Tb T H
 pg:IsPG H ks ds pg
 hl:H hl=some (.lst heads)
 d:DfL H d ds
 al:Args H ks al as xss
 ha:Args H ks ha hs xss
theorem IsPG.keep {H H':Hp} {ks:List (List (Str × Nat))} {ds:Dfl} {p:Addr} (h:IsPG H ks ds p) (t:Tups H H'):IsPG H' ks ds p:=by
 obtain ⟨pk,pd,ones,a,b,c,d⟩:=h
 exact ⟨pk,pd,ones,t _ _ a,b.keep t,t _ _ c,d.keep t⟩
theorem Args.kt {T:Addr} {H H':Hp} {ks:List (List (Str × Nat))} {al:Addr} {as:List Addr} {xss:List (List V)} (h:Args H ks al as xss) (k:KT T H H') (t:Tb T H):Args H' ks al as xss:=⟨k.lst t h.1,h.2.1,fun j a xs h1 h2=>⟨k.lst t (h.2.2 j a xs h1 h2).1,(h.2.2 j a xs h1 h2).2⟩⟩
theorem DfL.kt {T d:Addr} {H H':Hp} {ds:Dfl} (h:DfL H d ds) (k:KT T H H') (t:Tb T H):DfL H' d ds:=by
 obtain ⟨dks,a,b⟩:=h
 have tu:=k.tups t
 obtain ⟨tb,ht⟩:=t.tbl
 refine ⟨dks,k _ _ (z9 a ht (by intro z; cases z)) a,fun g x hx=>?_⟩
 obtain ⟨one,pp,pb,c1,c2,c3,c4⟩:=b g x hx
 exact ⟨one,pp,pb,c1,tu _ _ c2,tu _ _ c3,c4.keep tu⟩
section
variable {T pg hl d al ha:Addr} {as hs:List Addr} {ks:List (List (Str × Nat))} {ds:Dfl} {xss:List (List V)} {heads:List V} {H H':Hp}
theorem Lw.kt (h:Lw T pg hl d al ha as hs ks ds xss heads H) (k:KT T H H') (t:Tb T H'):Lw T pg hl d al ha as hs ks ds xss heads H' :=
 ⟨t,h.pg.keep (k.tups h.tb),k.lst h.tb h.hl,h.d.kt k h.tb,h.al.kt k h.tb,h.ha.kt k h.tb⟩
theorem Lw.same (h:Lw T pg hl d al ha as hs ks ds xss heads H) (s:Same H H'):Lw T pg hl d al ha as hs ks ds xss heads H':=h.kt (.of s) (h.tb.same s)
end
theorem Sta.neL {K:ua} {H:Hp} {st p:Addr} {B:Nat} {xs:List V} (S:Sta K H st B) (h:H p=some (.lst xs)) (hat:∀ x∈xs,At x):p≠st:=fun e=>by
 obtain ⟨b,ns,k,h1,_⟩:=S
 rw [e,h1] at h
 cases h
 exact hat _ (uo ..)
section
variable {P:Program} {w:World} {K:ua} {mg:Str->Option Value} {base:Heap} {f T:Addr} {fd:FuncData}
theorem scLaw37:FnScope ["_law_script","_law_state","_law_world","_law_heads","_law_some_here","_law_kinds","_law_defs","_law_one","_law_args","_law_steps","_law_other","_law_program","_law_handed","_law_many"] ["_law_script"] (zp sLaw):=⟨rfl,rfl,rfl,by decide +kernel,rfl,by decide +kernel,by decide +kernel⟩
theorem qG:(["_law_script","_law_state","_law_world","_law_heads","_law_some_here","_law_kinds","_law_defs","_law_one","_law_args","_law_steps","_law_other","_law_program","_law_handed","_law_many","_law_k"]:List Str).Nodup:=by decide +kernel
theorem V1:(["_law_script","_law_state","_law_world","_law_heads","_law_some_here","_law_kinds","_law_defs","_law_one","_law_args","_law_steps","_law_other","_law_program","_law_handed","_law_many","_law_parts"]:List Str).Nodup:=by decide +kernel
theorem V2 (F:Fun K "law" "law" sLaw f fd) (GD:Ca P w K mg base CX0 1 "_law_draw" ["_law_state","_law_many"] (xa K)) (GM:Ca P w K mg base CX0 1 "_law_name" ["_law_world","_law_k"] spNm) (GS:Ca P w K mg base CX0 2 "_law_stem" ["_law_state"] (Xb K)) (GH:Ca P w K mg base CX0 3 "_law_helpers" ["_law_state","_law_world","_law_heads"] (vM K)) (GN:Ca P w K mg base CX0 5 "_law_main" ["_law_state","_law_defs","_law_world","_law_head"] (VU K)) (GE:Ca P w K mg base CX0 43 "_law_due" ["_law_defs","_law_name_here","_law_args","_law_steps"] (VP 13)) (GA:Ca P w K mg base CX0 1 "_law_same" ["_law_got","_law_due_here"] Y3) (GR:Ca P w K mg base CX0 7 "run" ["program","name","args","steps"] (VH T)) (m_tuple:mg "tuple"=none) (m_list:mg "list"=none) (m_range:mg "range"=none):FnOk P w K mg base CX0 44 f fd ["_law_script"] (spTopT K T):=by
 refine F.by scLaw37 (fun vs H Q E h=>?_) (fun cdv A outer s H vs Q E hr h=>?_)
 ·obtain ⟨a,ns,rfl,_⟩:=h
  rfl
 obtain ⟨a,ns,rfl,hS,h63,hT,q⟩:=h
 have r1:Room 1 _:=hr.mono (by decide)
 have r2:Room 2 _:=hr.mono (by decide)
 have r3:Room 3 _:=hr.mono (by decide)
 have r5:Room 5 _:=hr.mono (by decide)
 have r7:Room 7 _:=hr.mono (by decide)
 refine ⟨_,
  (zi (zv (i:=1) scLaw37.nd rfl (Or.inl rfl) (zZ (ja_c (jv 0) (ja_c zh zg))))
  (zi (zv (i:=2) scLaw37.nd rfl (Or.inr rfl) (zy GS r2 rfl zC (ja_c (jv 1) zg)))
  (zi (zv (i:=3) scLaw37.nd rfl (Or.inl rfl) (zZ (ja_c (zy GM r1 rfl zC (ja_c (jv 2) (ja_c (zy GD r1 rfl zC (ja_c (jv 1) (ja_c zh zg))) zg))) (ja_c (zy GM r1 rfl zC (ja_c (jv 2) (ja_c zh zg))) (ja_c (zy GM r1 rfl zC (ja_c (jv 2) (ja_c zh zg))) (ja_c (zy GM r1 rfl zC (ja_c (jv 2) (ja_c zh zg))) zg))))))
  (zi (zv (i:=4) scLaw37.nd rfl (Or.inl rfl) (zy GH r3 rfl zC (ja_c (jv 1) (ja_c (jv 2) (ja_c (jv 3) zg)))))
  (zi (zU (xl uV PySem.F.slot_list_insert PySem.F.type_list_insert Xu (jv 4) (ja_c (zy GD r1 rfl zC (ja_c (jv 1) (ja_c zh zg))) (ja_c (zy GN r5 rfl zC (ja_c (jv 1) (ja_c (jv 4) (ja_c (jv 2) (ja_c (zq zE (jv 3) zh (fun _ _=>rfl)) zg))))) zg))))
  (zi (zv (i:=5) scLaw37.nd rfl (Or.inl rfl) (zB (ja_c (yh zR rfl m_tuple uW (ja_c (yA ["_law_k"] rfl (yn rfl m_range (ja_c zh zg)) (fun _ _ _ _ _=>(zD (i:=14) qG rfl (Or.inl rfl))) (fun _ _ _ _ _=>ya) (fun _ _ _ _ _=>(zB (ja_c (zy GM r1 rfl zC (ja_c (jv 2) (ja_c (jv 14) zg))) (ja_c (jv 14) zg))))) zg)) zg)))
  (zi (zv (i:=6) scLaw37.nd rfl (Or.inl rfl) xU)
  (zi (yE PassesOwn.never rfl (yx (jv 4)) (zD (i:=7) scLaw37.nd rfl (Or.inl rfl))
   (zk (y8 hr (jv 6) (zq zr (jv 7) zh (fun _ _=>rfl)) (jv 7))))
  (zi (zv (i:=8) scLaw37.nd rfl (Or.inl rfl) (zZ (ja_c (zZ (ja_c (zF yS (zy GD r1 rfl zC (ja_c (jv 1) (ja_c (zF yS (zF vW zh (zF x8 zh zh)) zh) zg))) (zF yS (zF x8 zh zh) zh)) zg)) (ja_c (zZ (ja_c (zy GM r1 rfl zC (ja_c (jv 2) (ja_c zh zg))) (ja_c (zy GD r1 rfl zC (ja_c (jv 1) (ja_c zh zg))) zg))) zg))))
  (zi (zH (zt zL (zy GD r1 rfl zC (ja_c (jv 1) (ja_c zh zg))) zh (zw _))
   (zk (x6 (zZ (ja_c (zy GD r1 rfl zC (ja_c (jv 1) (ja_c zh zg))) zg)) (jl (jv 8) zh)))  zA)
  (zi (zv (i:=9) scLaw37.nd rfl (Or.inl rfl) (zy GD r1 rfl zC (ja_c (jv 1) (ja_c zh zg))))
  (zi (zv (i:=10) scLaw37.nd rfl (Or.inl rfl) (zy GD r1 rfl zC (ja_c (jv 1) (ja_c zh zg))))
  (zi (zv (i:=11) scLaw37.nd rfl (Or.inl rfl) (zB (ja_c (jv 5) (ja_c (yh zR rfl m_tuple uW (ja_c (jv 4) zg)) zg))))
  (zi (y7 ["_law_parts"] (i:=12) scLaw37.nd rfl (Or.inl rfl) rfl (yx (jv 8)) (fun _ _ _ _ _=>(zD (i:=14) V1 rfl (Or.inl rfl))) (fun _ _ _ _ _=>ya) (fun _ _ _ _ _=>(yh (j5 K) rfl m_list UX (ja_c (jv 14) zg))))
  (zi (yE PassesOwn.never rfl (yx (zZ (ja_c (jv 9) (ja_c (jv 10) (ja_c (jv 9) zg))))) (zD (i:=13) scLaw37.nd rfl (Or.inl rfl))
   (zk (zH (y6 (ye (zy GA r1 rfl zC (ja_c (zy GR r7 rfl zC (ja_c (jv 11) (ja_c (zq zE (jv 3) zh (fun _ _=>rfl)) (ja_c (jv 12) (ja_c (jv 13) zg))))) (ja_c (zy GE hr rfl zC (ja_c (jv 6) (ja_c (zq zE (jv 3) zh (fun _ _=>rfl)) (ja_c (jv 8) (ja_c (jv 13) zg))))) zg)))))
    (zk (zx xf))  zA)))
  (zk (zx (yH (Ve (n:=4) (by decide) hr) (jv 12) (jv 8) (zw _))))))))))))))))))),?_⟩
 refine cut4 fun r1_ hr1=>?_
 have sl:=zQ
 have LM:LIM=4611686018427387904:=rfl
 refine ⟨_,rfl,by show 2<=sizeLine; decide,fun st h1=>?_⟩
 have S1:Sta K (upd H st (.lst [.ref a,.int ((0:Nat):Int)])) st 0:=by
  refine ⟨a,ns,0,zf,fun e=>?_,(same_new h1 _).seq hS,ui _⟩
  rcases hS with (h | ⟨o,h⟩) | h
  ·exact absurd e (zo h h1)
  ·exact absurd e (zo h h1)
  ·exact fun _=>.inr h
 have hT1:=old (o:=.lst [.ref a,.int ((0:Nat):Int)]) h1 hT
 dsimp only [Ub,L2.start]
 generalize upd H st (.lst [.ref a,.int 0])=H1 at *
 have nTs:T≠st:=fun e=>by
  obtain ⟨b,ns',k',e1,_⟩:=S1
  rw [e,e1] at hT1
  cases hT1
 refine ⟨_,rfl,st,0,rfl,S1,by lia,fun H2 wp z b k2 S2 hw hz zb=>?_⟩
 have nws:=S2.neW hw
 have hT2:=k2.k _ _ nTs hT1
 dsimp only [Ub]
 refine ⟨_,rfl,_,rfl,st,5,_,rfl,S2,by lia,by decide,fun H3 jn k3 S3 jn0 jn5=>?_⟩
 obtain ⟨j0,rfl⟩:∃ n:Nat,jn=(n:Int):=⟨jn.toNat,by lia⟩
 have hw3:=k3.k _ _ nws hw
 refine ⟨wp,z,b,[],j0,rfl,hw3,hz,_,rfl,wp,z,b,[],5,rfl,hw3,hz,_,rfl,wp,z,b,[],6,rfl,hw3,hz,_,rfl,wp,z,b,[],7,rfl,hw3,hz,by show 4<=sizeLine; decide,fun hl hhl=>?_⟩
 have n4:=same_new hhl (.lst [.str (nm z b j0),.str (nm z b 5),.str (nm z b 6),.str (nm z b 7)])
 have hhl4:=zf (H:=H3) (a:=hl) (o:=.lst [.str (nm z b j0),.str (nm z b 5),.str (nm z b 6),.str (nm z b 7)])
 have nhs:hl≠st:=S3.ne hhl
 have S4:=S3.same n4
 have hw4:=n4 _ _ hw3
 have hT4:=n4 _ _ (k3.k _ _ nTs hT2)
 dsimp only [Ub]
 generalize upd H3 hl (.lst [.str (nm z b j0),.str (nm z b 5),.str (nm z b 6),.str (nm z b 7)])=H4 at *
 clear k2 k3 n4 S1 S2 S3 hw hw3 hT1 hT2
 refine ⟨_,rfl,_,rfl,_,rfl,st,wp,hl,_,z,b,nm z b j0,nm z b 5,nm z b 6,nm z b 7,rfl,S4,by lia,hw4,hz,hhl4,fun H5 sh o0 o1 o2 many size few xs ys k5 S5 fsh hsh hds hH=>?_⟩
 have nss:sh≠st:=S4.ne fsh
 subst hr1
 dsimp only [Ub]
 refine cut4 fun r2_ hr2=>?_
 refine ⟨_,rfl,.inl ⟨rfl,_,SqL.of hsh⟩,_,rfl,st,4,_,rfl,S5,by lia,by decide,fun H6 ji k6 S6 ji0 ji4=>?_⟩
 obtain ⟨ip,rfl⟩:∃ n:Nat,ji=(n:Int):=⟨ji.toNat,by lia⟩
 have k46:=k5.trans k6
 have hh4:∀ x∈hlp z b (nm z b j0) (nm z b 5) (nm z b 6) many size few xs ys,x.2.1.length<=4:=fun x hx=>by
  have:=hH.m
  have:=hH.f
  rw [hlp] at hx
  simp only [uq,UC,or_false] at hx
  rcases hx with rfl | rfl | rfl
  ·show (nm2 z b many).length<=4; rw [yj]; lia
  ·show (nm2 z b few).length<=4; rw [yj]; lia
  ·show (nm2 z b 1).length<=4; rw [yj]; decide
 refine ⟨_,rfl,_,rfl,_,rfl,_,rfl,ixL (k46.k _ _ nhs hhl4) (zj (j:=3) rfl) ⟨st,sh,wp,_,[o0,o1,o2],_,z,b,nm z b 7,rfl,S6,by lia,k6.k _ _ nss hsh,hds.keep (k6.tups S5),rfl,hh4,k46.k _ _ nws hw4,hz,fun H7 mp pp pb rows en k7 S7 hmp hpp hpb hgr hnn hrl hge=>?_⟩⟩
 have k47:=k46.trans k7
 have hsh7:=(k6.trans k7).k _ _ nss hsh
 refine ⟨sh,_,ip,_,_,rfl,rfl,rfl,hsh7,by show 3 < sizeLine; decide,by show ip<=3; lia,?_⟩
 obtain ⟨P37,PG,D⟩:=pr37 (ip:=ip) zb hz (by lia) hH hgr hnn hrl hge
 have fs47:=fsh
 have eo:([V.ref o0,V.ref o1,V.ref o2].take ip ++ V.ref mp :: [V.ref o0,V.ref o1,V.ref o2].drop ip)=(([o0,o1,o2]:List Addr).take ip ++ mp :: ([o0,o1,o2]:List Addr).drop ip).map V.ref:=by
  rw [uF,uP,List.map_take,List.map_drop]
  rfl
 rw [eo]
 have tu8:∀ os:List Addr,Tups H7 (upd H7 sh (.lst (os.map V.ref))):=fun os p xs e=>by rw [zm (z9 e hsh7 (by intro z; cases z))]; exact e
 have hds8:IsDs (upd H7 sh (.lst ((([o0,o1,o2]:List Addr).take ip ++ mp :: ([o0,o1,o2]:List Addr).drop ip).map V.ref))) (([o0,o1,o2]:List Addr).take ip ++ mp :: ([o0,o1,o2]:List Addr).drop ip) (insD ip (nm z b 7,nm2 z b 2,lets rows en) (hlp z b (nm z b j0) (nm z b 5) (nm z b 6) many size few xs ys)):=by
  have h7:=(hds.keep ((k6.trans k7).tups S5)).keep (tu8 (([o0,o1,o2]:List Addr).take ip ++ mp :: ([o0,o1,o2]:List Addr).drop ip))
  exact (h7.take ip).app (IsDs.cons (tu8 _ _ _ hmp) (tu8 _ _ _ hpp) (hpb.keep (tu8 _)) (h7.drop ip))
 have l8:(([o0,o1,o2]:List Addr).take ip ++ mp :: ([o0,o1,o2]:List Addr).drop ip).length=4:=by
  rw [hds8.1,(wd _ _ _).length_eq]
  rfl
 have hdm:dfOf (insD ip (nm z b 7,nm2 z b 2,lets rows en) (hlp z b (nm z b j0) (nm z b 5) (nm z b 6) many size few xs ys)) (nm z b 7)=some (nm z b 7,nm2 z b 2,lets rows en):=xq (a:=(nm z b 7,nm2 z b 2,lets rows en)) D.n (insD_mem.mpr (.inl rfl))
 have hme:((nm z b 7,nm2 z b 2,lets rows en):Df)∈insD ip (nm z b 7,nm2 z b 2,lets rows en) (hlp z b (nm z b j0) (nm z b 5) (nm z b 6) many size few xs ys):=insD_mem.mpr (.inl rfl)
 generalize insD ip (nm z b 7,nm2 z b 2,lets rows en) (hlp z b (nm z b j0) (nm z b 5) (nm z b 6) many size few xs ys)=ds at *
 generalize rw37 z b j0 size xs ys rows en=rw_ at *
 generalize ([o0,o1,o2]:List Addr).take ip ++ mp :: ([o0,o1,o2]:List Addr).drop ip=ones at *
 have nsw:wp≠sh:=zo hw4 fsh
 have nsl:hl≠sh:=zo hhl4 fsh
 have nsT:T≠sh:=zo hT4 fsh
 have S8:Sta K (upd H7 sh (.lst (ones.map V.ref))) st _:=Sta.put S4 fsh k47 S7
 have hw8:upd H7 sh (.lst (ones.map V.ref)) wp=_:=(zm nsw).trans (k47.k _ _ nws hw4)
 have hhl8:upd H7 sh (.lst (ones.map V.ref)) hl=_:=(zm nsl).trans (k47.k _ _ nhs hhl4)
 have hT8:upd H7 sh (.lst (ones.map V.ref)) T=_:=(zm nsT).trans (k47.k _ _ nTs hT4)
 have hsh8:upd H7 sh (.lst (ones.map V.ref)) sh=some (.lst (ones.map V.ref)):=zf
 generalize upd H7 sh (.lst (ones.map V.ref))=H8 at *
 clear eo tu8 hsh7 k47 k46 k5 k6 k7 hds hsh hmp hpp hpb S7 S6 S5 S4 hw4 hhl4 hT4 fs47 fsh hh4
 refine ⟨_,rfl,by show -(2 ^ 62)<=(5:Int); decide,by show (5:Int) < 2 ^ 62; decide,yz (fun j τ ys H'=>Same H8 H'/\(∃ x,τ=[some (.ref a),some (.ref st),some (.ref wp),some (.ref hl),some (.ref sh),none,none,none,none,none,none,none,none,none,x])/\∃ ts:List Addr,ys=ts.map V.ref/\ts.length=j/\∀ (i:Nat) t,ts[i]?=some t->H' t=some (.tup [.str (nm z b i),.int (i:Nat)])) ⟨Same.refl _,⟨none,rfl⟩,[],rfl,rfl,fun i t h=>by simp at h⟩ ?_ ?_⟩
 ·rintro j τ ys H9 hj ⟨s9,⟨x,rfl⟩,ts,rfl,lt,hts⟩
  refine ⟨_,rfl,_,rfl,wp,z,b,[],j,(by rw [Int.zero_add]; rfl),s9 _ _ hw8,hz,_,rfl,by show 2<=sizeLine; decide,fun t ht=>?_⟩
  refine ⟨by rw [ub,lt]; have:j < 5:=hj; lia,s9.new ht,⟨_,rfl⟩,ts ++ [t],by rw [uF]; rfl,by rw [uf,lt]; rfl,fun i t' h1=>?_⟩
  by_cases c:i < ts.length
  ·rw [uv c] at h1
   exact old ht (hts i t' h1)
  ·rw [uL (by lia)] at h1
   have:i=ts.length:=by
    have:=(ud.mp h1).1
    simp at this
    lia
   subst this
   rw [UP] at h1
   cases h1
   rw [lt,zf,Int.zero_add]
 rintro τ ys H9 ⟨s9,_,ts,rfl,lt,hts⟩ l1 hl1
 rw [show (5:Int).toNat=5 from rfl] at lt
 refine ⟨l1,_,rfl,.inl ⟨SqL.of zf,fun p1 hp1=>⟨by show 1<=sizeLine; decide,fun pk hpk=>?_⟩⟩⟩
 have n10:=((same_new hl1 (.lst (ts.map V.ref))).new (o:=.tup (ts.map V.ref)) hp1).new (o:=.tup [.ref p1]) hpk
 have s10:=s9.trans n10
 have hK10:Kn (upd (upd (upd H9 l1 (.lst (ts.map V.ref))) p1 (.tup (ts.map V.ref))) pk (.tup [.ref p1])) pk (ks37 z b):=by
  refine ⟨[p1],zf,rfl,fun j q' l h1 h2=>?_⟩
  cases j with
  | succ j=>simp at h1
  | zero =>
   cases h1
   cases h2
   refine ⟨ts,old hpk zf,by rw [lt,ub,UQ],fun j t x g1 g2=>?_⟩
   rw [uj] at g2
   obtain ⟨k,hk,rfl⟩:=uk.mp g2
   have hk':=(ud.mp hk)
   obtain ⟨h5,ek⟩:=hk'
   rw [List.getElem_range] at ek
   subst ek
   exact n10 _ _ (hts j t g1)
 have S10:=S8.same s10
 have hw10:=s10 _ _ hw8
 have hhl10:=s10 _ _ hhl8
 have hT10:=s10 _ _ hT8
 have hsh10:=s10 _ _ hsh8
 have hds10:=hds8.keep (.of s10)
 dsimp only [Ub]
 generalize upd (upd (upd H9 l1 (.lst (ts.map V.ref))) p1 (.tup (ts.map V.ref))) pk (.tup [.ref p1])=H10 at *
 clear n10 s10 s9 hw8 hhl8 hT8 hsh8 hds8 S8 hts lt hl1 hp1 hpk
 intro d hd
 have s11:=same_new hd (.dK [])
 dsimp only [Ub]
 refine ⟨_,rfl,sh,rfl,⟨_,SqL.of (s11 _ _ hsh10)⟩,wE (xs:=ones.map V.ref) (fun i σ H'=>Same H10 H'/\(∃ kvs,H' d=some (.dK kvs)/\kvs.length<=i/\∀ (j:Nat) o x,j < i->ones[j]?=some o->ds[j]?=some x->valV kvs (.inr x.1)=some (.ref o))/\∃ x,σ=[some (.ref a),some (.ref st),some (.ref wp),some (.ref hl),some (.ref sh),some (.ref pk),some (.ref d),x,none,none,none,none,none,none]) ⟨s11,⟨[],zf,u6 _,fun j o n h=>absurd h (by lia)⟩,none,rfl⟩ (fun i σ H' _ h=>SqL.of (h.1 _ _ hsh10)) ?_ ?_⟩
 ·rintro i v σ H12 hv ⟨s12,⟨kvs,hd2,lk,a1⟩,x,rfl⟩
  rw [uj] at hv
  obtain ⟨o,ho,rfl⟩:=uk.mp hv
  have hi:=(ud.mp ho).1
  have hx:ds[i]?=some (ds[i]'(by have:=hds10.1; lia)):=ug _
  generalize ds[i]'(by have:=hds10.1; lia)=x1 at hx
  obtain ⟨pp,pb,e1,_⟩:=hds10.2 i o x1 ho hx
  refine ⟨_,rfl,_,rfl,_,rfl,ixT (s12 _ _ e1) (zj (j:=0) rfl) ⟨d,_,rfl,DPut.k (k:=.inr x1.1) hd2 (by lia),s12.put hd,⟨_,zf,?_,fun j o' x' hj h1 h2=>?_⟩,_,rfl⟩⟩
  ·unfold putK
   split
   ·rw [ub]; lia
   ·rw [uf]; show _ + 1<=_; lia
  ·rw [yV]
   by_cases c:j=i
   ·subst c
    rw [hx] at h2
    rw [ho] at h1
    cases h1; cases h2
    rw [if_pos rfl]
   ·have g2:(ds.map (·.1))[j]?=some x'.1:=by rw [uj,h2]; rfl
    have gx:(ds.map (·.1))[i]?=some x1.1:=by rw [uj,hx]; rfl
    rw [if_neg (fun e=>c (xg D.n g2 (by rw [gx,Sum.inr.inj e])))]
    exact a1 j o' x' (by lia) h1 h2
 rintro σ H12 ⟨s12,⟨kvs,hd12,lk,a1⟩,x7,rfl⟩
 rw [ub] at a1
 have hDf12:DfL H12 d ds:=(hds10.keep (.of s12)).dfl D.n hd12 fun i o x h1 h2=>a1 i o x (ud.mp h1).1 h1 h2
 have S12:=S10.same s12
 have hw12:=s12 _ _ hw10
 have hhl12:=s12 _ _ hhl10
 have hT12:=s12 _ _ hT10
 have hsh12:=s12 _ _ hsh10
 have hds12:=hds10.keep (.of s12)
 have hK12:=hK10.keep (.of s12)
 have nds:d≠st:=S10.ne hd
 clear a1 lk hd12 s11 s12 S10 hw10 hhl10 hT10 hsh10 hds10 hK10 hd
 dsimp only
 subst hr2
 refine (show ∀ (u:TS) (D':Ends),(∀ (H':Hp) (al l1 l2:Addr) (xss:List (List V)),Kp st H12 H'->Sta K H' st 600->H' al=some (.lst [.ref l1,.ref l2])->(∀ (i:Nat) l xs,[l1,l2][i]?=some l->xss[i]?=some xs->H' l=some (.lst xs))->Arg2 z b xss->u D' [some (.ref a),some (.ref st),some (.ref wp),some (.ref hl),some (.ref sh),some (.ref pk),some (.ref d),x7,some (.ref al),none,none,none,none,none] H')->(tSeq _ (tSeq _ u):TS) D' [some (.ref a),some (.ref st),some (.ref wp),some (.ref hl),some (.ref sh),some (.ref pk),some (.ref d),x7,none,none,none,none,none,none] H12 from ?kk) _ _ ?rr
 case kk =>
  intro u D' hU
  refine ⟨_,rfl,_,_,rfl,rfl,⟨by decide,by decide,by decide⟩,_,_,rfl,rfl,.inl ⟨by decide,by decide⟩,_,_,rfl,rfl,st,_,_,rfl,S12,by lia,by decide,fun H13 i k13 S13 i0 i1=>?_⟩
  refine ⟨_,_,rfl,rfl,⟨by decide,by decide,by decide⟩,_,_,rfl,rfl,_,_,rfl,rfl,by show 1<=sizeLine; decide,fun l1 h1=>?_⟩
  have n14:=same_new h1 (.lst [.int (i - (10 ^ (30:Int).toNat - 1))])
  have si:Sm (i - (10 ^ (30:Int).toNat - 1)):=by rw [t30] at i1 ⊢; unfold Sm; lia
  have e1:=zf (H:=H13) (a:=l1) (o:=.lst [.int (i - (10 ^ (30:Int).toNat - 1))])
  have n1s:l1≠st:=S13.ne h1
  have S14:=S13.same n14
  have k14:=k13.trans (.of n14)
  have hw14:=k14.k _ _ nws hw12
  generalize upd H13 l1 (.lst [.int (i - (10 ^ (30:Int).toNat - 1))])=H14 at *
  generalize i - (10 ^ (30:Int).toNat - 1)=i' at *
  refine ⟨_,rfl,wp,z,b,[],1,rfl,hw14,hz,_,rfl,st,9,_,rfl,S14,by lia,by decide,fun H15 r k15 S15 q0 q9=>⟨by show 2<=sizeLine; decide,fun l2 h2=>⟨by show 2<=sizeLine; decide,fun al hal=>?_⟩⟩⟩
  have n16:=(same_new h2 (.lst [.str (nm z b 1),.int r])).new (o:=.lst [.ref l1,.ref l2]) hal
  have n2s:l2≠st:=S15.ne h2
  have nas:al≠st:=(S15.new h2 (.lst [.str (nm z b 1),.int r])).ne hal
  have hal0:H12 al=none:=(k14.trans k15).free nas ((same_new h2 (.lst [.str (nm z b 1),.int r])).free hal)
  have e2:upd (upd H15 l2 (.lst [.str (nm z b 1),.int r])) al (.lst [.ref l1,.ref l2]) l2=some (.lst [.str (nm z b 1),.int r]):=old hal zf
  have e1':=n16 _ _ (k15.k _ _ n1s e1)
  have eal:=zf (H:=upd H15 l2 (.lst [.str (nm z b 1),.int r])) (a:=al) (o:=.lst [.ref l1,.ref l2])
  have S16:=S15.same n16
  have k16:=(k14.trans k15).trans (.of n16)
  have sr:Sm r:=by unfold Sm; lia
  dsimp only [Ub]
  generalize upd (upd H15 l2 (.lst [.str (nm z b 1),.int r])) al (.lst [.ref l1,.ref l2])=H16 at *
  refine ⟨_,rfl,st,2,_,rfl,S16,by lia,by decide,fun H17 r2 k17 S17 _ _=>⟨rfl,_,rfl,ite2 (fun c=>?_) (fun c=>nxt ?_)⟩⟩
  ·refine ⟨_,rfl,st,9,_,rfl,S17,by lia,by decide,fun H18 r3 k18 S18 q30 q39=>⟨by show 1<=sizeLine; decide,fun l3 h3=>?_⟩⟩
   have k1618:=k17.trans k18
   have n19:=same_new h3 (.lst [.int r3])
   have hal19:=n19 _ _ (k1618.k _ _ nas eal)
   refine ⟨_,rfl,al,_,1,1,rfl,rfl,hal19,rfl,?_⟩
   have na1:l1≠al:=fun e=>by
    rw [e,eal] at e1'
    cases e1'
   have n3a:l3≠al:=fun e=>by
    rw [e] at h3
    rw [k1618.k _ _ nas eal] at h3
    cases h3
   have sr3:Sm r3:=by unfold Sm; lia
   refine hU _ al l1 l3 [[.int i'],[.int r3]] (((k16.trans k1618).trans (.of n19)).put hal0) ((Sta.put S12 hal0 ((k16.trans k1618).trans (.of n19)) (S18.same n19)).mono (by lia)) zf (fun j l xs g1 g2=>?_) ⟨i',r3,si,sr3,.inl rfl⟩
   match j,g1,g2 with
   | 0,g1,g2 =>
    cases g1; cases g2
    exact (zm na1).trans (n19 _ _ (k1618.k _ _ n1s e1'))
   | 1,g1,g2 =>
    cases g1; cases g2
    exact (zm n3a).trans zf
   | j + 2,g1,_=>simp at g1
  ·refine hU _ al l1 l2 [[.int i'],[.str (nm z b 1),.int r]] (k16.trans k17) (S17.mono (by lia)) (k17.k _ _ nas eal) (fun j l xs g1 g2=>?_) ⟨i',r,si,sr,.inr rfl⟩
   match j,g1,g2 with
   | 0,g1,g2 =>
    cases g1; cases g2
    exact k17.k _ _ n1s e1'
   | 1,g1,g2 =>
    cases g1; cases g2
    exact k17.k _ _ n2s e2
   | j + 2,g1,_=>simp at g1
 case rr =>
  intro H13 al l1 l2 xss k13 S13 hal hll hx2
  have lx:=hx2.len
  have hT13:=k13.k _ _ nTs hT12
  have hhl13:=k13.k _ _ nhs hhl12
  have hsh13:=k13.k _ _ nss hsh12
  have tu13:=k13.tups S12
  have hds13:=hds12.keep tu13
  have hK13:=hK12.keep tu13
  have hDf13:DfL H13 d ds:=by
   obtain ⟨dks,a,b⟩:=hDf12
   refine ⟨dks,k13.k _ _ nds a,fun g x hx=>?_⟩
   obtain ⟨one,pp,pb,c1,c2,c3,c4⟩:=b g x hx
   exact ⟨one,pp,pb,c1,tu13 _ _ c2,tu13 _ _ c3,c4.keep tu13⟩
  have nas:al≠st:=S13.neR (ts:=[l1,l2]) hal
  have hok:=hx2.ok D
  have nll:∀ (i:Nat) l xs,[l1,l2][i]?=some l->xss[i]?=some xs->l≠st:=fun i l xs h1 h2=>S13.neL (hll i l xs h1 h2) (hok xs (uu h2)).1.a
  clear hT12 hhl12 hsh12 hds12 hK12 hDf12 k13 tu13
  refine cut4 fun r3_ hr3=>?_
  refine ⟨_,rfl,st,14,_,rfl,S13,by lia,by decide,fun H14 sp k14 S14 sp0 sp1=>?_⟩
  dsimp only [Ub]
  refine ⟨_,rfl,st,14,_,rfl,S14,by lia,by decide,fun H15 ot k15 S15 ot0 ot1=>?_⟩
  dsimp only [Ub]
  have k1315:=k14.trans k15
  have hT15:=k1315.k _ _ nTs hT13
  have hhl15:=k1315.k _ _ nhs hhl13
  have hsh15:=k1315.k _ _ nss hsh13
  have tu15:=k1315.tups S13
  have hds15:=hds13.keep tu15
  have hK15:=hK13.keep tu15
  have hDf15:DfL H15 d ds:=by
   obtain ⟨dks,a,b⟩:=hDf13
   refine ⟨dks,k1315.k _ _ nds a,fun g x hx=>?_⟩
   obtain ⟨one,pp,pb,c1,c2,c3,c4⟩:=b g x hx
   exact ⟨one,pp,pb,c1,tu15 _ _ c2,tu15 _ _ c3,c4.keep tu15⟩
  have hA15:Args H15 (ks37 z b) al [l1,l2] xss:=⟨k1315.k _ _ nas hal,by rw [lx]; rfl,fun j l xs h1 h2=>⟨k1315.k _ _ (nll j l xs h1 h2) (hll j l xs h1 h2),(hok xs (uu h2)).2⟩⟩
  clear hT13 hhl13 hsh13 hds13 hK13 hDf13 k14 k15 k1315 tu15 S13 S14 hal hll
  refine ⟨_,rfl,_,rfl,sh,_,rfl,.inl ⟨SqL.of hsh15,fun pd hpd=>⟨by show 2<=sizeLine; decide,fun pg hpg=>?_⟩⟩⟩
  have n16:=(same_new hpd (.tup (ones.map V.ref))).new (o:=.tup [.ref pk,.ref pd]) hpg
  have hP16:IsPG (upd (upd H15 pd (.tup (ones.map V.ref))) pg (.tup [.ref pk,.ref pd])) (ks37 z b) ds pg:=⟨pk,pd,ones,zf,hK15.keep (.of n16),old hpg zf,hds15.keep (.of n16)⟩
  have hT16:=n16 _ _ hT15
  have hhl16:=n16 _ _ hhl15
  have hDf16:=hDf15.same n16
  have hA16:=hA15.same n16
  dsimp only [Ub]
  generalize upd (upd H15 pd (.tup (ones.map V.ref))) pg (.tup [.ref pk,.ref pd])=H16 at *
  clear n16 hT15 hhl15 hDf15 hA15 hds15 hK15 hsh15 S15
  refine ⟨_,rfl,al,rfl,⟨_,SqL.of hA16.1⟩,yG (K:=K) (xs:=[l1,l2].map V.ref) (fun j τ ys H'=>Same H16 H'/\(∃ y,τ=[some (.ref a),some (.ref st),some (.ref wp),some (.ref hl),some (.ref sh),some (.ref pk),some (.ref d),x7,some (.ref al),some (.int sp),some (.int ot),some (.ref pg),none,none,y])/\∃ bs:List Addr,ys=bs.map V.ref/\bs.length=j/\∀ (i:Nat) l xs,bs[i]?=some l->xss[i]?=some xs->H' l=some (.lst xs)) ⟨Same.refl _,⟨none,rfl⟩,[],rfl,rfl,fun i l xs h=>by simp at h⟩ (fun i τ ys H' _ h=>SqL.of (h.1 _ _ hA16.1)) ?_ ?_⟩
  ·rintro j v τ ys H18 hv ⟨s18,⟨y,rfl⟩,bs,rfl,lb,hbs⟩
   rw [uj] at hv
   obtain ⟨l,hl',rfl⟩:=uk.mp hv
   have hj:j < 2:=(ud.mp hl').1
   have hx:xss[j]?=some (xss[j]'(by lia)):=ug _
   generalize xss[j]'(by lia)=xs at hx
   have g1:=(hA16.2.2 j l xs hl' hx).1
   refine ⟨_,rfl,l,_,rfl,.inl (SqL.of (s18 _ _ g1)),fun l' hl'=>⟨by rw [ub]; lia,s18.new hl',⟨_,rfl⟩,bs ++ [l'],by rw [uF]; rfl,by rw [uf,lb]; rfl,fun m b0 xs0 h1 h2=>?_⟩⟩
   by_cases c:m < bs.length
   ·rw [uv c] at h1
    exact old hl' (hbs m b0 xs0 h1 h2)
   ·rw [uL (by lia)] at h1
    have:m=bs.length:=by
     have:=(ud.mp h1).1
     simp at this
     lia
    subst this
    rw [UP] at h1
    cases h1
    rw [lb,hx] at h2
    cases h2
    exact zf
  rintro τ ys H18 ⟨s18,_,bs,rfl,lb,hbs⟩ ha hha
  have lb:bs.length=2:=lb
  have n19:=same_new hha (.lst (bs.map V.ref))
  have s19:Same H16 (upd H18 ha (.lst (bs.map V.ref))):=s18.trans n19
  have L19:Lw T pg hl d al ha [l1,l2] bs (ks37 z b) ds xss [V.str (nm z b j0),.str (nm z b 5),.str (nm z b 6),.str (nm z b 7)] (upd H18 ha (.lst (bs.map V.ref))):=⟨⟨#[],s19 _ _ hT16,.inl rfl⟩,hP16.keep (.of s19),s19 _ _ hhl16,hDf16.same s19,hA16.same s19,⟨zf,by rw [lb,lx],fun m b0 xs0 h1 h2=>⟨n19 _ _ (hbs m b0 xs0 h1 h2),(hok xs0 (uu h2)).2⟩⟩⟩
  dsimp only [Ub]
  generalize upd H18 ha (.lst (bs.map V.ref))=H19 at *
  clear hbs hP16 hT16 hhl16 hDf16 hA16 s18 s19 n19 hha
  subst hr3
  have RO:RwOk ds rw_:=fun x hx=>⟨(P37.rb x hx).1,(P37.rb x hx).2.e⟩
  have hrun:∀ st:Int,0<=st->st < 14->∃ M,mrun (kv37 z b ds) ds st M (lets rows en) ((nm2 z b 2).zip xss) [] 0=some (evD (kv37 z b ds) ds st rw_ 14 (nm z b 7,nm2 z b 2,lets rows en) xss 0).oc:=fun st h0 h1=>(VM RO 13 _ hme xss 0 h0 (by lia)).run
  refine ⟨_,rfl,_,rfl,_,rfl,by show 3<=sizeLine; decide,fun lp hlp=>?_⟩
  have n20:=same_new hlp (.lst [.int sp,.int ot,.int sp])
  have L20:=L19.same n20
  have elp:=zf (H:=H19) (a:=lp) (o:=.lst [.int sp,.int ot,.int sp])
  generalize upd H19 lp (.lst [.int sp,.int ot,.int sp])=H20 at *
  clear L19 n20 hlp
  refine ⟨lp,rfl,⟨_,SqL.of elp⟩,wE (xs:=[.int sp,.int ot,.int sp]) (fun i σ H'=>(Lw T pg hl d al ha [l1,l2] bs (ks37 z b) ds xss [V.str (nm z b j0),.str (nm z b 5),.str (nm z b 6),.str (nm z b 7)] H'/\H' lp=some (.lst [.int sp,.int ot,.int sp]))/\∃ x,σ=[some (.ref a),some (.ref st),some (.ref wp),some (.ref hl),some (.ref sh),some (.ref pk),some (.ref d),x7,some (.ref al),some (.int sp),some (.int ot),some (.ref pg),some (.ref ha),x]) ⟨⟨L20,elp⟩,none,rfl⟩ (fun i σ H' _ h=>SqL.of h.1.2) ?_ ?_⟩
  ·rintro i v σ H21 hv ⟨⟨L21,lp21⟩,x,rfl⟩
   obtain ⟨mn,rfl,mn0,mn1⟩:∃ mn:Int,v=.int mn/\0<=mn/\mn < 14:=by
    match i,hv with
    | 0,hv=>cases hv; exact ⟨_,rfl,sp0,sp1⟩
    | 1,hv=>cases hv; exact ⟨_,rfl,ot0,ot1⟩
    | 2,hv=>cases hv; exact ⟨_,rfl,sp0,sp1⟩
    | i + 3,hv=>simp at hv
   obtain ⟨M,hM⟩:=hrun mn mn0 mn1
   refine ⟨_,rfl,_,rfl,ixL L21.hl (zj (j:=3) rfl) ⟨_,rfl,_,rfl,pg,ha,mn,nm z b 7,ks37 z b,ds,(nm z b 7,nm2 z b 2,lets rows en),bs,xss,M,_,kv37 z b ds,rfl,L21.pg,PG,hdm,L21.ha,by rw [lx]; exact yj z b 2,L21.tb,mn0,by lia,hM,fun H22 r k22 t22 an22=>?_⟩⟩
   have L22:=L21.kt k22 t22
   have lp22:=k22.lst L21.tb lp21
   refine ⟨_,rfl,_,rfl,ixL L22.hl (zj (j:=3) rfl) ⟨_,rfl,_,rfl,d,al,mn,kv37 z b ds,ds,rw_,nm z b 7,(nm z b 7,nm2 z b 2,lets rows en),[l1,l2],xss,rfl,L22.d,P37,hdm,L22.al.1,L22.al.2.1,fun i l xs h1 h2=>⟨(L22.al.2.2 i l xs h1 h2).1,(hok xs (uu h2)).1⟩,by rw [lx]; exact yj z b 2,by lia,mn0,by show mn<=13; lia,fun H23 du s23 an23 at23=>?_⟩⟩
   exact ⟨r,du,mn,_,rfl,an22.same s23,an23,at23,fun H24 s24=>⟨true,rfl,iteF (nxt ⟨⟨(L22.same s23).same s24,s24 _ _ (s23 _ _ lp22)⟩,_,rfl⟩)⟩⟩
  rintro σ H21 ⟨⟨L21,lp21⟩,x,rfl⟩
  refine ⟨_,rfl,_,rfl,ha,al,rfl,rfl,.inr ⟨_,_,_,_,rfl,rfl,.inl ⟨L21.ha.1,L21.al.1⟩,by rw [ub,ub,lb]; rfl,fun m v1 v2 h1 h2=>?_⟩,q _⟩
  rw [uj] at h1 h2
  obtain ⟨b',hb',rfl⟩:=uk.mp h1
  obtain ⟨l',hl',rfl⟩:=uk.mp h2
  have hi:m < 2:=(ud.mp hl').1
  have hx:xss[m]?=some (xss[m]'(by lia)):=ug _
  exact vK (n:=1) (.inl ⟨(L21.ha.2.2 m b' _ hb' hx).1,(L21.al.2.2 m l' _ hl' hx).1⟩) fun z hz=>((L21.al.2.2 m l' _ hl' hx).2.2.1 z hz).fl
end
end GN
namespace GN
open PySem L2 K11
structure TopK (K:ua) (cR cW C R V:Addr):Prop where
 c_Run:OwnIn K "Run" cR
 a_Run_defs:uy K (.ref cR) "defs"=some none
 a_Run_steps:uy K (.ref cR) "steps"=some none
 a_Run_done:uy K (.ref cR) "done"=some none
 a_Run_waiting:uy K (.ref cR) "waiting"=some none
 a_Run_body:uy K (.ref cR) "body"=some none
 a_Run_names:uy K (.ref cR) "names"=some none
 a_Run_end:uy K (.ref cR) "end"=some none
 c_Waiting:OwnIn K "Waiting" cW
 a_Waiting_wants:uy K (.ref cW) "wants"=some none
 a_Waiting_body:uy K (.ref cW) "body"=some none
 a_Waiting_names:uy K (.ref cW) "names"=some none
 d_parts_of:DdIn K "parts_of" yF 136 130
 dt:DtIn K 130 100
 hcT:U4 K 136 132=true
 n_NoValue:uY K mainGlobals "NoValue"=some (some (.ref V))
 v_in:xIn0 K V=true
 v_kp:uU K (.ref V)=true
 n_Fault:uY K mainGlobals "Fault"=some (some (.ref C))
 n_ReuseError:uY K mainGlobals "ReuseError"=some (some (.ref R))
 m_init:MeIn K C "__init__" "Fault.__init__" je
 x_word:UY K C "word"=some none
 x_find:uy K (.ref C) "word"=some none
 x_hd:Uv K C=true
 x_over:vX K C=true
 x_sa:uy K (.ref C) "__setattr__"=some (some (.builtin "object.__setattr__"))
 x_any:(PySem.W.clsIn K C).any (·.hasDict)=true
 x_ga:uy K (.ref C) "__getattribute__"=some (some (.builtin "BaseException.__getattribute__"))
 x_ha:uy K (.ref C) "__getattr__"=some none
 x_sb:PySem.W.subIn K (.ref C) (.type "BaseException")=some true
 x_kp:uU K (.ref C)=true
 x_cl:∃ f,uy K (.ref C) "__init__"=some (some (.ref f))/\xIn K C f=true/\PySem.W.typeIn K (.ref f)=some (.type "function")
 r_sp:PySem.W.specialIn K (.ref R) "__getattribute__"=some (some (.builtin "type.__getattribute__"))
 r_rd:PySem.W.readsIn K R (.type "type")=true
 r_fi:PySem.W.findCls K (.ref R) (.type "type") "__init__"=some (.val (.builtin "ValueError.__init__"))
 k_x:PySem.W.exmOne K (.ref C) (.ref C)=some true
 d_is_whole:DfIn K "is_whole" xn
 d_first_parts:DfIn K "first_parts" ZV
 d_sizes:DfIn K "sizes" ZR
 d_in_bounds:DfIn K "in_bounds" sIn
 d_shape:DfIn K "shape" ZU
 d_grown:DfIn K "grown" ZT
 d_result_of:DfIn K "result_of" sRes
 d_reckoned:DfIn K "reckoned" YD
 d_by_name:DfIn K "by_name" sBy
 d_begun_with:DfIn K "begun_with" ZW
 d_arm_of:DfIn K "arm_of" ZY
 m_Waiting___init__:MeIn K cW "__init__" "Waiting.__init__" ZZ
 m_Run___init__:MeIn K cR "__init__" "Run.__init__" Z0
 m_Run_begin_def:MeIn K cR "begin_def" "Run.begin_def" Z3
 m_Run_valued:MeIn K cR "valued" "Run.valued" jh
 d_func_tag:DfIn K "func_tag" wU
 d_asked_def:DfIn K "asked_def" ZX
 m_Run_outcome:MeIn K cR "outcome" "Run.outcome" sOut
 m_Run_call:MeIn K cR "call" "Run.call" WL
 m_Run_ask:MeIn K cR "ask" "Run.ask" sAsk
 m_Run_let:MeIn K cR "let" "Run.let" sLet
 m_Run_give:MeIn K cR "give" "Run.give" WK
 m_Run_choose:MeIn K cR "choose" "Run.choose" jg
 m_Run_take_arm:MeIn K cR "take_arm" "Run.take_arm" wV
 m_Run_go_on:MeIn K cR "go_on" "Run.go_on" sGo
 d_run:DfIn K "run" sRun
 d__law_draw:DfIn K "_law_draw" WM
 d__law_name:DfIn K "_law_name" sNm
 d__law_stem:DfIn K "_law_stem" WN
 d__law_some:DfIn K "_law_some" WP
 d__law_helpers:DfIn K "_law_helpers" wW
 d__law_ask:DfIn K "_law_ask" WQ
 d__law_deed:DfIn K "_law_deed" WR
 d__law_last:DfIn K "_law_last" WS
 d__law_main:DfIn K "_law_main" WT
 d__law_joined:DfIn K "_law_joined" jj
 d__law_call:DfIn K "_law_call" jk
 d__law_done:DfIn K "_law_done" WU
 d__law_run:DfIn K "_law_run" WV
 d__law_due:DfIn K "_law_due" sDue
 d__law_same:DfIn K "_law_same" WW
 d_law:DfIn K "law" sLaw
 z_len:uY K mainGlobals "len"=some none
 z_range:uY K mainGlobals "range"=some none
 z_isinstance:uY K mainGlobals "isinstance"=some none
 z_int:uY K mainGlobals "int"=some none
 z_bool:uY K mainGlobals "bool"=some none
 z_reversed:uY K mainGlobals "reversed"=some none
 z_list:uY K mainGlobals "list"=some none
 z_str:uY K mainGlobals "str"=some none
 z_tuple:uY K mainGlobals "tuple"=some none
 z_dict:uY K mainGlobals "dict"=some none
 z_zip:uY K mainGlobals "zip"=some none
theorem top_ok {l:PySem.W.OpenLaw} {w:World} {K:ua} {h:Heap} {mg:Str->Option Value} {fa cR cW C R V:Addr} (T:TopK K cR cW C R V) (X:K.In h) (G:h.Ns mainGlobals mg) (hfa:mg "law"=some (.ref fa)) :
  ∃ fd:FuncData,(∀ (s:Shared) (u:Value),BindsTo s fd ⟨[u],[]⟩ [("_law_script",u)])/\∀ base:Heap,K.In base->base.Ns mainGlobals mg->BMn mg base->FnOk l.prog w K mg base CX0 44 fa fd ["_law_script"] (spTopT K 132):=by
 refine JQ T.d_law X G hfa (fun _ _ _ _ _ _ s v=>.of_eq rfl) fun base fd hBM FL=>?_
 have z_len:mg "len"=none:=Ug X G T.z_len
 have z_range:mg "range"=none:=Ug X G T.z_range
 have z_isinstance:mg "isinstance"=none:=Ug X G T.z_isinstance
 have z_int:mg "int"=none:=Ug X G T.z_int
 have z_bool:mg "bool"=none:=Ug X G T.z_bool
 have z_reversed:mg "reversed"=none:=Ug X G T.z_reversed
 have z_list:mg "list"=none:=Ug X G T.z_list
 have z_str:mg "str"=none:=Ug X G T.z_str
 have z_tuple:mg "tuple"=none:=Ug X G T.z_tuple
 have z_dict:mg "dict"=none:=Ug X G T.z_dict
 have z_zip:mg "zip"=none:=Ug X G T.z_zip
 have n_Run:mg "Run"=some (.ref cR):=UM X G T.c_Run.n
 have n_Waiting:mg "Waiting"=some (.ref cW):=UM X G T.c_Waiting.n
 have n_Fault:=UM X G T.n_Fault
 have n_NoValue:=UM X G T.n_NoValue
 have n_ReuseError:=UM X G T.n_ReuseError
 have xV:XCl0 K V:=⟨T.v_in,T.v_kp⟩
 obtain ⟨fx,ax,xin,xty⟩:=T.x_cl
 have M:XCl K C fx:=⟨xin,xty,T.x_kp,T.x_over,T.x_sa,T.x_any,T.x_ga,T.x_ha,T.x_sb⟩
 have B:XBase K R:=⟨T.r_sp,T.r_rd,T.r_fi⟩
 have GX:Xa l.prog w K mg base 1 "Fault" C ["self","word"] (K31.spFault C):=by
  obtain ⟨f,a,n,g⟩:=T.m_init
  obtain ⟨fd,F,kp⟩:=g.fn
  have e:f=fx:=by
   rw [ax] at a
   injection a with a
   injection a with a
   injection a with a
   exact a.symm
  subst e
  exact ⟨f,fd,M,K31.ok_fault F T.x_word M B n_ReuseError,F.binds (ps:=["self","word"]) fun _ _ _ _ _ _=>us2 fun _ _=>rfl,n_Fault⟩
 have N:Rn K cR:=⟨T.c_Run.cls,T.a_Run_defs,T.a_Run_steps,T.a_Run_done,T.a_Run_waiting,T.a_Run_body,T.a_Run_names,T.a_Run_end⟩
 have FT:Ft K mg C:=⟨n_Fault,⟨fx,M⟩,T.x_find,T.x_hd,T.k_x⟩
 have NW:Wn K cW:=⟨T.c_Waiting.cls,T.a_Waiting_wants,T.a_Waiting_body,T.a_Waiting_names⟩
 have G1:=DfIn.ca (P:=l.prog) (w:=w) (base:=base) X G T.d_is_whole (ps:=["thing"]) (fun _ _ _ _ _ _=>us1 fun _=>rfl) fun f fd F=>ok_whole F z_isinstance z_int z_bool
 have G1B:=DfIn.ca (P:=l.prog) (w:=w) (base:=base) X G T.d_is_whole (ps:=["thing"]) (fun _ _ _ _ _ _=>us1 fun _=>rfl) fun f fd F=>XH F z_isinstance z_int z_bool
 have G1C:=DfIn.ca (P:=l.prog) (w:=w) (base:=base) X G T.d_is_whole (ps:=["thing"]) (fun _ _ _ _ _ _=>us1 fun _=>rfl) fun f fd F=>K31.ok_whole F z_isinstance z_int z_bool
 have G2:=DfIn.ca (P:=l.prog) (w:=w) (base:=base) X G T.d_first_parts (ps:=["value","most","shape_of"]) (fun _ _ _ _ _ _=>us3 fun _ _ _=>rfl) fun f fd F=>W6 F G1 z_len z_reversed
 have G3:=DdIn.ca (P:=l.prog) (w:=w) (base:=base) (dvs:=[.int 100]) X G T.d_parts_of (ps:=["value","most"]) (fun kV doc pm an ct=>XF T.dt kV doc pm an ct) (fun kV doc pm an ct=>XG T.dt kV doc pm an ct) fun f fd F=>W7 F hBM T.hcT G2
 have G4:=DfIn.ca (P:=l.prog) (w:=w) (base:=base) X G T.d_sizes (ps:=["kinds"]) (fun _ _ _ _ _ _=>us1 fun _=>rfl) fun f fd F=>Vh F
 have G5:=DfIn.ca (P:=l.prog) (w:=w) (base:=base) X G T.d_in_bounds (ps:=["number"]) (fun _ _ _ _ _ _=>us1 fun _=>rfl) fun f fd F=>ok_in F
 have G5B:=DfIn.ca (P:=l.prog) (w:=w) (base:=base) X G T.d_in_bounds (ps:=["number"]) (fun _ _ _ _ _ _=>us1 fun _=>rfl) fun f fd F=>K31.ok_in F
 have G6:=DfIn.ca (P:=l.prog) (w:=w) (base:=base) X G T.d_shape (ps:=["tag","known_sizes","values"]) (fun _ _ _ _ _ _=>us3 fun _ _ _=>rfl) fun f fd F=>Vi F n_NoValue xV z_len z_range z_tuple
 have G7:=DfIn.ca (P:=l.prog) (w:=w) (base:=base) X G T.d_grown (ps:=["kinds","parts"]) (fun _ _ _ _ _ _=>us2 fun _ _=>rfl) fun f fd F=>Vj F n_NoValue xV z_len z_isinstance z_list z_str z_reversed G4 G6 G1B G5
 have G8:=G7.dn (sp':=jw) (fun vs H Q E h=>VG h)
 have R1:=DfIn.ca (P:=l.prog) (w:=w) (base:=base) X G T.d_result_of (ps:=["word","a","b"]) (fun _ _ _ _ _ _=>us3 fun _ _ _=>rfl) fun f fd F=>K31.ok_res F
 have R2:=DfIn.ca (P:=l.prog) (w:=w) (base:=base) X G T.d_reckoned (ps:=["word","a","b"]) (fun _ _ _ _ _ _=>us3 fun _ _ _=>rfl) fun f fd F=>K31.ok_reck F GX G1C R1 G5B
 have R3:=DfIn.ca (P:=l.prog) (w:=w) (base:=base) X G T.d_by_name (ps:=["defs"]) (fun _ _ _ _ _ _=>us1 fun _=>rfl) fun f fd F=>zaA F
 have R4:=DfIn.ca (P:=l.prog) (w:=w) (base:=base) X G T.d_begun_with (ps:=["kinds","defs","name","args"]) (fun _ _ _ _ _ _=>us4 fun _ _ _ _=>rfl) fun f fd F=>XQ F G8 z_len
 have R6:=DfIn.ca (P:=l.prog) (w:=w) (base:=base) X G T.d_arm_of (ps:=["arms","tag"]) (fun _ _ _ _ _ _=>us2 fun _ _=>rfl) fun f fd F=>zar F GX
 have W0:=T.m_Waiting___init__.ma (P:=l.prog) (w:=w) (mg:=mg) (base:=base) (x:="Waiting") (ps:=["self","wants","body","names"]) (fun _ _ _ _ _ _=>us4 fun _ _ _ _=>rfl) T.c_Waiting.mks T.c_Waiting.kp n_Waiting fun f fd F=>Vy F NW
 have M0:=T.m_Run___init__.ma (P:=l.prog) (w:=w) (mg:=mg) (base:=base) (x:="Run") (ps:=["self","defs","steps"]) (fun _ _ _ _ _ _=>us3 fun _ _ _=>rfl) T.c_Run.mks T.c_Run.kp n_Run fun f fd F=>Vv F N
 have M1:=T.m_Run_begin_def.me (P:=l.prog) (w:=w) (mg:=mg) (base:=base) (ps:=["self","name","values"]) (fun _ _ _ _ _ _=>us3 fun _ _ _=>rfl) fun f fd F=>Vw F N z_dict z_zip
 have M2:=T.m_Run_valued.me (P:=l.prog) (w:=w) (mg:=mg) (base:=base) (ps:=["self","names"]) (fun _ _ _ _ _ _=>us2 fun _ _=>rfl) fun f fd F=>XM F N
 have RT:=DfIn.ca (P:=l.prog) (w:=w) (base:=base) X G T.d_func_tag (ps:=["name","many"]) (fun _ _ _ _ _ _=>us2 fun _ _=>rfl) fun f fd F=>zas F
 have RA:=DfIn.ca (P:=l.prog) (w:=w) (base:=base) X G T.d_asked_def (ps:=["defs","tag","had","more"]) (fun _ _ _ _ _ _=>us4 fun _ _ _ _=>rfl) fun f fd F=>VE F GX z_len
 have M3:=T.m_Run_outcome.me (P:=l.prog) (w:=w) (mg:=mg) (base:=base) (ps:=["self","deed"]) (fun _ _ _ _ _ _=>us2 fun _ _=>rfl) fun f fd F=>qg (qb F N M2 R2 z_tuple) (qf F N M2 RT z_tuple z_len)
 have M4:=T.m_Run_call.me (P:=l.prog) (w:=w) (mg:=mg) (base:=base) (ps:=["self","behind","name","values"]) (fun _ _ _ _ _ _=>us4 fun _ _ _ _=>rfl) fun f fd F=>qe F N M1
 have MA:=T.m_Run_ask.me (P:=l.prog) (w:=w) (mg:=mg) (base:=base) (ps:=["self","behind","asked","values"]) (fun _ _ _ _ _ _=>us4 fun _ _ _ _=>rfl) fun f fd F=>zau F N GX G1C RA M4 z_len z_list
 have M9:=T.m_Run_let.me (P:=l.prog) (w:=w) (mg:=mg) (base:=base) (ps:=["self","wants","deed","body"]) (fun _ _ _ _ _ _=>us4 fun _ _ _ _=>rfl) fun f fd F=>qi F N M3 M4 M2 MA W0
 have M5:=T.m_Run_give.me (P:=l.prog) (w:=w) (mg:=mg) (base:=base) (ps:=["self","value"]) (fun _ _ _ _ _ _=>us2 fun _ _=>rfl) fun f fd F=>Vz F N NW G3 z_len
 have M7:=T.m_Run_choose.me (P:=l.prog) (w:=w) (mg:=mg) (base:=base) (ps:=["self","body","value"]) (fun _ _ _ _ _ _=>us3 fun _ _ _=>rfl) fun f fd F=>XN F N GX G1C
 have M8:=T.m_Run_take_arm.me (P:=l.prog) (w:=w) (mg:=mg) (base:=base) (ps:=["self","arms","value"]) (fun _ _ _ _ _ _=>us3 fun _ _ _=>rfl) fun f fd F=>J8 F N R6 G1C z_zip
 have M6:=T.m_Run_go_on.me (P:=l.prog) (w:=w) (mg:=mg) (base:=base) (ps:=["self"]) (fun _ _ _ _ _ _=>us1 fun _=>rfl) fun f fd F=>zaz F N M9 M7 M8 M5
 have R5:=DfIn.ca (P:=l.prog) (w:=w) (base:=base) X G T.d_run (ps:=["program","name","args","steps"]) (fun _ _ _ _ _ _=>us4 fun _ _ _ _=>rfl) fun f fd F=>ql F N FT R3 R4 M0 M1 M6
 have LD:=DfIn.ca (P:=l.prog) (w:=w) (base:=base) X G T.d__law_draw (ps:=["_law_state","_law_many"]) (fun _ _ _ _ _ _=>us2 fun _ _=>rfl) fun f fd F=>JP F z_len
 have LN:=DfIn.ca (P:=l.prog) (w:=w) (base:=base) X G T.d__law_name (ps:=["_law_world","_law_k"]) (fun _ _ _ _ _ _=>us2 fun _ _=>rfl) fun f fd F=>za1 F
 have LS:=DfIn.ca (P:=l.prog) (w:=w) (base:=base) X G T.d__law_stem (ps:=["_law_state"]) (fun _ _ _ _ _ _=>us1 fun _=>rfl) fun f fd F=>V0 F LD z_range
 have LO:=DfIn.ca (P:=l.prog) (w:=w) (base:=base) X G T.d__law_some (ps:=["_law_state","_law_names","_law_many"]) (fun _ _ _ _ _ _=>us3 fun _ _ _=>rfl) fun f fd F=>qw F LD z_range z_tuple z_len
 have LH:=DfIn.ca (P:=l.prog) (w:=w) (base:=base) X G T.d__law_helpers (ps:=["_law_state","_law_world","_law_heads"]) (fun _ _ _ _ _ _=>us3 fun _ _ _=>rfl) fun f fd F=>Yb F LD LN LO z_range z_tuple
 have LK:=DfIn.ca (P:=l.prog) (w:=w) (base:=base) X G T.d__law_ask (ps:=["_law_state","_law_scope"]) (fun _ _ _ _ _ _=>us2 fun _ _=>rfl) fun f fd F=>qy F LD LO z_len
 have LE:=DfIn.ca (P:=l.prog) (w:=w) (base:=base) X G T.d__law_deed (ps:=["_law_state","_law_scope","_law_defs","_law_world"]) (fun _ _ _ _ _ _=>us4 fun _ _ _ _=>rfl) fun f fd F=>qz F LD LN LO LK z_len
 have LL:=DfIn.ca (P:=l.prog) (w:=w) (base:=base) X G T.d__law_last (ps:=["_law_state","_law_scope","_law_world","_law_x"]) (fun _ _ _ _ _ _=>us4 fun _ _ _ _=>rfl) fun f fd F=>qB F LD LN z_len z_range z_tuple
 have LI:=DfIn.ca (P:=l.prog) (w:=w) (base:=base) X G T.d__law_main (ps:=["_law_state","_law_defs","_law_world","_law_head"]) (fun _ _ _ _ _ _=>us4 fun _ _ _ _=>rfl) fun f fd F=>qC F LD LN LE LL z_len z_range z_tuple z_reversed
 have LJ:=DfIn.ca (P:=l.prog) (w:=w) (base:=base) X G T.d__law_joined (ps:=["_law_tag","_law_values"]) (fun _ _ _ _ _ _=>us2 fun _ _=>rfl) fun f fd F=>XS F
 have C0:=DfIn.ca (P:=l.prog) (w:=w) (base:=base) X G T.d__law_call (ps:=["_law_count","_law_defs","_law_name_here","_law_values"]) (fun _ _ _ _ _ _=>us4 fun _ _ _ _=>rfl) fun f fd F=>XT F (lv:=1) (by decide)
 have D0:=DfIn.ca (P:=l.prog) (w:=w) (base:=base) X G T.d__law_done (ps:=["_law_count","_law_defs","_law_here","_law_deed_here"]) (fun _ _ _ _ _ _=>us4 fun _ _ _ _=>rfl) fun f fd F=>yp (by decide) F LJ C0 z_len z_str
 have E0:=DfIn.ca (P:=l.prog) (w:=w) (base:=base) X G T.d__law_run (ps:=["_law_count","_law_defs","_law_name_here","_law_values"]) (fun _ _ _ _ _ _=>us4 fun _ _ _ _=>rfl) fun f fd F=>yq (by decide) F D0 z_dict z_zip z_isinstance z_str z_int
 have C1:=DfIn.ca (P:=l.prog) (w:=w) (base:=base) X G T.d__law_call (ps:=["_law_count","_law_defs","_law_name_here","_law_values"]) (fun _ _ _ _ _ _=>us4 fun _ _ _ _=>rfl) fun f fd F=>yg F E0
 have D1:=DfIn.ca (P:=l.prog) (w:=w) (base:=base) X G T.d__law_done (ps:=["_law_count","_law_defs","_law_here","_law_deed_here"]) (fun _ _ _ _ _ _=>us4 fun _ _ _ _=>rfl) fun f fd F=>yp (by decide) F LJ C1 z_len z_str
 have E1:=DfIn.ca (P:=l.prog) (w:=w) (base:=base) X G T.d__law_run (ps:=["_law_count","_law_defs","_law_name_here","_law_values"]) (fun _ _ _ _ _ _=>us4 fun _ _ _ _=>rfl) fun f fd F=>yq (by decide) F D1 z_dict z_zip z_isinstance z_str z_int
 have C2:=DfIn.ca (P:=l.prog) (w:=w) (base:=base) X G T.d__law_call (ps:=["_law_count","_law_defs","_law_name_here","_law_values"]) (fun _ _ _ _ _ _=>us4 fun _ _ _ _=>rfl) fun f fd F=>yg F E1
 have D2:=DfIn.ca (P:=l.prog) (w:=w) (base:=base) X G T.d__law_done (ps:=["_law_count","_law_defs","_law_here","_law_deed_here"]) (fun _ _ _ _ _ _=>us4 fun _ _ _ _=>rfl) fun f fd F=>yp (by decide) F LJ C2 z_len z_str
 have E2:=DfIn.ca (P:=l.prog) (w:=w) (base:=base) X G T.d__law_run (ps:=["_law_count","_law_defs","_law_name_here","_law_values"]) (fun _ _ _ _ _ _=>us4 fun _ _ _ _=>rfl) fun f fd F=>yq (by decide) F D2 z_dict z_zip z_isinstance z_str z_int
 have C3:=DfIn.ca (P:=l.prog) (w:=w) (base:=base) X G T.d__law_call (ps:=["_law_count","_law_defs","_law_name_here","_law_values"]) (fun _ _ _ _ _ _=>us4 fun _ _ _ _=>rfl) fun f fd F=>yg F E2
 have D3:=DfIn.ca (P:=l.prog) (w:=w) (base:=base) X G T.d__law_done (ps:=["_law_count","_law_defs","_law_here","_law_deed_here"]) (fun _ _ _ _ _ _=>us4 fun _ _ _ _=>rfl) fun f fd F=>yp (by decide) F LJ C3 z_len z_str
 have E3:=DfIn.ca (P:=l.prog) (w:=w) (base:=base) X G T.d__law_run (ps:=["_law_count","_law_defs","_law_name_here","_law_values"]) (fun _ _ _ _ _ _=>us4 fun _ _ _ _=>rfl) fun f fd F=>yq (by decide) F D3 z_dict z_zip z_isinstance z_str z_int
 have C4:=DfIn.ca (P:=l.prog) (w:=w) (base:=base) X G T.d__law_call (ps:=["_law_count","_law_defs","_law_name_here","_law_values"]) (fun _ _ _ _ _ _=>us4 fun _ _ _ _=>rfl) fun f fd F=>yg F E3
 have D4:=DfIn.ca (P:=l.prog) (w:=w) (base:=base) X G T.d__law_done (ps:=["_law_count","_law_defs","_law_here","_law_deed_here"]) (fun _ _ _ _ _ _=>us4 fun _ _ _ _=>rfl) fun f fd F=>yp (by decide) F LJ C4 z_len z_str
 have E4:=DfIn.ca (P:=l.prog) (w:=w) (base:=base) X G T.d__law_run (ps:=["_law_count","_law_defs","_law_name_here","_law_values"]) (fun _ _ _ _ _ _=>us4 fun _ _ _ _=>rfl) fun f fd F=>yq (by decide) F D4 z_dict z_zip z_isinstance z_str z_int
 have C5:=DfIn.ca (P:=l.prog) (w:=w) (base:=base) X G T.d__law_call (ps:=["_law_count","_law_defs","_law_name_here","_law_values"]) (fun _ _ _ _ _ _=>us4 fun _ _ _ _=>rfl) fun f fd F=>yg F E4
 have D5:=DfIn.ca (P:=l.prog) (w:=w) (base:=base) X G T.d__law_done (ps:=["_law_count","_law_defs","_law_here","_law_deed_here"]) (fun _ _ _ _ _ _=>us4 fun _ _ _ _=>rfl) fun f fd F=>yp (by decide) F LJ C5 z_len z_str
 have E5:=DfIn.ca (P:=l.prog) (w:=w) (base:=base) X G T.d__law_run (ps:=["_law_count","_law_defs","_law_name_here","_law_values"]) (fun _ _ _ _ _ _=>us4 fun _ _ _ _=>rfl) fun f fd F=>yq (by decide) F D5 z_dict z_zip z_isinstance z_str z_int
 have C6:=DfIn.ca (P:=l.prog) (w:=w) (base:=base) X G T.d__law_call (ps:=["_law_count","_law_defs","_law_name_here","_law_values"]) (fun _ _ _ _ _ _=>us4 fun _ _ _ _=>rfl) fun f fd F=>yg F E5
 have D6:=DfIn.ca (P:=l.prog) (w:=w) (base:=base) X G T.d__law_done (ps:=["_law_count","_law_defs","_law_here","_law_deed_here"]) (fun _ _ _ _ _ _=>us4 fun _ _ _ _=>rfl) fun f fd F=>yp (by decide) F LJ C6 z_len z_str
 have E6:=DfIn.ca (P:=l.prog) (w:=w) (base:=base) X G T.d__law_run (ps:=["_law_count","_law_defs","_law_name_here","_law_values"]) (fun _ _ _ _ _ _=>us4 fun _ _ _ _=>rfl) fun f fd F=>yq (by decide) F D6 z_dict z_zip z_isinstance z_str z_int
 have C7:=DfIn.ca (P:=l.prog) (w:=w) (base:=base) X G T.d__law_call (ps:=["_law_count","_law_defs","_law_name_here","_law_values"]) (fun _ _ _ _ _ _=>us4 fun _ _ _ _=>rfl) fun f fd F=>yg F E6
 have D7:=DfIn.ca (P:=l.prog) (w:=w) (base:=base) X G T.d__law_done (ps:=["_law_count","_law_defs","_law_here","_law_deed_here"]) (fun _ _ _ _ _ _=>us4 fun _ _ _ _=>rfl) fun f fd F=>yp (by decide) F LJ C7 z_len z_str
 have E7:=DfIn.ca (P:=l.prog) (w:=w) (base:=base) X G T.d__law_run (ps:=["_law_count","_law_defs","_law_name_here","_law_values"]) (fun _ _ _ _ _ _=>us4 fun _ _ _ _=>rfl) fun f fd F=>yq (by decide) F D7 z_dict z_zip z_isinstance z_str z_int
 have C8:=DfIn.ca (P:=l.prog) (w:=w) (base:=base) X G T.d__law_call (ps:=["_law_count","_law_defs","_law_name_here","_law_values"]) (fun _ _ _ _ _ _=>us4 fun _ _ _ _=>rfl) fun f fd F=>yg F E7
 have D8:=DfIn.ca (P:=l.prog) (w:=w) (base:=base) X G T.d__law_done (ps:=["_law_count","_law_defs","_law_here","_law_deed_here"]) (fun _ _ _ _ _ _=>us4 fun _ _ _ _=>rfl) fun f fd F=>yp (by decide) F LJ C8 z_len z_str
 have E8:=DfIn.ca (P:=l.prog) (w:=w) (base:=base) X G T.d__law_run (ps:=["_law_count","_law_defs","_law_name_here","_law_values"]) (fun _ _ _ _ _ _=>us4 fun _ _ _ _=>rfl) fun f fd F=>yq (by decide) F D8 z_dict z_zip z_isinstance z_str z_int
 have C9:=DfIn.ca (P:=l.prog) (w:=w) (base:=base) X G T.d__law_call (ps:=["_law_count","_law_defs","_law_name_here","_law_values"]) (fun _ _ _ _ _ _=>us4 fun _ _ _ _=>rfl) fun f fd F=>yg F E8
 have D9:=DfIn.ca (P:=l.prog) (w:=w) (base:=base) X G T.d__law_done (ps:=["_law_count","_law_defs","_law_here","_law_deed_here"]) (fun _ _ _ _ _ _=>us4 fun _ _ _ _=>rfl) fun f fd F=>yp (by decide) F LJ C9 z_len z_str
 have E9:=DfIn.ca (P:=l.prog) (w:=w) (base:=base) X G T.d__law_run (ps:=["_law_count","_law_defs","_law_name_here","_law_values"]) (fun _ _ _ _ _ _=>us4 fun _ _ _ _=>rfl) fun f fd F=>yq (by decide) F D9 z_dict z_zip z_isinstance z_str z_int
 have C10:=DfIn.ca (P:=l.prog) (w:=w) (base:=base) X G T.d__law_call (ps:=["_law_count","_law_defs","_law_name_here","_law_values"]) (fun _ _ _ _ _ _=>us4 fun _ _ _ _=>rfl) fun f fd F=>yg F E9
 have D10:=DfIn.ca (P:=l.prog) (w:=w) (base:=base) X G T.d__law_done (ps:=["_law_count","_law_defs","_law_here","_law_deed_here"]) (fun _ _ _ _ _ _=>us4 fun _ _ _ _=>rfl) fun f fd F=>yp (by decide) F LJ C10 z_len z_str
 have E10:=DfIn.ca (P:=l.prog) (w:=w) (base:=base) X G T.d__law_run (ps:=["_law_count","_law_defs","_law_name_here","_law_values"]) (fun _ _ _ _ _ _=>us4 fun _ _ _ _=>rfl) fun f fd F=>yq (by decide) F D10 z_dict z_zip z_isinstance z_str z_int
 have C11:=DfIn.ca (P:=l.prog) (w:=w) (base:=base) X G T.d__law_call (ps:=["_law_count","_law_defs","_law_name_here","_law_values"]) (fun _ _ _ _ _ _=>us4 fun _ _ _ _=>rfl) fun f fd F=>yg F E10
 have D11:=DfIn.ca (P:=l.prog) (w:=w) (base:=base) X G T.d__law_done (ps:=["_law_count","_law_defs","_law_here","_law_deed_here"]) (fun _ _ _ _ _ _=>us4 fun _ _ _ _=>rfl) fun f fd F=>yp (by decide) F LJ C11 z_len z_str
 have E11:=DfIn.ca (P:=l.prog) (w:=w) (base:=base) X G T.d__law_run (ps:=["_law_count","_law_defs","_law_name_here","_law_values"]) (fun _ _ _ _ _ _=>us4 fun _ _ _ _=>rfl) fun f fd F=>yq (by decide) F D11 z_dict z_zip z_isinstance z_str z_int
 have C12:=DfIn.ca (P:=l.prog) (w:=w) (base:=base) X G T.d__law_call (ps:=["_law_count","_law_defs","_law_name_here","_law_values"]) (fun _ _ _ _ _ _=>us4 fun _ _ _ _=>rfl) fun f fd F=>yg F E11
 have D12:=DfIn.ca (P:=l.prog) (w:=w) (base:=base) X G T.d__law_done (ps:=["_law_count","_law_defs","_law_here","_law_deed_here"]) (fun _ _ _ _ _ _=>us4 fun _ _ _ _=>rfl) fun f fd F=>yp (by decide) F LJ C12 z_len z_str
 have E12:=DfIn.ca (P:=l.prog) (w:=w) (base:=base) X G T.d__law_run (ps:=["_law_count","_law_defs","_law_name_here","_law_values"]) (fun _ _ _ _ _ _=>us4 fun _ _ _ _=>rfl) fun f fd F=>yq (by decide) F D12 z_dict z_zip z_isinstance z_str z_int
 have C13:=DfIn.ca (P:=l.prog) (w:=w) (base:=base) X G T.d__law_call (ps:=["_law_count","_law_defs","_law_name_here","_law_values"]) (fun _ _ _ _ _ _=>us4 fun _ _ _ _=>rfl) fun f fd F=>yg F E12
 have D13:=DfIn.ca (P:=l.prog) (w:=w) (base:=base) X G T.d__law_done (ps:=["_law_count","_law_defs","_law_here","_law_deed_here"]) (fun _ _ _ _ _ _=>us4 fun _ _ _ _=>rfl) fun f fd F=>yp (by decide) F LJ C13 z_len z_str
 have E13:=DfIn.ca (P:=l.prog) (w:=w) (base:=base) X G T.d__law_run (ps:=["_law_count","_law_defs","_law_name_here","_law_values"]) (fun _ _ _ _ _ _=>us4 fun _ _ _ _=>rfl) fun f fd F=>yq (by decide) F D13 z_dict z_zip z_isinstance z_str z_int
 have LU:=DfIn.ca (P:=l.prog) (w:=w) (base:=base) X G T.d__law_due (ps:=["_law_defs","_law_name_here","_law_args","_law_steps"]) (fun _ _ _ _ _ _=>us4 fun _ _ _ _=>rfl) fun f fd F=>qv F E13
 have LM:=DfIn.ca (P:=l.prog) (w:=w) (base:=base) X G T.d__law_same (ps:=["_law_got","_law_due_here"]) (fun _ _ _ _ _ _=>us2 fun _ _=>rfl) fun f fd F=>VO F z_isinstance z_list z_bool z_tuple z_len
 exact V2 FL LD LN LS LH LI LU LM R5 z_tuple z_list z_range
end GN
def PySem.W.Fast.tw1972619507198255417:Unit:=()
def PySem.W.Fast.tw9041517963479883702:Unit:=()
def PySem.W.Fast.tw361124163466784667:Unit:=()
def PySem.W.Fast.tw12570615332063136665:Unit:=()
def PySem.W.Fast.tw17483139067648972095:Unit:=()
def PySem.W.Fast.tw8728207479884985644:Unit:=()
def PySem.W.Fast.tw10698428921249213331:Unit:=()
def PySem.W.Fast.tw3851485886053410207:Unit:=()
def PySem.W.Fast.tw10732401364421571416:Unit:=()
def PySem.W.Fast.tw15451694832922233711:Unit:=()
def PySem.W.Fast.tw6238351824270866819:Unit:=()
def PySem.W.Fast.tw16628683078697370898:Unit:=()
def PySem.W.Fast.tw8862417706827312513:Unit:=()
def PySem.W.Fast.tw12880191316574089333:Unit:=()
def PySem.W.Fast.tw7410070706233256472:Unit:=()
def PySem.W.Fast.tw8751747016140745160:Unit:=()
def PySem.W.Fast.tw8998058976895446240:Unit:=()
def PySem.W.Fast.tw2869068589087358018:Unit:=()
def PySem.W.Fast.tw16968058709946217244:Unit:=()
def PySem.W.Fast.tw8708498360610544659:Unit:=()
def PySem.W.Fast.tw4213101981099612638:Unit:=()
def PySem.W.Fast.tw2810684981620719428:Unit:=()
def PySem.W.Fast.tw2667705760233273033:Unit:=()
def PySem.W.Fast.tw2594063764366429271:Unit:=()
def PySem.W.Fast.tw2141779667712266641:Unit:=()
def PySem.W.Fast.tw206099665955214520:Unit:=()
def PySem.W.Fast.tw14655551829007095508:Unit:=()
def PySem.W.Fast.tw12521050692276228804:Unit:=()
def PySem.W.Fast.tw11655949157870213543:Unit:=()
def PySem.W.Fast.tw9760917609536892291:Unit:=()
def PySem.W.Fast.tw17022055253637946166:Unit:=()
def PySem.W.Fast.tw12953219877385699965:Unit:=()
def PySem.W.Fast.tw9580342251463793228:Unit:=()
def PySem.W.Fast.tw18263281629802781468:Unit:=()
def PySem.W.Fast.tw11506903459106230857:Unit:=()
def PySem.W.Fast.tw14177633826951716687:Unit:=()
def PySem.W.Fast.tw5479700100200181205:Unit:=()
def PySem.W.Fast.tw8633042477134033221:Unit:=()
def PySem.W.Fast.tw8778337038162804493:Unit:=()
def PySem.W.Fast.tw15526640007285827728:Unit:=()
def PySem.W.Fast.tw7854685471570136594:Unit:=()
def PySem.W.Fast.tw9244644107512009524:Unit:=()
def PySem.W.Fast.tw10581963064890133012:Unit:=()
def PySem.W.Fast.tw6449174182133853014:Unit:=()
def PySem.W.Fast.tw7661513922886741440:Unit:=()
def PySem.W.Fast.tw14400912024002933017:Unit:=()
def PySem.W.Fast.tw10090848059684352778:Unit:=()
def PySem.W.Fast.tw5359471062238098808:Unit:=()
def PySem.W.Fast.tw8605067752893104692:Unit:=()
def PySem.W.Fast.tw14538386909803847587:Unit:=()
def PySem.W.Fast.tw17866242731038144339:Unit:=()
def PySem.W.Fast.tw10458959816193077053:Unit:=()
def PySem.W.Fast.tw10795986578498213430:Unit:=()
def PySem.W.Fast.tw18306229711127966871:Unit:=()
def PySem.W.Fast.tw8127320316639249774:Unit:=()
def PySem.W.Fast.tw16239649033748868942:Unit:=()
def PySem.W.Fast.tw767713808429879793:Unit:=()
def PySem.W.Fast.tw17251180942985203249:Unit:=()
def PySem.W.Fast.tw681007777597164305:Unit:=()
def PySem.W.Fast.tw8513749045690516630:Unit:=()
def PySem.W.Fast.tw11741102782172840834:Unit:=()
def PySem.W.Fast.tw9609263542167593059:Unit:=()
def PySem.W.Fast.tw17982285481991298053:Unit:=()
def PySem.W.Fast.tw14047400977109758342:Unit:=()
def PySem.W.Fast.tw7791850243294818861:Unit:=()
def PySem.W.Fast.tw5244126808030924204:Unit:=()
def PySem.W.Fast.tw1696286104339796786:Unit:=()
def PySem.W.Fast.tw5912150874978243255:Unit:=()
def PySem.W.Fast.tw17219073277251163361:Unit:=()
def PySem.W.Fast.tw2630577021062181950:Unit:=()
def PySem.W.Fast.tw3528363551838812393:Unit:=()
def PySem.W.Fast.tw1949149785831145647:Unit:=()
def PySem.W.Fast.tw392264860724693968:Unit:=()
def PySem.W.Fast.tw11153473049804982410:Unit:=()
def PySem.W.Fast.tw2384323421250265805:Unit:=()
def PySem.W.Fast.tw16948128484816761930:Unit:=()
def PySem.W.Fast.tw3338463257207770460:Unit:=()
def PySem.W.Fast.tw211934287352962770:Unit:=()
def PySem.W.Fast.tw14067161469559924346:Unit:=()
def PySem.W.Fast.tw15489026726462037675:Unit:=()
def PySem.W.Fast.tw17663271358471085447:Unit:=()
def PySem.W.Fast.tw9457054140714250411:Unit:=()
def PySem.W.Fast.tw18071887016527728089:Unit:=()
def PySem.W.Fast.tw5815767002960515123:Unit:=()
def PySem.W.Fast.tw5003731576832600727:Unit:=()
def PySem.W.Fast.tw8647036049740040587:Unit:=()
def PySem.W.Fast.tw1452900738420972023:Unit:=()
def PySem.W.Fast.tw14227854798080048235:Unit:=()
def PySem.W.Fast.tw15927998248721327189:Unit:=()
def PySem.W.Fast.tw3859283915798257919:Unit:=()
def PySem.W.Fast.tw8247617699455989922:Unit:=()
def PySem.W.Fast.tw15520083871812315613:Unit:=()
def PySem.W.Fast.tw10948523431019745972:Unit:=()
def PySem.W.Fast.tw5286986927698652861:Unit:=()
def PySem.W.Fast.tw15368594987832689237:Unit:=()
def PySem.W.Fast.tw1657441424001061266:Unit:=()
def PySem.W.Fast.tw9840767366628814414:Unit:=()
def PySem.W.Fast.tw11726596385990349368:Unit:=()
def PySem.W.Fast.tw17429139808031544219:Unit:=()
def PySem.W.Fast.tw18357248704377268299:Unit:=()
def PySem.W.Fast.tw1076340099780554748:Unit:=()
def PySem.W.Fast.tw12584653143893825207:Unit:=()
def PySem.W.Fast.tw14958055714843482216:Unit:=()
def PySem.W.Fast.tw155287230678789241:Unit:=()
def PySem.W.Fast.tw4449876982547009965:Unit:=()
def PySem.W.Fast.tw11638690853157442298:Unit:=()
def PySem.W.Fast.tw11636521448725545882:Unit:=()
def PySem.W.Fast.tw4563931872706128346:Unit:=()
def PySem.W.Fast.tw1180525710453099844:Unit:=()
def PySem.W.Fast.tw4919191811353876990:Unit:=()
def PySem.W.Fast.tw1678442203703788822:Unit:=()
def PySem.W.Fast.tw12342383795985277600:Unit:=()
def PySem.W.Fast.tw10093392206975103984:Unit:=()
def PySem.W.Fast.tw278139703993046403:Unit:=()
def PySem.W.Fast.tw7692128427078769505:Unit:=()
def PySem.W.Fast.tw3905264048012146512:Unit:=()
def PySem.W.Fast.tw12396374620448247283:Unit:=()
def PySem.W.Fast.tw1596583881027415366:Unit:=()
def PySem.W.Fast.tw406735539497800714:Unit:=()
def PySem.W.Fast.tw2367685265035270898:Unit:=()
def PySem.W.Fast.tw10165892383086153782:Unit:=()
def PySem.W.Fast.tw17107543822155347927:Unit:=()
def PySem.W.Fast.tw5839075764758951160:Unit:=()
def PySem.W.Fast.tw4462142739665855378:Unit:=()
def PySem.W.Fast.tw16214970014176542072:Unit:=()
def PySem.W.Fast.tw14392637197795533312:Unit:=()
def PySem.W.Fast.tw2039823233949319162:Unit:=()
def PySem.W.Fast.tw1360391728360064068:Unit:=()
def PySem.W.Fast.tw5801487654399017449:Unit:=()
def PySem.W.Fast.tw647416617278097123:Unit:=()
def PySem.W.Fast.tw572515792480303330:Unit:=()
def PySem.W.Fast.tw10099170850574470742:Unit:=()
def PySem.W.Fast.tw3619700586006008674:Unit:=()
def PySem.W.Fast.tw2818720149597624785:Unit:=()
def PySem.W.Fast.tw16272054427690453869:Unit:=()
def PySem.W.Fast.tw9777263659444258356:Unit:=()
def PySem.W.Fast.tw11556031877840616993:Unit:=()
def PySem.W.Fast.tw14595061857129484252:Unit:=()
def PySem.W.Fast.tw5455343191098892699:Unit:=()
def PySem.W.Fast.tw15813261560872287811:Unit:=()
def PySem.W.Fast.tw6098424951953770968:Unit:=()
def PySem.W.Fast.tw10428311919218008542:Unit:=()
def PySem.W.Fast.tw14201111995149650730:Unit:=()
def PySem.W.Fast.tw11553180605797659915:Unit:=()
def PySem.W.Fast.tw6881282681518702587:Unit:=()
def PySem.W.Fast.tw2731650497748803066:Unit:=()
def PySem.W.Fast.tw2161032346436933517:Unit:=()
def PySem.W.Fast.tw15530385102649816520:Unit:=()
def PySem.W.Fast.tw7627507355178898941:Unit:=()
def PySem.W.Fast.tw8163250246439932942:Unit:=()
def PySem.W.Fast.tw2657638308639731967:Unit:=()
def PySem.W.Fast.tw2351769732471919095:Unit:=()
def PySem.W.Fast.tw6456060888244092349:Unit:=()
def PySem.W.Fast.tw15100500169112321853:Unit:=()
def PySem.W.Fast.tw3211001046564464314:Unit:=()
def PySem.W.Fast.tw9150525863687019088:Unit:=()
def PySem.W.Fast.tw6087300957934259372:Unit:=()
def PySem.W.Fast.tw11927061011437994819:Unit:=()
def PySem.W.Fast.tw18274414216509914334:Unit:=()
def PySem.W.Fast.tw3807510729136778210:Unit:=()
def PySem.W.Fast.tw5054316838396636340:Unit:=()
def PySem.W.Fast.tw16728175868405506588:Unit:=()
def PySem.W.Fast.tw7228388146504035579:Unit:=()
def PySem.W.Fast.tw14638526267564229803:Unit:=()
def PySem.W.Fast.tw8564302230418455463:Unit:=()
def PySem.W.Fast.tw500324863651049098:Unit:=()
def PySem.W.Fast.tw178073386194996008:Unit:=()
def PySem.W.Fast.tw1509366795101108345:Unit:=()
def PySem.W.Fast.tw5259074420198672505:Unit:=()
def PySem.W.Fast.tw1781250383185444418:Unit:=()
def PySem.W.Fast.tw13398046610085570547:Unit:=()
def PySem.W.Fast.tw9065421254085703991:Unit:=()
def PySem.W.Fast.tw1503693965779446155:Unit:=()
def PySem.W.Fast.tw14090146377312559074:Unit:=()
def PySem.W.Fast.tw13401398376931824346:Unit:=()
def PySem.W.Fast.tw6309989001614129979:Unit:=()
def PySem.W.Fast.tw2135869432019332148:Unit:=()
def PySem.W.Fast.tw3375446329292862863:Unit:=()
def PySem.W.Fast.tw1285580319855012175:Unit:=()
def PySem.W.Fast.tw1410384152704089292:Unit:=()
def PySem.W.Fast.tw17371992421163585112:Unit:=()
def PySem.W.Fast.tw5574070041268495031:Unit:=()
def PySem.W.Fast.tw11003717426677142261:Unit:=()
def PySem.W.Fast.tw9465625186685319945:Unit:=()
def PySem.W.Fast.tw15067270488992017879:Unit:=()
def PySem.W.Fast.tw15022597486227128593:Unit:=()
def PySem.W.Fast.tw798661051576238053:Unit:=()
def PySem.W.Fast.tw18158307414975749468:Unit:=()
def PySem.W.Fast.tw13754206503783271166:Unit:=()
def PySem.W.Fast.tw554633409827360111:Unit:=()
def PySem.W.Fast.tw8816499896932998733:Unit:=()
def PySem.W.Fast.tw15928565087702066804:Unit:=()
def PySem.W.Fast.tw12646753064503068192:Unit:=()
def PySem.W.Fast.tw10040677673552160836:Unit:=()
def PySem.W.Fast.tw15207860564450703741:Unit:=()
def PySem.W.Fast.tw12764840323868586133:Unit:=()
def PySem.W.Fast.tw9068240131352768260:Unit:=()
def PySem.W.Fast.tw13425593830638896509:Unit:=()
def PySem.W.Fast.tw7041460338019471305:Unit:=()
def PySem.W.Fast.tw16682345883464780619:Unit:=()
def PySem.W.Fast.tw3569464267554293931:Unit:=()
def PySem.W.Fast.tw9553830282840697631:Unit:=()
def PySem.W.Fast.tw6279756437877140849:Unit:=()
def PySem.W.Fast.tw4534345817938864406:Unit:=()
def PySem.W.Fast.tw9446951749469226744:Unit:=()
def PySem.W.Fast.tw7039066135086739245:Unit:=()
def PySem.W.Fast.tw5774541038741248065:Unit:=()
def PySem.W.Fast.tw7817400740744564041:Unit:=()
def PySem.W.Fast.tw17234342104663724361:Unit:=()
def PySem.W.Fast.tw16996365835105378549:Unit:=()
def PySem.W.Fast.tw16634003080970777433:Unit:=()
def PySem.W.Fast.tw2650966461166776072:Unit:=()
def PySem.W.Fast.tw8435707470605066046:Unit:=()
def PySem.W.Fast.tw5105365363283422812:Unit:=()
def PySem.W.Fast.tw9716390727606603017:Unit:=()
def PySem.W.Fast.tw15552978998943770717:Unit:=()
def PySem.W.Fast.tw16968032352663959075:Unit:=()
def PySem.W.Fast.tw15319414183610823033:Unit:=()
def PySem.W.Fast.tw3802138525550971101:Unit:=()
def PySem.W.Fast.tw15496939945291284441:Unit:=()
def PySem.W.Fast.tw1625272155101969801:Unit:=()
def PySem.W.Fast.tw2111524941458714731:Unit:=()
open PySem PySem.W PyProof.Rows
set_option maxRecDepth 100000 in
set_option maxHeartbeats 0 in
theorem PySem.Challenge.cw_reusewise_k37_functions_handed_on_holds : PySem.Challenge.rw_reusewise_k37_functions_handed_on.Holds := by
 w_on; o_law; k_head; (case hw=>w_witness2)
 k_fill
 refine L2.walkT (l:=PySem.Challenge.rw_reusewise_k37_functions_handed_on) (k:=44) (T:=132) (c:=136) rfl ⟨rfl,by decide,by decide⟩ rfl rfl (fun p=>rfl) (fun p=>rfl) ?F
 case F =>
  intro w mg fa h KX G hm
  refine' GN.top_ok (GN.TopK.mk ?c_Run ?a_Run_defs ?a_Run_steps ?a_Run_done ?a_Run_waiting ?a_Run_body ?a_Run_names ?a_Run_end ?c_Waiting ?a_Waiting_wants ?a_Waiting_body ?a_Waiting_names ?d_parts_of ?dt ?hcT ?n_NoValue ?v_in ?v_kp ?n_Fault ?n_ReuseError ?m_init ?x_word ?x_find ?x_hd ?x_over ?x_sa ?x_any ?x_ga ?x_ha ?x_sb ?x_kp ?x_cl ?r_sp ?r_rd ?r_fi ?k_x ?d_is_whole ?d_first_parts ?d_sizes ?d_in_bounds ?d_shape ?d_grown ?d_result_of ?d_reckoned ?d_by_name ?d_begun_with ?d_arm_of ?m_Waiting___init__ ?m_Run___init__ ?m_Run_begin_def ?m_Run_valued ?d_func_tag ?d_asked_def ?m_Run_outcome ?m_Run_call ?m_Run_ask ?m_Run_let ?m_Run_give ?m_Run_choose ?m_Run_take_arm ?m_Run_go_on ?d_run ?d__law_draw ?d__law_name ?d__law_stem ?d__law_some ?d__law_helpers ?d__law_ask ?d__law_deed ?d__law_last ?d__law_main ?d__law_joined ?d__law_call ?d__law_done ?d__law_run ?d__law_due ?d__law_same ?d_law ?z_len ?z_range ?z_isinstance ?z_int ?z_bool ?z_reversed ?z_list ?z_str ?z_tuple ?z_dict ?z_zip) KX G hm
  (case c_Run=>(refine' L2.OwnIn.mk ?n ?pg ?hd ?po ?sa ?mks ?kp; (case n=>k_is); (case pg=>k_is); (case hd=>k_is); (case po=>k_is); (case sa=>k_is); (case mks=>k_is); (case kp=>k_is)))
  (case a_Run_defs=>k_is)
  (case a_Run_steps=>k_is)
  (case a_Run_done=>k_is)
  (case a_Run_waiting=>k_is)
  (case a_Run_body=>k_is)
  (case a_Run_names=>k_is)
  (case a_Run_end=>k_is)
  (case c_Waiting=>(refine' L2.OwnIn.mk ?n ?pg ?hd ?po ?sa ?mks ?kp; (case n=>k_is); (case pg=>k_is); (case hd=>k_is); (case po=>k_is); (case sa=>k_is); (case mks=>k_is); (case kp=>k_is)))
  (case a_Waiting_wants=>k_is)
  (case a_Waiting_body=>k_is)
  (case a_Waiting_names=>k_is)
  (case d_parts_of=>(refine' L2.DdIn.mk ?a ?l ?c ?k; (case a=>k_is); (case l=>k_is); (case c=>k_is); (case k=>k_is)))
  (case dt=>(refine' L2.DtIn.mk ?a; (case a=>k_is)))
  (case hcT=>(exact rfl))
  (case n_NoValue=>k_is)
  (case v_in=>(first | kernel_rfl | rfl | decide +kernel))
  (case v_kp=>k_is)
  (case n_Fault=>k_is)
  (case n_ReuseError=>k_is)
  (case m_init=>(refine' L2.MeIn.mk ?a ?l ?c ?k ?n; (case a=>k_is); (case l=>k_is); (case c=>k_is); (case k=>k_is); (case n=>k_is)))
  (case x_word=>k_is)
  (case x_find=>k_is)
  (case x_hd=>k_is)
  (case x_over=>(first | kernel_rfl | rfl | decide +kernel))
  (case x_sa=>k_is)
  (case x_any=>(first | kernel_rfl | rfl | decide +kernel))
  (case x_ga=>k_is)
  (case x_ha=>k_is)
  (case x_sb=>k_is)
  (case x_kp=>k_is)
  (case x_cl=>(refine' L2.XcIn.mk ?a ?b ?c; (case a=>k_is); (case b=>(first | kernel_rfl | rfl | decide +kernel)); (case c=>k_is)))
  (case r_sp=>k_is)
  (case r_rd=>k_is)
  (case r_fi=>k_is)
  (case k_x=>(first | kernel_rfl | rfl | decide +kernel))
  (case d_is_whole=>(refine' L2.DfIn.mk ?a ?l ?c ?k; (case a=>k_is); (case l=>k_is); (case c=>k_is); (case k=>k_is)))
  (case d_first_parts=>(refine' L2.DfIn.mk ?a ?l ?c ?k; (case a=>k_is); (case l=>k_is); (case c=>k_is); (case k=>k_is)))
  (case d_sizes=>(refine' L2.DfIn.mk ?a ?l ?c ?k; (case a=>k_is); (case l=>k_is); (case c=>k_is); (case k=>k_is)))
  (case d_in_bounds=>(refine' L2.DfIn.mk ?a ?l ?c ?k; (case a=>k_is); (case l=>k_is); (case c=>k_is); (case k=>k_is)))
  (case d_shape=>(refine' L2.DfIn.mk ?a ?l ?c ?k; (case a=>k_is); (case l=>k_is); (case c=>k_is); (case k=>k_is)))
  (case d_grown=>(refine' L2.DfIn.mk ?a ?l ?c ?k; (case a=>k_is); (case l=>k_is); (case c=>k_is); (case k=>k_is)))
  (case d_result_of=>(refine' L2.DfIn.mk ?a ?l ?c ?k; (case a=>k_is); (case l=>k_is); (case c=>k_is); (case k=>k_is)))
  (case d_reckoned=>(refine' L2.DfIn.mk ?a ?l ?c ?k; (case a=>k_is); (case l=>k_is); (case c=>k_is); (case k=>k_is)))
  (case d_by_name=>(refine' L2.DfIn.mk ?a ?l ?c ?k; (case a=>k_is); (case l=>k_is); (case c=>k_is); (case k=>k_is)))
  (case d_begun_with=>(refine' L2.DfIn.mk ?a ?l ?c ?k; (case a=>k_is); (case l=>k_is); (case c=>k_is); (case k=>k_is)))
  (case d_arm_of=>(refine' L2.DfIn.mk ?a ?l ?c ?k; (case a=>k_is); (case l=>k_is); (case c=>k_is); (case k=>k_is)))
  (case m_Waiting___init__=>(refine' L2.MeIn.mk ?a ?l ?c ?k ?n; (case a=>k_is); (case l=>k_is); (case c=>k_is); (case k=>k_is); (case n=>k_is)))
  (case m_Run___init__=>(refine' L2.MeIn.mk ?a ?l ?c ?k ?n; (case a=>k_is); (case l=>k_is); (case c=>k_is); (case k=>k_is); (case n=>k_is)))
  (case m_Run_begin_def=>(refine' L2.MeIn.mk ?a ?l ?c ?k ?n; (case a=>k_is); (case l=>k_is); (case c=>k_is); (case k=>k_is); (case n=>k_is)))
  (case m_Run_valued=>(refine' L2.MeIn.mk ?a ?l ?c ?k ?n; (case a=>k_is); (case l=>k_is); (case c=>k_is); (case k=>k_is); (case n=>k_is)))
  (case d_func_tag=>(refine' L2.DfIn.mk ?a ?l ?c ?k; (case a=>k_is); (case l=>k_is); (case c=>k_is); (case k=>k_is)))
  (case d_asked_def=>(refine' L2.DfIn.mk ?a ?l ?c ?k; (case a=>k_is); (case l=>k_is); (case c=>k_is); (case k=>k_is)))
  (case m_Run_outcome=>(refine' L2.MeIn.mk ?a ?l ?c ?k ?n; (case a=>k_is); (case l=>k_is); (case c=>k_is); (case k=>k_is); (case n=>k_is)))
  (case m_Run_call=>(refine' L2.MeIn.mk ?a ?l ?c ?k ?n; (case a=>k_is); (case l=>k_is); (case c=>k_is); (case k=>k_is); (case n=>k_is)))
  (case m_Run_ask=>(refine' L2.MeIn.mk ?a ?l ?c ?k ?n; (case a=>k_is); (case l=>k_is); (case c=>k_is); (case k=>k_is); (case n=>k_is)))
  (case m_Run_let=>(refine' L2.MeIn.mk ?a ?l ?c ?k ?n; (case a=>k_is); (case l=>k_is); (case c=>k_is); (case k=>k_is); (case n=>k_is)))
  (case m_Run_give=>(refine' L2.MeIn.mk ?a ?l ?c ?k ?n; (case a=>k_is); (case l=>k_is); (case c=>k_is); (case k=>k_is); (case n=>k_is)))
  (case m_Run_choose=>(refine' L2.MeIn.mk ?a ?l ?c ?k ?n; (case a=>k_is); (case l=>k_is); (case c=>k_is); (case k=>k_is); (case n=>k_is)))
  (case m_Run_take_arm=>(refine' L2.MeIn.mk ?a ?l ?c ?k ?n; (case a=>k_is); (case l=>k_is); (case c=>k_is); (case k=>k_is); (case n=>k_is)))
  (case m_Run_go_on=>(refine' L2.MeIn.mk ?a ?l ?c ?k ?n; (case a=>k_is); (case l=>k_is); (case c=>k_is); (case k=>k_is); (case n=>k_is)))
  (case d_run=>(refine' L2.DfIn.mk ?a ?l ?c ?k; (case a=>k_is); (case l=>k_is); (case c=>k_is); (case k=>k_is)))
  (case d__law_draw=>(refine' L2.DfIn.mk ?a ?l ?c ?k; (case a=>k_is); (case l=>k_is); (case c=>k_is); (case k=>k_is)))
  (case d__law_name=>(refine' L2.DfIn.mk ?a ?l ?c ?k; (case a=>k_is); (case l=>k_is); (case c=>k_is); (case k=>k_is)))
  (case d__law_stem=>(refine' L2.DfIn.mk ?a ?l ?c ?k; (case a=>k_is); (case l=>k_is); (case c=>k_is); (case k=>k_is)))
  (case d__law_some=>(refine' L2.DfIn.mk ?a ?l ?c ?k; (case a=>k_is); (case l=>k_is); (case c=>k_is); (case k=>k_is)))
  (case d__law_helpers=>(refine' L2.DfIn.mk ?a ?l ?c ?k; (case a=>k_is); (case l=>k_is); (case c=>k_is); (case k=>k_is)))
  (case d__law_ask=>(refine' L2.DfIn.mk ?a ?l ?c ?k; (case a=>k_is); (case l=>k_is); (case c=>k_is); (case k=>k_is)))
  (case d__law_deed=>(refine' L2.DfIn.mk ?a ?l ?c ?k; (case a=>k_is); (case l=>k_is); (case c=>k_is); (case k=>k_is)))
  (case d__law_last=>(refine' L2.DfIn.mk ?a ?l ?c ?k; (case a=>k_is); (case l=>k_is); (case c=>k_is); (case k=>k_is)))
  (case d__law_main=>(refine' L2.DfIn.mk ?a ?l ?c ?k; (case a=>k_is); (case l=>k_is); (case c=>k_is); (case k=>k_is)))
  (case d__law_joined=>(refine' L2.DfIn.mk ?a ?l ?c ?k; (case a=>k_is); (case l=>k_is); (case c=>k_is); (case k=>k_is)))
  (case d__law_call=>(refine' L2.DfIn.mk ?a ?l ?c ?k; (case a=>k_is); (case l=>k_is); (case c=>k_is); (case k=>k_is)))
  (case d__law_done=>(refine' L2.DfIn.mk ?a ?l ?c ?k; (case a=>k_is); (case l=>k_is); (case c=>k_is); (case k=>k_is)))
  (case d__law_run=>(refine' L2.DfIn.mk ?a ?l ?c ?k; (case a=>k_is); (case l=>k_is); (case c=>k_is); (case k=>k_is)))
  (case d__law_due=>(refine' L2.DfIn.mk ?a ?l ?c ?k; (case a=>k_is); (case l=>k_is); (case c=>k_is); (case k=>k_is)))
  (case d__law_same=>(refine' L2.DfIn.mk ?a ?l ?c ?k; (case a=>k_is); (case l=>k_is); (case c=>k_is); (case k=>k_is)))
  (case d_law=>(refine' L2.DfIn.mk ?a ?l ?c ?k; (case a=>k_is); (case l=>k_is); (case c=>k_is); (case k=>k_is)))
  (case z_len=>k_is)
  (case z_range=>k_is)
  (case z_isinstance=>k_is)
  (case z_int=>k_is)
  (case z_bool=>k_is)
  (case z_reversed=>k_is)
  (case z_list=>k_is)
  (case z_str=>k_is)
  (case z_tuple=>k_is)
  (case z_dict=>k_is)
  (case z_zip=>k_is)
#print axioms PySem.Challenge.cw_reusewise_k37_functions_handed_on_holds
