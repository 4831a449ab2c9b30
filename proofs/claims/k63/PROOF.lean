import PyProof.Rows.All
import Wide.All
import OpenK.AllK
import Wide.FinOn
import Lean
import PyProof.EqAt
import PyProof.EqKinds
import PyProof.TupleCall
import PyProof.PassesOwn
import PyProof.StationsW
import OpenK.KCls
import PyProof.ExcAttrAll.ValueError
import PyProof.ExcClass3
import PyProof.WalksEnum
import PyProof.EnumMake
import PyProof.EnumFor
import PyProof.EnumStmt
import PyProof.MeetsStr
import PyProof.StrLawsTight
import PyProof.NeKinds
import PyProof.Rows.SumAny
import PyProof.SeqI3
import PyProof.ZipIter
import PyProof.WalksMore
import PyProof.ListNew
import KE.KLam
import KE.KNestM
import KE.KRevIter
import PyProof.AutoSeq1
import PyProof.FactsAll.list
import KE.KIntText
import PyProof.IsRules
import KE.KItemsList
import PyProof.StrBlockL
import PyProof.StrBlockI
import PyProof.StrBlock2
import PyProof.StrLawsIn
import PyProof.StrLawsChain
import PyProof.Rows.StrLast
import PyProof.Rows.StrItems
import KE.IntTextText
import KE.KDictList
import PyProof.IsiTupleOf
import KE.KDictSum
import PyProof.Rows.SortWalk
import KE.KDictOf
import PyProof.Draws
import PyProof.DictWalks
import PyProof.AttrMissHeap
import PyProof.Walks
import PyProof.FString
import KE.KEqDict
import PyProof.MinMaxWalk
import PySem.Challenge.RW_reusewise_k63_used_up_at_once
set_option Elab.async false
set_option linter.all false
set_option maxRecDepth 100000
set_option maxHeartbeats 4000000
open List renaming length_map → ua, length_append → ub, getElem?_eq_some_iff → uf, getElem?_map → ug, mem_append_right → uh, map_append → ui, mem_append_left → uk, mem_cons → um, length_cons → uo, getElem?_eq_getElem → uq, size_toArray → ut, map_cons → uu, mem_append → uv, mem_of_getElem? → uw, take_of_length_le → uz, mem_singleton → uB, mem_map → uG, take_add_one → uJ, length_take → uM, any_cons → uO, nodup_cons → uS, sum_cons → uW, getElem?_append_left → uX, getElem?_append_right → uY, length_reverse → u6, not_mem_nil → Uc, lookup_cons → Ug, length_singleton → Ui, append_assoc → Um, length_eq_zero_iff → Uo, mem_cons_of_mem → Up, append_nil → Uq, any_append → Ur, mem_cons_self → Uv, range → Uw, replicate → Ux, flatMap_cons → Uz, length_replicate → UA, lookup → UF, any_eq_true → UG, length_eraseIdx_of_lt → UH, getD_eq_getElem?_getD → UI, all_cons → UJ, eraseIdxIfInBounds_toArray → UK, all_eq_true → UM, of_mem_zip → UO, find?_cons → UP, any_eq_false → UQ, length_pos_iff → UU
open PySem.W renaming Frag → uc, keepIn → uP, findIn → uT, fnOf → uZ, mg_none_of → Ue, codeHdIn → Uh, nsIn → Ul, emptyDict → Us, codeIn → Uy, instObj → UC, plainGet → US, mg_of → UV, callWith_K → UX
open Nat renaming le_refl → ud, lt_of_lt_of_le → uC, le_trans → uD, ne_of_lt → uK, zero_le → uN, mul_le_mul_right → uU, lt_succ_self → Uf, lt_irrefl → Ut, pow_le_pow_right → UB, not_le_of_gt → UN, lt_of_le_of_lt → UY, one_le_two_pow → UZ, mul_add → U0
open PySem.Heap renaming get?_push_of_some → ue, get?_push_size → ux, lt_size → uy, size_push → Uu
open Option renaming map_eq_some_iff → uj, some → u9
open PySem.F renaming plainAttrs_list → ur, slot_list_append → uE, type_list_append → uF, slot_list_pop → Uj, type_list_pop → Uk
open Bool renaming false_ne_true → uA, or_eq_false_iff → uH, and_eq_true → uQ, false_or → uV, true_or → UE, false_and → UR, true_and → UW
open PyProof.Rows renaming boot_tuple → uI, slot_tuple_getitem → Ub, boot_list → Ud, callWith_type1 → UD
open PySem.Builtin.SmallTypes renaming nextOf → uL, ownedTupleIsFree → uR, ownedTupleHandOut → UT
open PySem renaming mem_of_lookup → u0, sizeLine → UL
open Int renaming toNat_natCast → Ua
abbrev L2.lS0:List PySem.Str:=["_law_state","_law_mine","_law_lent","_law_k","_law_room","_law_world_here"]
abbrev L2.lS1:List PySem.Str:=["_law_body_here","_law_token"]
abbrev L2.lS2:List PySem.Str:=["_law_body_here","_law_token","_law_many","_law_free"]
abbrev L2.lS3:List PySem.Str:=["_law_state","_law_many"]
abbrev L2.lS4:List PySem.Str:=["_law_state","_law_mine","_law_lent","_law_k","_law_room","_law_world_here","_law_one"]
abbrev L2.lS5:List PySem.Str:=["_law_body_here","_law_many","_law_free"]
abbrev L2.lS6:List PySem.Str:=["_law_state","_law_mine","_law_k","_law_tag","_law_size","_law_world_here"]
abbrev L2.lS7:List PySem.Str:=["_law_world_here","_law_k"]
abbrev L2.lS8:List PySem.Str:=["_law_state","_law_mine","_law_many"]
abbrev L2.lS9:List PySem.Str:=["_law_state","_law_mine","_law_name_here"]
abbrev L2.lS10:List PySem.Str:=["_law_deed_here","_law_many","_law_free"]
abbrev L2.lS11:List PySem.Str:=["_law_body_here","_law_tokens"]
abbrev L2.lS12:List PySem.Str:=["_law_state","_law_mine","_law_lent","_law_world_here"]
abbrev L2.lS13:List PySem.Str:=["_law_state","_law_mine","_law_k","_law_world_here"]
abbrev L2.lS14:List PySem.Str:=["_law_state","_law_mine","_law_lent","_law_one"]
abbrev L2.lS15:List PySem.Str:=["_law_state","_law_world_here","_law_room"]
abbrev L2.lS16:List PySem.Str:=["token","body","results"]
abbrev L2.lS17:List PySem.Str:=["token","many","body"]
abbrev L2.lS18:List PySem.Str:=["body","within"]
abbrev L2.lS19:List PySem.Str:=["self","within","finish"]
abbrev L2.lS20:List PySem.Str:=["tokens","body"]
abbrev L2.lS21:List PySem.Str:=["task","begin"]
abbrev L2.lS22:List PySem.Str:=["body","many"]
theorem L2.sN0:0<=UL:=by decide
theorem L2.sN1:1<=UL:=by decide
theorem L2.sN2:2<=UL:=by decide
theorem L2.sN3:3<=UL:=by decide
theorem L2.sN4:4<=UL:=by decide
theorem L2.sN5:5<=UL:=by decide
theorem L2.sN6:6<=UL:=by decide
namespace L2
open PySem PySem.Spec PyProof.Rows
abbrev Key:=Sum Int Str
def wY:Key->Value->Bool
 |.inl k,v=>Value.isInt k v
 |.inr x,v=>Value.isStrOf x v
def keyH(w:World):Key->Int
 |.inl k=>hashInt k
 |.inr x=>hashStr w x
theorem zQ:∀{k:Key}{v:Value},wY k v=true->(∃i t,k=Sum.inl i/\v=Value.int i t)\/(∃x t,k=Sum.inr x/\v=Value.str x t)
 |.inl i,v,h=>by
  obtain⟨t,e⟩:=Value.isInt_shape (k:=i) (v:=v) h
  exact .inl ⟨i,t,rfl,e⟩
 |.inr x,v,h=>by
  obtain⟨t,e⟩:=Value.isStrOf_shape (x:=x) (v:=v) h
  exact .inr ⟨x,t,rfl,e⟩
theorem Xi(i:Int)(t:Tok):wY (.inl i) (.int i t)=true:=by simp[wY,Value.isInt]
theorem Xj(x:Str)(t:Tok):wY (.inr x) (.str x t)=true:=by simp[wY,Value.isStrOf]
theorem zac(a b:Int):decide ((Sum.inl a:Key)=Sum.inl b)=(a == b):=by
 by_cases e:a=b
 ·subst e;simp
 ·have h:¬ (Sum.inl a:Key)=Sum.inl b:=fun q=>e (Sum.inl.inj q)
  rw[decide_eq_false h]
  exact(beq_eq_false_iff_ne.mpr e).symm
theorem zad(a b:Str):decide ((Sum.inr a:Key)=Sum.inr b)=decide (a=b):=by
 by_cases e:a=b
 ·subst e;simp
 ·have h:¬ (Sum.inr a:Key)=Sum.inr b:=fun q=>e (Sum.inr.inj q)
  rw[decide_eq_false h,decide_eq_false e]
theorem zae(a:Int)(b:Str):decide ((Sum.inl a:Key)=Sum.inr b)=false:=decide_eq_false (fun q=>nomatch q)
theorem zaf(a:Str)(b:Int):decide ((Sum.inr a:Key)=Sum.inl b)=false:=decide_eq_false (fun q=>nomatch q)
def zZ(prog:Program)(w:World):PySem.KeyKind prog w Key where
 is:=wY
 hash:=keyH w
 inj:=fun v a b ha hb=>by
  rcases zQ ha with⟨i,t,rfl,rfl⟩|⟨x,t,rfl,rfl⟩
  ·rcases zQ hb with⟨j,u,rfl,e⟩|⟨y,u,rfl,e⟩
   ·injection e with e1 _;rw[e1]
   ·exact nomatch e
  ·rcases zQ hb with⟨j,u,rfl,e⟩|⟨y,u,rfl,e⟩
   ·exact nomatch e
   ·injection e with e1 _;rw[e1]
 byValue:=fun k v h=>by
  rcases zQ h with⟨i,t,rfl,rfl⟩|⟨x,t,rfl,rfl⟩<;>rfl
 pyHash:=fun hv h=>by
  rcases zQ hv with⟨i,t,rfl,rfl⟩|⟨x,t,rfl,rfl⟩
  ·exact wpAny_pyHash_int h
  ·exact wpAny_pyHash_str h
 eqBool:=fun hu hv h=>by
  rcases zQ hu with⟨i,t,rfl,rfl⟩|⟨x,t,rfl,rfl⟩
  ·rcases zQ hv with⟨j,u,rfl,rfl⟩|⟨y,u,rfl,rfl⟩
   ·rw[zac]at h;exact wpAny_eqBool_int h
   ·rw[zae]at h;exact SeqAt.EqAt.int_str i t y u _ _ _ _ h
  ·rcases zQ hv with⟨j,u,rfl,rfl⟩|⟨y,u,rfl,rfl⟩
   ·rw[zaf]at h;exact SeqAt.EqAt.str_int x t j u _ _ _ _ h
   ·rw[zad]at h;exact wpAny_eqBool_str h
 «strs»:=fun k x t v h=>by
  rcases zQ h with⟨i,u,rfl,e⟩|⟨y,u,rfl,e⟩
  ·exact nomatch e
  ·injection e with e1 _
   subst e1
   cases v<;>rfl
theorem ZM(prog:Program)(w:World)(k:Key)(v:Value):(zZ prog w).is k v=wY k v:=rfl
theorem j8(prog:Program)(w:World)(i:Int)(t:Tok):(zZ prog w).is (.inl i) (.int i t)=true:=Xi i t
theorem j9(prog:Program)(w:World)(x:Str)(t:Tok):(zZ prog w).is (.inr x) (.str x t)=true:=Xj x t
inductive V where
 |non|bl (b:Bool)|int (i:Int)|str (x:Str)|byt (b:Array UInt8)|flt (b:UInt64)|ref (a:Addr)|ty (n:String)
 deriving DecidableEq
def RelV:V->Value->Prop
 |.non,u=>u=Value.none
 |.bl b,u=>u=Value.bool b
 |.int i,u=>∃t,u=Value.int i t
 |.str x,u=>∃t,u=Value.str x t
 |.byt b,u=>∃t,u=Value.bytes b t
 |.flt b,u=>∃t,u=Value.float b t
 |.ref a,u=>u=Value.ref a
 |.ty n,u=>u=Value.type n
abbrev Vals:List V->List Value->Prop:=Paired RelV
theorem Vals.length{xs:List V}{us:List Value}(r:Vals xs us):xs.length=us.length:=Paired.length r
theorem Vals.get:∀{xs:List V}{us:List Value}{i:Nat}{x:V},Vals xs us->xs[i]?=some x->∃u,us[i]?=some u/\RelV x u
 |_,_,_,_,.nil,e=>by simp at e
 |_,_,0,_,.cons r _,e=>by simp at e;subst e;exact⟨_,rfl,r⟩
 |_,_,i+1,x,.cons _ t,e=>by
  obtain⟨u,h1,h2⟩:=Vals.get (i:=i) (x:=x) t (by simpa using e)
  exact⟨u,by simpa using h1,h2⟩
theorem Vals.set{x:V}{u:Value}(r:RelV x u):∀{xs:List V}{us:List Value}(i:Nat),Vals xs us->Vals (xs.set i x) (us.set i u)
 |_,_,_,.nil=>.nil
 |_,_,0,.cons _ t=>.cons r t
 |_,_,i+1,.cons q t=>.cons q (Vals.set r i t)
theorem Vals.append:∀{xs ys:List V}{us ws:List Value},Vals xs us->Vals ys ws->Vals (xs++ys) (us++ws)
 |_,_,_,_,.nil,s=>s
 |_,_,_,_,.cons r t,s=>.cons r (Vals.append t s)
theorem Vals.take:∀{xs:List V}{us:List Value}(n:Nat),Vals xs us->Vals (xs.take n) (us.take n)
 |_,_,0,_=>.nil
 |_,_,_+1,.nil=>.nil
 |_,_,n+1,.cons r t=>.cons r (Vals.take n t)
theorem Vals.drop:∀{xs:List V}{us:List Value}(n:Nat),Vals xs us->Vals (xs.drop n) (us.drop n)
 |_,_,0,r=>r
 |_,_,_+1,.nil=>.nil
 |_,_,n+1,.cons _ t=>Vals.drop n t
def RelO:Option V->Option Value->Prop
 |some v,some u=>RelV v u
 |none,none=>True
 |_,_=>False
def KV{κ:Type}:List (κ×V)->List (κ×Value)->Prop:=Paired fun(p:κ×V)(q:κ×Value)=>p.1=q.1/\RelV p.2 q.2
def kV:Key->V
 |.inl i=>.int i
 |.inr x=>.str x
inductive HO where
 |lst (xs:List V)
 |tup (xs:List V)
 |dK (kvs:List (Key×V))|dT (kvs:List (List Key×V))
 |set (S:Int->Bool) (n:Nat)
 |ins (C dx:Addr) (fs:List (Str×V))
 |own (x:Addr)
 |xd (fs:List (Str×V))
 |met (f x:Addr)
 |rng (lo hi:Int)
 |frz (o:Obj) (u:HO)
 |tbl (ps:Array Value)
 |ext (φ:Heap->Prop)
abbrev Hp:=Addr->Option HO
def upd(H:Hp)(a:Addr)(o:HO):Hp:=fun b=>if b=a then some o else H b
theorem zf{H:Hp}{a:Addr}{o:HO}:upd H a o a=some o:=by unfold upd;rw[if_pos rfl]
theorem zi{H:Hp}{a b:Addr}{o:HO}(h:b≠a):upd H a o b=H b:=by unfold upd;rw[if_neg h]
theorem xh{H:Hp}{a b:Addr}{o u:HO}(h:H a=some o)(h':H b=some u)(d:o≠u):a≠b:=by
 intro e;subst e;rw[h]at h';exact d (u9.inj h')
theorem zk{H:Hp}{a b:Addr}{o:HO}(h:H a=some o)(h':H b=none):a≠b:=by
 intro e;subst e;rw[h]at h';cases h'
def IsTupN(h:Heap)(a:Addr)(items:Array Value):Prop:=∃o,h.get? a=some o/\o.cls=.type "tuple"/\o.dict=none/\∃n,o.data=.seq items n
theorem IsTupN.is{h:Heap}{a:Addr}{items:Array Value}(x:IsTupN h a items):IsTup h a items:=let ⟨o,a,b,_,c⟩:=x;⟨o,a,b,c⟩
theorem IsTupN.new(h:Heap)(items:Array Value):IsTupN (h.push { cls:=.type "tuple",data:=.seq items }) h.objs.size items:=⟨_,ux _ rfl,rfl,rfl,_,rfl⟩
section
variable(P:Program)(w:World)
def ObjOk(H:Hp)(h:Heap)(a:Addr):HO->Prop
 |.lst xs=>xs.length<=sizeLine/\∃(its:List Value)(n:Nat),Vals xs its/\h.get? a=some { cls:=.type "list",data:=.seq its.toArray n }
 |.tup xs=>xs.length<=sizeLine/\∃its:List Value,Vals xs its/\IsTupN h a its.toArray
 |.dK kvs=>kvs.length<=sizeLine/\(a == sysModules)=false/\∃vs,KV kvs vs/\h.DictOf (zZ P w) a vs
 |.dT kvs=>kvs.length<=sizeLine/\(a == sysModules)=false/\∃xs:List (List Key×Addr×Value),
   Paired (fun(p:List Key×V)(q:List Key×Addr×Value)=>p.1=q.1/\H q.2.1=some (.tup (p.1.map kV))/\RelV p.2 q.2.2) kvs xs /\
   ∃o es ep,h.get? a=some o/\o.ExactDict/\o.data=.dict es ep/\es.toList=xs.map (entryOfKey (tupleKind (zZ P w)))/\(xs.map (·.1)).Nodup
 |.set S n=>h.SetOf (intKind P w) a S n
 |.ins C dx fs=>H dx=some (.own a)/\fs.length<=1000/\dx≠a/\h.get? a=some (UC C dx) /\
   ∃mA,h.Ns1 dx mA/\(∀f,RelO (fs.lookup f) (mA f))/\PySem.Within mA (fs.map (·.1))
 |.own _=>∃o,h.get? a=some o
 |.xd fs=>∃mA,h.Ns1 a mA/\∀f,RelO (fs.lookup f) (mA f)
 |.rng lo hi=>∃t u v,h.get? a=some { cls:=.type "range",data:=.fields #[.int lo t,.int hi u,.int 1 v] }
 |.frz o u=>h.get? a=some o/\ObjOk H h a u
 |.tbl ps=>h.get? a=some { cls:=.none,data:=.fields ps }
 |.met f x=>h.get? a=some (PySem.W.methodObj (.ref f) (.ref x))
 |.ext φ=>φ h/\(∃o,h.get? a=some o)/\∀h1 h2:Heap,φ h1->(∀o,h1.get? a=some o->h2.get? a=some o)->φ h2
def HOk(H:Hp)(h:Heap):Prop:=∀a o,H a=some o->ObjOk P w H h a o
end
section
variable{P:Program}{w:World}{H H':Hp}{h h':Heap}{a:Addr}{o:HO}
theorem ObjOk.lt(x:ObjOk P w H h a o):a < h.objs.size:=by
 cases o with
 |lst xs=>obtain⟨_,_,_,_,e⟩:=x;exact uy e
 |tup xs=>obtain⟨_,_,_,p⟩:=x;exact p.is.lt
 |dK kvs=>obtain⟨_,_,_,_,o,_,_,e,_⟩:=x;exact uy e
 |dT kvs=>obtain⟨_,_,_,_,o,_,_,e,_⟩:=x;exact uy e
 |set S n=>obtain⟨o,_,_,_,e,_⟩:=x;exact uy e
 |ins C dx fs=>obtain⟨_,_,_,e,_⟩:=x;exact uy e
 |own y=>obtain⟨_,e⟩:=x;exact uy e
 |xd fs=>obtain⟨_,⟨_,_,_,e,_⟩,_⟩:=x;exact uy e
 |rng lo hi=>obtain⟨_,_,_,e⟩:=x;exact uy e
 |frz ob u=>obtain⟨e,_⟩:=x;exact uy e
 |tbl ps=>exact uy (show h.get? a=some _ from x)
 |met f y=>exact uy (show h.get? a=some _ from x)
 |ext φ=>obtain⟨_,⟨_,e⟩,_⟩:=x;exact uy e
theorem Paired.mapP{α β:Type}{F G:α->β->Prop}:∀{l₁:List α}{l₂:List β},Paired F l₁ l₂->(∀a b,F a b->G a b)->Paired G l₁ l₂
 |_,_,.nil,_=>.nil
 |_,_,.cons r t,f=>.cons (f _ _ r) (Paired.mapP t f)
theorem ObjOk.stay(x:ObjOk P w H h a o)(k:∀b u,(b=a\/H b=some (.own a))->h.get? b=some u->h'.get? b=some u)
  (ho:∀b,H b=some (.own a)->H' b=some (.own a)) (ht:∀b xs,H b=some (.tup xs)->H' b=some (.tup xs)):ObjOk P w H' h' a o:=by
 induction o with
 |lst xs=>obtain⟨z,its,n,r,e⟩:=x;exact⟨z,its,n,r,k _ _ (.inl rfl) e⟩
 |tup xs=>obtain⟨z,its,r,ob,e,c⟩:=x;exact⟨z,its,r,ob,k _ _ (.inl rfl) e,c⟩
 |dK kvs=>obtain⟨z,y,vs,r,ob,es,ep,e,c⟩:=x;exact⟨z,y,vs,r,ob,es,ep,k _ _ (.inl rfl) e,c⟩
 |dT kvs =>
  obtain⟨z,y,xs,r,ob,es,ep,e,c⟩:=x
  exact⟨z,y,xs,Paired.mapP r fun p q z=>⟨z.1,ht _ _ z.2.1,z.2.2⟩,ob,es,ep,k _ _ (.inl rfl) e,c⟩
 |set S n=>obtain⟨ob,es,ep,t,e,c⟩:=x;exact⟨ob,es,ep,t,k _ _ (.inl rfl) e,c⟩
 |ins C dx fs =>
  obtain⟨d,z,ne,e,mA,⟨od,es,ep,e2,c⟩,r⟩:=x
  exact⟨ho _ d,z,ne,k _ _ (.inl rfl) e,mA,⟨od,es,ep,k _ _ (.inr d) e2,c⟩,r⟩
 |own y=>obtain⟨ob,e⟩:=x;exact⟨ob,k _ _ (.inl rfl) e⟩
 |xd fs=>obtain⟨mA,⟨od,es,ep,e,c⟩,r⟩:=x;exact⟨mA,⟨od,es,ep,k _ _ (.inl rfl) e,c⟩,r⟩
 |rng lo hi=>obtain⟨t,u,v,e⟩:=x;exact⟨t,u,v,k _ _ (.inl rfl) e⟩
 |frz ob u ih=>obtain⟨e,q⟩:=x;exact⟨k _ _ (.inl rfl) e,ih q⟩
 |tbl ps =>
  have e:h.get? a=some { cls:=.none,data:=.fields ps }:=x
  show h'.get? a=some { cls:=.none,data:=.fields ps }
  exact k a _ (.inl rfl) e
 |met f y =>
  have e:h.get? a=some (PySem.W.methodObj (.ref f) (.ref y)):=x
  show h'.get? a=some (PySem.W.methodObj (.ref f) (.ref y))
  exact k a _ (.inl rfl) e
 |ext φ=>obtain⟨p,⟨o,e⟩,st⟩:=x;exact⟨st _ _ p fun o q=>k _ _ (.inl rfl) q,⟨o,k _ _ (.inl rfl) e⟩,st⟩
theorem HOk.lt(x:HOk P w H h)(e:H a=some o):a < h.objs.size:=(x a o e).lt
theorem HOk.fresh(x:HOk P w H h)(e:h.objs.size<=a):H a=none:=by
 cases q:H a with
 |none=>rfl
 |some u=>exact absurd (uC (x.lt q) e) (Ut _)
theorem HOk.kept(x:HOk P w H h)(k:∀b u,h.get? b=some u->h'.get? b=some u):HOk P w H h':=fun a o e =>
 (x a o e).stay (fun b u _ q=>k b u q) (fun _ q=>q) fun _ _ q=>q
theorem HOk.laid(x:HOk P w H h)(k:∀b u,h.get? b=some u->h'.get? b=some u)(hp:h.objs.size<=a)(new:ObjOk P w (upd H a o) h' a o):HOk P w (upd H a o) h':=fun b u e=>by
 have hn:=x.fresh hp
 by_cases hb:b=a
 ·subst hb;rw[zf]at e;cases e;exact new
 ·rw[zi hb]at e
  exact(x b u e).stay (fun c v _ q=>k c v q) (fun c q=>by rw[zi (zk q hn)];exact q) fun c xs q=>by rw[zi (zk q hn)];exact q
end
def Rd(H:Hp)(a:Addr)(u:HO):Prop:=H a=some u\/∃o,H a=some (.frz o u)
theorem Rd.ok{P:Program}{w:World}{H:Hp}{h:Heap}{a:Addr}{u:HO}(r:Rd H a u)(x:HOk P w H h):ObjOk P w H h a u:=by
 rcases r with r|⟨o,r⟩
 ·exact x a u r
 ·obtain⟨_,q⟩:=x a _ r
  exact q
def Mut:Option HO->Prop
 |some (.lst _)=>True
 |some (.dK _)=>True
 |some (.dT _)=>True
 |some (.set _ _)=>True
 |some (.ins _ _ _)=>True
 |some (.ext _)=>True
 |_=>False
section
variable{P:Program}{w:World}{H:Hp}{h h':Heap}{x e:Addr}{o':HO}
theorem HOk.write(ok:HOk P w H h)(mu:Mut (H x))(he:e=x\/H e=some (.own x))(k:∀b u,b≠e->h.get? b=some u->h'.get? b=some u)(heo:∃u,h'.get? e=some u)
  (new:ObjOk P w (upd H x o') h' x o'):HOk P w (upd H x o') h':=fun b u q=>by
 have nown:∀c y,H c=some (.own y)->c≠x:=fun c y r z=>by subst z;rw[r]at mu;exact mu
 have ntup:∀c xs,H c=some (.tup xs)->c≠x:=fun c xs r z=>by subst z;rw[r]at mu;exact mu
 by_cases hb:b=x
 ·subst hb;rw[zf]at q;cases q;exact new
 ·rw[zi hb]at q
  by_cases hbe:b=e
  ·have q':H b=some (.own x):=by
    rcases he with z|z
    ·exact absurd (hbe.trans z) hb
    ·rw[hbe];exact z
   rw[q]at q';cases q'
   obtain⟨v,hv⟩:=heo
   exact⟨v,by rw[hbe];exact hv⟩
  ·refine(ok b u q).stay (fun c v hc r=>k c v ?_ r) (fun c r=>by rw[zi (nown c b r)];exact r) fun c xs r=>by rw[zi (ntup c xs r)];exact r
   rcases hc with rfl|hc
   ·exact hbe
   ·rintro rfl
    rcases he with z|z
    ·exact nown c b hc z
    ·rw[hc]at z;cases z;exact hb rfl
end
structure Un(fs ex:List Addr)(H H':Hp)(h h':Heap):Prop where
 keep:∀b o,h.get? b=some o->H b=none->b∉fs->b∉ex->h'.get? b=some o
 slot:∀b o,h.get? b=some o->H b=none->b∈fs->b∉ex->∃sl,h'.get? b=some { o with slots:=sl }
 free:∀b o,h.get? b=some o->H b=none->b∉ex->H' b=none
 there:∀b o,h.get? b=some o->b∉ex->∃o',h'.get? b=some o'
 tups:∀b xs,H b=some (.tup xs)->H' b=some (.tup xs)
 frzs:∀b o u,H b=some (.frz o u)->H' b=some (.frz o u)
 tbls:∀b ps,H b=some (.tbl ps)->∃more,H' b=some (.tbl (ps++more))
section
variable{fs fs' ex ex':List Addr}{H H1 H2:Hp}{h h1 h2 h':Heap}{a x e:Addr}{o:HO}
theorem Un.any(u:Un fs ex H H1 h h1){b:Addr}{ob:Obj}(q:h.get? b=some ob)(n:H b=none)(hx:b∉ex):∃sl,h1.get? b=some { ob with slots:=sl }:=by
 by_cases hb:b∈fs
 ·exact u.slot b ob q n hb hx
 ·exact⟨ob.slots,u.keep b ob q n hb hx⟩
theorem Un.kept(k:∀b u,h.get? b=some u->h'.get? b=some u):Un fs ex H H h h' :=
 ⟨fun b ob q _ _ _=>k b ob q,fun b ob q _ _ _=>⟨ob.slots,k b ob q⟩,fun _ _ _ n _=>n,fun b ob q _=>⟨ob,k b ob q⟩,fun _ _ q=>q,fun _ _ _ q=>q,fun _ ps q=>⟨#[],by rw[q];simp⟩⟩
theorem Un.refl:Un fs ex H H h h:=Un.kept fun _ _ q=>q
theorem Un.laid(k:∀b u,h.get? b=some u->h'.get? b=some u)(hp:h.objs.size<=a)(hn:H a=none):Un fs ex H (upd H a o) h h' where
 keep:=fun b u q _ _ _=>k b u q
 slot:=fun b u q _ _ _=>⟨u.slots,k b u q⟩
 free:=fun b u q n _=>by rw[zi (uK (uC (uy q) hp))];exact n
 there:=fun b u q _=>⟨u,k b u q⟩
 tups:=fun b xs q=>by rw[zi (zk q hn)];exact q
 frzs:=fun b u xs q=>by rw[zi (zk q hn)];exact q
 tbls:=fun b ps q=>⟨#[],by rw[zi (zk q hn),q];simp⟩
theorem Un.write(mu:Mut (H x))(he:e=x\/H e=some (.own x))(k:∀b u,b≠e->h.get? b=some u->h'.get? b=some u)(heo:∃u,h'.get? e=some u):Un fs ex H (upd H x o) h h':=by
 have hx:∀b,H b=none->b≠x:=fun b n z=>by subst z;rw[n]at mu;exact mu
 have hb:∀b,H b=none->b≠e:=fun b n z=>by
  subst z
  rcases he with r|r
  ·exact hx b n r
  ·rw[n]at r;cases r
 have hm:∀b u,H b=some u->¬ Mut (some u)->b≠x:=fun b u q nm z=>by subst z;rw[q]at mu;exact nm mu
 refine⟨fun b u q n _ _=>k b u (hb b n) q,fun b u q n _ _=>⟨u.slots,k b u (hb b n) q⟩,fun b u q n _=>by rw[zi (hx b n)];exact n,fun b u q _=>?_,
  fun b xs q=>by rw[zi (hm b _ q fun z=>z)];exact q,fun b u xs q=>by rw[zi (hm b _ q fun z=>z)];exact q,fun b ps q=>⟨#[],by rw[zi (hm b _ q fun z=>z),q];simp⟩⟩
 by_cases hbe:b=e
 ·subst hbe;exact heo
 ·exact⟨u,k b u hbe q⟩
end
def trk(h:Heap)(H:Hp):List Addr:=(Uw h.objs.size).filter fun a=>(H a).isSome
def hidT(h:Heap)(H:Hp):Heap:=PySem.W.hideAll h (trk h H)
theorem Xk(h:Heap)(H:Hp):(hidT h H).objs.size=h.objs.size:=PySem.W.hideAll_size _ _
theorem XU{h:Heap}{H:Hp}{b:Addr}{o:Obj}(e:h.get? b=some o)(n:H b=none):(hidT h H).get? b=some o :=
 PySem.W.hideAll_get _ e fun hm=>by
  have q:(H b).isSome=true:=(List.mem_filter.mp hm).2
  rw[n]at q;simp at q
theorem V7{h:Heap}{H:Hp}{b:Addr}{o:Obj}(e:(hidT h H).get? b=some o):h.get? b=some o/\H b=none:=by
 have e':h.get? b=some o:=PySem.W.of_hideAll (trk h H) e
 refine⟨e',?_⟩
 cases q:H b with
 |none=>rfl
 |some x =>
  have hm:b∈trk h H:=List.mem_filter.mpr ⟨List.mem_range.mpr (uy e'),by simp[q]⟩
  have z:(hidT h H).get? b=none:=PySem.W.hideAll_none (trk h H) hm
  rw[z]at e;cases e
def V8(g h:Heap)(L:Addr):List (Addr×Obj):=(Uw h.objs.size).filterMap fun a=>if a=L\/(g.get? a).isSome=true then none else(h.get? a).map fun o=>(a,o)
def rest(g h:Heap)(L d:Addr):List (Addr×Obj):=(V8 g h L).filter fun p=>decide (p.1≠d)
structure Mod(K:uc)(mg:Str->Option Value)(base:Heap):Prop where
 kin:K.In base
 glob:base.Ns mainGlobals mg
 blt:∃mb,base.Ns builtinsNs mb/\∀x:Str,x≠"__name__"->mb x=bootBuiltins x
 nolimit:base.NoLimit
structure Cx where
 prog:Program
 w:World
 K:uc
 mg:Str->Option Value
 base:Heap
 A:Around
 N:List Str
 s₀:Shared
 H₀:Hp
 env:Env
 outer:List Env
 stack:List Env
 ex:List Addr
 fn:Str->Bool
 calm:Bool
 pn:List (Addr×Obj)
 xe:Value->Shared->Prop
def frs(l:List Env):List Addr:=l.filterMap (·.frame)
abbrev Cx.fs(X:Cx):List Addr:=frs X.outer
def Vis(sc:Scope)(x:Str):Prop:=sc.names.lookup x=some .local\/sc.names.lookup x=some .cell\/sc.names.lookup x=some .free
def Loc(sc:Scope)(x:Str):Prop:=sc.names.lookup x=some .local\/sc.names.lookup x=some .cell
def Look(env:Env)(h:Heap)(m:Str->Option Value)(x:Str)(u:Value):Prop :=
 (env.kindOf x=some .local/\m x=some u)\/((env.kindOf x=some .cell\/env.kindOf x=some .free)/\∃c,env.cells.lookup x=some c/\h.IsCell c (some u))
structure Cx.Ok(X:Cx):Prop where
 mod:Mod X.K X.mg X.base
 kind:X.env.scope.kind=.function
 glob:X.env.globals=mainGlobals
 blt:X.env.builtins=builtinsNs
 above:X.s₀.heap.objs.size<=X.env.locals
 inj:∀x y c,X.env.cells.lookup x=some c->X.env.cells.lookup y=some c->x=y
 has:∀x,(X.env.kindOf x=some .cell\/X.env.kindOf x=some .free)->∃c,X.env.cells.lookup x=some c
 cab:∀x c,X.fn x=true->X.env.cells.lookup x=some c->X.s₀.heap.objs.size<=c
 hd:X.calm=true->X.A.handled=none
 frames:X.A.frames=some X.stack
 stk:X.stack=X.outer\/(X.stack=X.env::X.outer/\X.env.frame=some X.env.locals)
 exf:∀b∈X.ex,b≠X.env.locals/\∀x c,X.env.cells.lookup x=some c->c≠b
 bs:∀b o,X.base.get? b=some o->X.s₀.heap.get? b=some o/\X.H₀ b=none
 bsz:X.base.objs.size<=X.s₀.heap.objs.size
 noex:∀b o,X.base.get? b=some o->b∉X.ex
 exfs:∀b∈X.ex,b∉X.fs
 funs:X.s₀.heap.FunFrames X.base X.outer
 frf:∀b∈X.fs,X.H₀ b=none
structure Inv(X:Cx)(pins:List (Addr×Obj))(σ:List (Option V))(H:Hp)(s:Shared):Prop where
 ok:X.Ok
 os:s.os=X.s₀.os
 bare:AllBare s.gens
 base:Un X.fs X.ex X.H₀ H X.s₀.heap s.heap
 loc:∃m,s.heap.Ns X.env.locals m/\∀(i:Nat)(x:Str)(v:V),X.N[i]?=some x->σ[i]?=some (some v)->Vis X.env.scope x->∃u,RelV v u/\Look X.env s.heap m x u
 cell:∀x c,X.env.cells.lookup x=some c->∃v,s.heap.IsCell c v
 free:H X.env.locals=none
 freeC:∀x c,X.env.cells.lookup x=some c->H c=none
 pin:∀p∈X.pn++pins,s.heap.get? p.1=some p.2/\H p.1=none/\p.1≠X.env.locals/\p.1∉X.fs/\∀v,p.2.data≠.cell v
 hok:HOk X.prog X.w H s.heap
 len:σ.length=X.N.length
section
variable{X:Cx}{pins:List (Addr×Obj)}{σ:List (Option V)}{H H':Hp}{s:Shared}{h':Heap}
theorem Cx.Ok.nofr(ok:X.Ok){b:Addr}{o:Obj}(e:X.base.get? b=some o):b∉X.fs:=fun hb=>by
 have:=(ok.funs.mem hb).1
 rw[e]at this;cases this
theorem Inv.bs(I:Inv X pins σ H s):∀b o,X.base.get? b=some o->s.heap.get? b=some o/\H b=none:=fun b o e =>
 ⟨I.base.keep b o (I.ok.bs b o e).1 (I.ok.bs b o e).2 (I.ok.nofr e) (I.ok.noex b o e),I.base.free b o (I.ok.bs b o e).1 (I.ok.bs b o e).2 (I.ok.noex b o e)⟩
theorem Inv.bk(I:Inv X pins σ H s):∀b o,X.base.get? b=some o->s.heap.get? b=some o:=fun b o e=>(I.bs b o e).1
theorem Inv.mod(I:Inv X pins σ H s):Mod X.K X.mg X.base:=I.ok.mod
theorem Inv.kIn(I:Inv X pins σ H s):X.K.In s.heap:=I.ok.mod.kin.keeps I.bk
theorem Inv.lt(I:Inv X pins σ H s):X.env.locals < s.heap.objs.size:=let ⟨_,hn,_⟩:=I.loc;hn.lt
theorem Inv.sz(I:Inv X pins σ H s):X.s₀.heap.objs.size<=s.heap.objs.size:=uD I.ok.above (Nat.le_of_lt I.lt)
theorem Inv.nofs(I:Inv X pins σ H s){a:Addr}(h:s.heap.objs.size<=a):a∉X.fs:=fun hb=>by
 obtain⟨_,o,ho,_⟩:=I.ok.funs.mem hb
 exact absurd (uC (uy ho) (uD I.sz h)) (Ut _)
theorem Inv.cne(I:Inv X pins σ H s):∀x c,X.env.cells.lookup x=some c->c≠X.env.locals:=fun x c e z=>by
 obtain⟨v,o,ho,hd⟩:=I.cell x c e
 obtain⟨m,⟨o',es,ep,ho',hd',_⟩,_⟩:=I.loc
 rw[z,ho']at ho;cases ho;rw[hd']at hd;cases hd
theorem Inv.funs(I:Inv X pins σ H s):s.heap.FunFrames X.base X.outer:=by
 have all:∀(l:List Env),(∀b∈frs l,b∈X.fs)->X.s₀.heap.FunFrames X.base l->s.heap.FunFrames X.base l:=by
  intro l
  induction l with
  |nil=>intro _ _;trivial
  |cons env r ih =>
   intro hs hl
   obtain⟨hk,⟨L,o,hf,hn,ho,hd⟩,hr⟩:=hl
   have hL:L∈X.fs:=hs L (by unfold frs;rw[List.filterMap_cons,hf];exact Uv)
   obtain⟨sl,e⟩:=I.base.slot L o ho (I.ok.frf L hL) hL fun z=>I.ok.exfs L z hL
   exact⟨hk,⟨L,_,hf,hn,e,hd⟩,ih (fun b hb=>hs b (by unfold frs;rw[List.filterMap_cons,hf];exact Up _ hb)) hr⟩
 exact all X.outer (fun _ hb=>hb) I.ok.funs
theorem Inv.stack(I:Inv X pins σ H s):s.heap.FunFrames X.base X.stack:=by
 rcases I.ok.stk with e|⟨e,hf⟩
 ·rw[e];exact I.funs
 ·rw[e]
  obtain⟨m,hn,_⟩:=I.loc
  refine .cons (by rw[I.ok.kind];decide) hf hn ?_ I.funs
  exact Heap.get?_none_of_le (uD I.ok.bsz I.ok.above)
theorem Inv.stkSub(I:Inv X pins σ H s):∀b∈frs X.stack,b∈X.env.locals::X.fs:=fun b hb=>by
 rcases I.ok.stk with e|⟨e,hf⟩
 ·rw[e]at hb;exact Up _ hb
 ·rw[e]at hb
  unfold frs at hb
  rw[List.filterMap_cons,hf]at hb
  exact hb
theorem Inv.stkFree(I:Inv X pins σ H s):∀b∈frs X.stack,H b=none:=fun b hb=>by
 rcases um.mp (I.stkSub b hb)with e|hb
 ·rw[e];exact I.free
 ·obtain⟨_,o,ho,_⟩:=I.ok.funs.mem hb
  exact I.base.free b o ho (I.ok.frf b hb) fun z=>I.ok.exfs b z hb
theorem Inv.step{g':Array GenState}{t':Nat}{d':Drawn}{ch:List Addr}(I:Inv X pins σ H s)
  (hch:∀b∈ch,(b∈X.ex\/X.s₀.heap.objs.size<=b)/\b≠X.env.locals/\(∀x c,X.env.cells.lookup x=some c->c≠b)/\∀p∈X.pn++pins,p.1≠b)
  (keep:∀b o,b≠X.env.locals->b∉X.fs->b∉ch->s.heap.get? b=some o->H b=none->h'.get? b=some o)
  (slot:∀b o,b≠X.env.locals->b∈X.fs->b∉ch->s.heap.get? b=some o->H b=none->∃sl,h'.get? b=some { o with slots:=sl }) (free:∀b o,b∉ch->s.heap.get? b=some o->H b=none->H' b=none)
  (there:∀b o,b∉ch->s.heap.get? b=some o->∃o',h'.get? b=some o')
  (tups:∀b xs,H b=some (.tup xs)->H' b=some (.tup xs)) (frzs:∀b o u,H b=some (.frz o u)->H' b=some (.frz o u)) (tbls:∀b ps,H b=some (.tbl ps)->∃more,H' b=some (.tbl (ps++more)))
  (ns:∀m,s.heap.Ns X.env.locals m->h'.Ns X.env.locals m) (hok:HOk X.prog X.w H' h') (hg:AllBare g') :
  Inv X pins σ H' { s with heap:=h',gens:=g',drawn:=d',toks:=t' }:=by
 have neL:∀b o,X.s₀.heap.get? b=some o->b≠X.env.locals:=fun b o e=>uK (uC (uy e) I.ok.above)
 have neC:∀b o,X.s₀.heap.get? b=some o->b∉X.ex->b∉ch:=fun b o e hx hb=>by
  rcases(hch b hb).1 with z|z
  ·exact hx z
  ·exact absurd (uC (uy e) z) (Ut _)
 have cellK:∀x c,X.env.cells.lookup x=some c->∀v,s.heap.IsCell c v->h'.IsCell c v:=fun x c e v ⟨o,ho,hd⟩=>by
  have nch:c∉ch:=fun z=>(hch c z).2.2.1 x c e rfl
  by_cases hc:c∈X.fs
  ·obtain⟨sl,q⟩:=slot c o (I.cne x c e) hc nch ho (I.freeC x c e)
   exact⟨_,q,hd⟩
  ·exact⟨o,keep c o (I.cne x c e) hc nch ho (I.freeC x c e),hd⟩
 refine⟨I.ok,I.os,hg,⟨fun b o e n hb hx=>?_,fun b o e n hb hx=>?_,fun b o e n hx=>?_,fun b o e hx=>?_,fun b xs e=>tups b xs (I.base.tups b xs e),fun b o xs e=>frzs b o xs (I.base.frzs b o xs e),fun b ps e=>?_⟩,?_,fun x c e=>?_,?_,fun x c e=>?_,fun p hp=>?_,hok,I.len⟩
 ·exact keep b o (neL b o e) hb (neC b o e hx) (I.base.keep b o e n hb hx) (I.base.free b o e n hx)
 ·obtain⟨sl,e1⟩:=I.base.slot b o e n hb hx
  obtain⟨sl',e2⟩:=slot b _ (neL b o e) hb (neC b o e hx) e1 (I.base.free b o e n hx)
  exact⟨sl',e2⟩
 ·obtain⟨o',e1⟩:=I.base.there b o e hx
  exact free b o' (neC b o e hx) e1 (I.base.free b o e n hx)
 ·obtain⟨o',e1⟩:=I.base.there b o e hx
  exact there b o' (neC b o e hx) e1
 ·obtain⟨m1,e1⟩:=I.base.tbls b ps e
  obtain⟨m2,e2⟩:=tbls b _ e1
  exact⟨m1++m2,by rw[e2,Array.append_assoc]⟩
 ·obtain⟨m,hn,hl⟩:=I.loc
  refine⟨m,ns m hn,fun i x v e1 e2 e3=>?_⟩
  obtain⟨u,r,l⟩:=hl i x v e1 e2 e3
  refine⟨u,r,?_⟩
  rcases l with l|⟨k,c,e,z⟩
  ·exact .inl l
  ·exact .inr ⟨k,c,e,cellK x c e _ z⟩
 ·obtain⟨v,z⟩:=I.cell x c e
  exact⟨v,cellK x c e v z⟩
 ·obtain⟨m,⟨o,_,_,ho,_⟩,_⟩:=I.loc
  exact free _ o (fun z=>(hch _ z).2.1 rfl) ho I.free
 ·obtain⟨v,o,ho,hd⟩:=I.cell x c e
  exact free c o (fun z=>(hch c z).2.2.1 x c e rfl) ho (I.freeC x c e)
 ·obtain⟨e,n,ne,nf,d⟩:=I.pin p hp
  have nch:p.1∉ch:=fun z=>(hch p.1 z).2.2.2 p hp rfl
  exact⟨keep p.1 p.2 ne nf nch e n,free p.1 p.2 nch e n,ne,nf,d⟩
theorem Inv.un{t':Nat}(I:Inv X pins σ H s)(u:Un X.fs [] H H' s.heap h')(hok:HOk X.prog X.w H' h'):Inv X pins σ H' { s with heap:=h',toks:=t' }:=by
 obtain⟨m,⟨o,es,ep,ho,r⟩,_⟩:=id I.loc
 obtain⟨sl,hL⟩:=u.any ho I.free (by simp)
 exact I.step (g':=s.gens) (d':=s.drawn) (ch:=[]) (fun _ z=>nomatch z) (fun b o _ hb _ e n=>u.keep b o e n hb (by simp)) (fun b o _ hb _ e n=>u.slot b o e n hb (by simp)) (fun b o _ e n=>u.free b o e n (by simp)) (fun b o _ e=>u.there b o e (by simp)) u.tups u.frzs u.tbls (fun m' hm=>by
  obtain⟨o',es',ep',ho',r'⟩:=hm
  rw[ho]at ho';cases ho'
  exact⟨_,es',ep',hL,r'⟩) hok I.bare
theorem Inv.call{g':Array GenState}{t':Nat}{d':Drawn}{ch:List Addr}(I:Inv X pins σ H s)(u:Un (frs X.stack) ch H H' s.heap h')(hok:HOk X.prog X.w H' h')(hg:AllBare g')
  (hch:∀b∈ch,(b∈X.ex\/X.s₀.heap.objs.size<=b)/\b≠X.env.locals/\(∀x c,X.env.cells.lookup x=some c->c≠b)/\∀p∈X.pn++pins,p.1≠b) :
  Inv X pins σ H' { s with heap:=h',gens:=g',drawn:=d',toks:=t' }:=by
 obtain⟨m,⟨o,es,ep,ho,r⟩,_⟩:=id I.loc
 obtain⟨sl,hL⟩:=u.any ho I.free fun z=>(hch _ z).2.1 rfl
 exact I.step (ch:=ch) hch (fun b o hL hb hc e n=>u.keep b o e n (fun z=>(um.mp (I.stkSub b z)).elim hL hb) hc) (fun b o _ _ hc e n=>u.any e n hc) (fun b o hc e n=>u.free b o e n hc) (fun b o hc e=>u.there b o e hc) u.tups u.frzs u.tbls (fun m' hm=>by
  obtain⟨o',es',ep',ho',r'⟩:=hm
  rw[ho]at ho';cases ho'
  exact⟨_,es',ep',hL,r'⟩) hok hg
theorem Inv.turned{t':Nat}{it:Addr}(I:Inv X pins σ H s)(k:∀b o,b≠it->s.heap.get? b=some o->h'.get? b=some o)(hn:H it=none)(hL:it≠X.env.locals)
  (h1:it∈X.ex\/X.s₀.heap.objs.size<=it) (h2:∀x c,X.env.cells.lookup x=some c->c≠it) (h3:∀p∈X.pn++pins,p.1≠it):Inv X pins σ H { s with heap:=h',toks:=t' }:=by
 have nit:∀b u,H b=some u->b≠it:=fun b u e z=>by rw[z,hn]at e;cases e
 refine I.step (g':=s.gens) (d':=s.drawn) (ch:=[it]) (fun b hb=>?_) (fun b o _ _ hc e _=>k b o (fun z=>hc (by simp[z])) e) (fun b o _ _ hc e _=>⟨o.slots,k b o (fun z=>hc (by simp[z])) e⟩) (fun _ _ _ _ n=>n)
  (fun b o hc e=>⟨o,k b o (fun z=>hc (by simp[z])) e⟩) (fun _ _ e=>e) (fun _ _ _ e=>e) (fun b ps e=>⟨#[],by rw[e];simp⟩) (fun m hm=>?_) (fun b u e=>?_) I.bare
 ·have e:b=it:=by simpa using hb
  subst e
  exact⟨h1,hL,h2,h3⟩
 ·obtain⟨o,es,ep,ho,r⟩:=hm
  exact⟨o,es,ep,k _ o (Ne.symm hL) ho,r⟩
 ·refine(I.hok b u e).stay (fun c v hc q=>k c v ?_ q) (fun _ q=>q) fun _ _ q=>q
  rcases hc with z|z
  ·rw[z];exact nit b u e
  ·exact nit c _ z
theorem Inv.tok(I:Inv X pins σ H s)(t:Nat):Inv X pins σ H { s with toks:=t }:=I.un (h':=s.heap) (t':=t) Un.refl I.hok
theorem Inv.kept{t':Nat}(I:Inv X pins σ H s)(k:∀b u,s.heap.get? b=some u->h'.get? b=some u):Inv X pins σ H { s with heap:=h',toks:=t' }:=I.un (Un.kept k) (I.hok.kept k)
theorem Inv.laid{a:Addr}{o:HO}{t':Nat}(I:Inv X pins σ H s)(k:∀b u,s.heap.get? b=some u->h'.get? b=some u)(hp:s.heap.objs.size<=a)(new:ObjOk X.prog X.w (upd H a o) h' a o):
  Inv X pins σ (upd H a o) { s with heap:=h',toks:=t' }:=I.un (Un.laid k hp (I.hok.fresh hp)) (I.hok.laid k hp new)
theorem Inv.write{x e:Addr}{o:HO}{t':Nat}(I:Inv X pins σ H s)(mu:Mut (H x))(he:e=x\/H e=some (.own x))(k:∀b u,b≠e->s.heap.get? b=some u->h'.get? b=some u)(heo:∃u,h'.get? e=some u)
  (new:ObjOk X.prog X.w (upd H x o) h' x o):Inv X pins σ (upd H x o) { s with heap:=h',toks:=t' }:=I.un (Un.write mu he k heo) (I.hok.write mu he k heo new)
theorem Inv.pins_of{pins':List (Addr×Obj)}(I:Inv X pins σ H s)(h:∀p∈pins',s.heap.get? p.1=some p.2/\H p.1=none/\p.1≠X.env.locals/\p.1∉X.fs/\∀v,p.2.data≠.cell v):Inv X pins' σ H s :=
 ⟨I.ok,I.os,I.bare,I.base,I.loc,I.cell,I.free,I.freeC,fun p hp=>(uv.mp hp).elim (fun z=>I.pin p (uk _ z)) (h p),I.hok,I.len⟩
theorem Za{N:List Str}(hN:N.Nodup){i j:Nat}{x:Str}(a:N[i]?=some x)(b:N[j]?=some x):i=j:=by
 obtain⟨h1,e1⟩:=uf.mp a
 obtain⟨h2,e2⟩:=uf.mp b
 exact(List.getElem_inj hN).mp (e1.trans e2.symm)
theorem vT{M:Model}{A:Around}{E:Value->Shared->Prop}{i:Nat}{x:Str}{v:V}{u:Value}{Q:Unit->Shared->Prop}(I:Inv X pins σ H s)(hN:X.N.Nodup)(hi:X.N[i]?=some x)(hx:Loc X.env.scope x)(r:RelV v u)
  (h:∀s',Inv X pins (σ.set i (some v)) H s'->(∃a,Heap.SameBut a s.heap s'.heap/\(a=X.env.locals\/X.env.cells.lookup x=some a))->Q () s') (hf:X.fn x=true\/X.env.scope.names.lookup x=some .local:=by first|exact .inl rfl|exact .inr rfl|assumption):wpAny M A (storeName X.env x u) Q E s:=by
 obtain⟨m,hn,hl⟩:=id I.loc
 have hcls:(X.env.scope.kind == .class || (X.env.scope.kind == .module && X.env.locals != X.env.globals))=false:=by rw[I.ok.kind];rfl
 have hiσ:i < σ.length:=by rw[I.len];exact(uf.mp hi).1
 have cne:=I.cne
 have tracked:∀{a:Addr}{h':Heap},(∃o,s.heap.get? a=some o/\H a=none)->Heap.SameBut a s.heap h'->HOk X.prog X.w H h':=fun{a h'} ha hs b ob e=>by
  obtain⟨_,_,hfree⟩:=ha
  refine(I.hok b ob e).stay (fun c w' hc q=>(hs.2 c ?_).trans q) (fun _ q=>q) fun _ _ q=>q
  rintro rfl
  rcases hc with rfl|hc
  ·rw[hfree]at e;cases e
  ·rw[hfree]at hc;cases hc
 rcases hx with hk|hk
 ·refine wpAny_storeName_local hk hn (fun h' hn' hs=>?_) hcls
  obtain⟨oL,_,_,hoL,_⟩:=id hn
  refine h _ ⟨I.ok,I.os,I.bare,⟨fun b o e n hb hx=>?_,fun b o e n hb hx=>?_,I.base.free,fun b o e hx=>?_,I.base.tups,I.base.frzs,I.base.tbls⟩,⟨_,hn',fun j y v' e1 e2 e3=>?_⟩,fun y c e=>?_,I.free,I.freeC,fun p hp=>?_,tracked ⟨oL,hoL,I.free⟩ hs,by simpa using I.len⟩ ⟨_,hs,.inl rfl⟩
  ·exact(hs.2 b (uK (uC (uy e) I.ok.above))).trans (I.base.keep b o e n hb hx)
  ·obtain⟨sl,e1⟩:=I.base.slot b o e n hb hx
   exact⟨sl,(hs.2 b (uK (uC (uy e) I.ok.above))).trans e1⟩
  ·obtain⟨o',e1⟩:=I.base.there b o e hx
   exact⟨o',(hs.2 b (uK (uC (uy e) I.ok.above))).trans e1⟩
  ·by_cases hj:j=i
   ·subst hj
    rw[hi]at e1;cases e1
    rw[List.getElem?_set_self hiσ]at e2
    cases e2
    exact⟨u,r,.inl ⟨hk,by simp⟩⟩
   ·rw[List.getElem?_set_ne (Ne.symm hj)]at e2
    obtain⟨u',r',q⟩:=hl j y v' e1 e2 e3
    refine⟨u',r',?_⟩
    rcases q with⟨k,e⟩|⟨k,c,e,z⟩
    ·refine .inl ⟨k,?_⟩
     have:y≠x:=fun e=>hj (Za hN e1 (e ▸ hi))
     simp[this,e]
    ·exact .inr ⟨k,c,e,z.sameBut hs (cne y c e)⟩
  ·obtain⟨w',z⟩:=I.cell y c e
   exact⟨w',z.sameBut hs (cne y c e)⟩
  ·obtain⟨e,n,ne,nf,d⟩:=I.pin p hp
   exact⟨(hs.2 p.1 ne).trans e,n,ne,nf,d⟩
 ·have hfn:X.fn x=true:=by
   rcases hf with z|z
   ·exact z
   ·rw[z]at hk;cases hk
  obtain⟨c,hc⟩:=I.ok.has x (.inl hk)
  obtain⟨w',z⟩:=I.cell x c hc
  refine wpAny_storeName_cell I.ok.kind hk hc z (fun h' hc' hs=>?_)
  obtain⟨oc,hoc,hocd⟩:=id z
  refine h { s with heap:=h' } ⟨I.ok,I.os,I.bare,⟨fun b o e n hb hx=>?_,fun b o e n hb hx=>?_,I.base.free,fun b o e hx=>?_,I.base.tups,I.base.frzs,I.base.tbls⟩,⟨m,hn.sameBut hs (Ne.symm (cne x c hc)),fun j y v' e1 e2 e3=>?_⟩,fun y c' e=>?_,I.free,I.freeC,fun p hp=>?_,tracked ⟨oc,hoc,I.freeC x c hc⟩ hs,by simpa using I.len⟩ ⟨c,hs,.inr hc⟩
  ·exact(hs.2 b (uK (uC (uy e) (I.ok.cab x c hfn hc)))).trans (I.base.keep b o e n hb hx)
  ·obtain⟨sl,e1⟩:=I.base.slot b o e n hb hx
   exact⟨sl,(hs.2 b (uK (uC (uy e) (I.ok.cab x c hfn hc)))).trans e1⟩
  ·obtain⟨o',e1⟩:=I.base.there b o e hx
   exact⟨o',(hs.2 b (uK (uC (uy e) (I.ok.cab x c hfn hc)))).trans e1⟩
  ·by_cases hj:j=i
   ·subst hj
    rw[hi]at e1;cases e1
    rw[List.getElem?_set_self hiσ]at e2
    cases e2
    exact⟨u,r,.inr ⟨.inl hk,c,hc,hc'⟩⟩
   ·rw[List.getElem?_set_ne (Ne.symm hj)]at e2
    obtain⟨u',r',q⟩:=hl j y v' e1 e2 e3
    refine⟨u',r',?_⟩
    rcases q with q|⟨k,c',e,z'⟩
    ·exact .inl q
    ·refine .inr ⟨k,c',e,z'.sameBut hs ?_⟩
     rintro rfl
     exact hj (Za hN e1 (I.ok.inj _ _ _ e hc ▸ hi))
  ·by_cases hcc:c'=c
   ·subst hcc;exact⟨_,hc'⟩
   ·obtain⟨w2,z2⟩:=I.cell y c' e
    exact⟨w2,z2.sameBut hs hcc⟩
  ·obtain⟨e,n,ne,nf,d⟩:=I.pin p hp
   refine⟨(hs.2 p.1 ?_).trans e,n,ne,nf,d⟩
   intro q
   rw[q,hoc]at e
   have q':oc=p.2:=u9.inj e
   exact d w' (by rw[<- q'];exact hocd)
theorem Zb{M:Model}{A:Around}{E:Value->Shared->Prop}{i:Nat}{x:Str}{v:V}{u:Value}{Q:Unit->Shared->Prop}(I:Inv X pins σ H s)(hN:X.N.Nodup)(hi:X.N[i]?=some x)(hx:Loc X.env.scope x)(r:RelV v u)
  (h:∀s',Inv X pins (σ.set i (some v)) H s'->Q () s') (hf:X.fn x=true\/X.env.scope.names.lookup x=some .local:=by first|exact .inl rfl|exact .inr rfl|assumption):wpAny M A (storeName X.env x u) Q E s :=
 vT I hN hi hx r (fun s' I' _=>h s' I') hf
theorem Inv.call'{s':Shared}{ch:List Addr}(I:Inv X pins σ H s)(ho:s'.os=s.os)(u:Un (frs X.stack) ch H H' s.heap s'.heap)(hok:HOk X.prog X.w H' s'.heap)(hg:AllBare s'.gens)
  (hch:∀b∈ch,(b∈X.ex\/X.s₀.heap.objs.size<=b)/\b≠X.env.locals/\(∀x c,X.env.cells.lookup x=some c->c≠b)/\∀p∈X.pn++pins,p.1≠b):Inv X pins σ H' s':=by
 obtain⟨h',g',d',t',o'⟩:=s'
 have e:o'=s.os:=ho
 subst e
 exact I.call (g':=g') (t':=t') (d':=d') u hok hg hch
end
abbrev XK:=Value->Option Addr->Hp->Prop
abbrev St:=List (Option V)
abbrev VK:=V->Hp->Prop
abbrev TE:=St->Hp->VK->Prop
abbrev TT:=St->Hp->(Bool->Hp->Prop)->Prop
abbrev TA:=St->Hp->(List V->Hp->Prop)->Prop
structure Ends where
 nx:St->Hp->Prop
 rt:VK
 bk:St->Hp->Prop:=fun _ _=>False
 ct:St->Hp->Prop:=fun _ _=>False
abbrev TS:=Ends->St->Hp->Prop
def EP(X:Cx)(pins:List (Addr×Obj))(σ:St)(Q:VK)(u:Value)(s':Shared):Prop:=∃v H',Inv X pins σ H' s'/\RelV v u/\Q v H'
def TP(X:Cx)(pins:List (Addr×Obj))(σ:St)(Q:Bool->Hp->Prop)(b:Bool)(s':Shared):Prop:=∃H',Inv X pins σ H' s'/\Q b H'
def AP(X:Cx)(pins:List (Addr×Obj))(σ:St)(Q:List V->Hp->Prop)(us:List Value)(s':Shared):Prop:=∃vs H',Inv X pins σ H' s'/\Vals vs us/\Q vs H'
def SP(X:Cx)(pins:List (Addr×Obj))(D:Ends)(f:Flow)(s':Shared):Prop :=
 match f with
 |.next=>∃σ' H',Inv X pins σ' H' s'/\D.nx σ' H'
 |.brk=>∃σ' H',Inv X pins σ' H' s'/\D.bk σ' H'
 |.cont=>∃σ' H',Inv X pins σ' H' s'/\D.ct σ' H'
 |.ret u=>∃v σ' H',Inv X pins σ' H' s'/\RelV v u/\D.rt v H'
def PE(X:Cx)(e:Expr)(t:TE):Prop :=
 ∀(pins:List (Addr×Obj))(s:Shared)(σ:St)(H:Hp)(Q:VK),Inv X pins σ H s->t σ H Q->wpAny (model X.prog X.w) X.A (eval e X.env) (EP X pins σ Q) X.xe s
def PT(X:Cx)(e:Expr)(t:TT):Prop :=
 ∀(pins:List (Addr×Obj))(s:Shared)(σ:St)(H:Hp)(Q:Bool->Hp->Prop),Inv X pins σ H s->t σ H Q->wpAny (model X.prog X.w) X.A (isTrue e X.env (eval e X.env)) (TP X pins σ Q) X.xe s
def PW(X:Cx)(e:Expr)(t:TT):Prop :=
 ∀(whole:Sem Value)(pins:List (Addr×Obj))(s:Shared)(σ:St)(H:Hp)(Q:Bool->Hp->Prop),Inv X pins σ H s->t σ H Q->wpAny (model X.prog X.w) X.A (isTrue e X.env whole) (TP X pins σ Q) X.xe s
theorem PW.pt{X:Cx}{e:Expr}{t:TT}(h:PW X e t):PT X e t:=h _
def PA(X:Cx)(es:List Expr)(t:TA):Prop :=
 ∀(pos:Pos)(pins:List (Addr×Obj))(s:Shared)(σ:St)(H:Hp)(Q:List V->Hp->Prop),Inv X pins σ H s->t σ H Q->wpAny (model X.prog X.w) X.A (spliced (backTo pos (starEach es X.env))) (AP X pins σ Q) X.xe s
def PS(X:Cx)(st:Stmt)(t:TS):Prop :=
 ∀(pins:List (Addr×Obj))(s:Shared)(σ:St)(H:Hp)(D:Ends),Inv X pins σ H s->t D σ H->wpAny (model X.prog X.w) X.A (exec st X.env) (SP X pins D) X.xe s
def PSs(X:Cx)(st:List Stmt)(t:TS):Prop :=
 ∀(pins:List (Addr×Obj))(s:Shared)(σ:St)(H:Hp)(D:Ends),Inv X pins σ H s->t D σ H->wpAny (model X.prog X.w) X.A (execs st X.env) (SP X pins D) X.xe s
theorem thn{α:Type}{t:Sem α}{Q Q':α->Shared->Prop}{M:Model}{A:Around}{E:Value->Shared->Prop}{s:Shared}(h:wpAny M A t Q E s)(hQ:∀a s,Q a s->Q' a s):wpAny M A t Q' E s:=wpAny_mono h hQ fun _ _ x=>x
section
variable{X:Cx}
def tVar(i:Nat):TE:=fun σ H Q=>∃v,σ[i]?=some (some v)/\Q v H
def tC(v:V):TE:=fun _ H Q=>Q v H
theorem zag{i:Nat}{x:Str}{pos:Pos}(hN:X.N[i]?=some x)(hv:Vis X.env.scope x)(hd:(x == ("__debug__":Str))=false:=by decide)(hcd:(x == ("__classdict__":Str))=false:=by decide):PE X (.Name x pos) (tVar i):=by
 intro pins s σ H Q I h
 obtain⟨v,e,h⟩:=h
 obtain⟨m,hn,hl⟩:=I.loc
 obtain⟨u,r,l⟩:=hl i x v hN e hv
 have fin:EP X pins σ Q u s:=⟨v,H,I,r,h⟩
 rcases l with⟨hk,hm⟩|⟨hk,c,hc,hcell⟩
 ·exact wpAny_Name (wpAny_loadName_local I.ok.kind hk hn hm fin) hd
 ·rcases hk with hk|hk
  ·exact wpAny_Name (wpAny_loadName_cell I.ok.kind hk hc hcell fin) hd
  ·exact wpAny_Name (wpAny_loadName_free I.ok.kind hk hc hcell fin hcd) hd
theorem zah{i j pos}:PE X (.Constant (.int i) j pos) (tC (.int i)):=fun _ _ _ H _ I h=>wpAny_Constant_int ⟨.int i,H,I.tok _,⟨_,rfl⟩,h⟩
theorem zbC{b j pos}:PE X (.Constant (.bool b) j pos) (tC (.bl b)):=fun _ _ _ H _ I h=>Constant_bool ⟨.bl b,H,I,rfl,h⟩
theorem zai{x j pos}:PE X (.Constant (.str x) j pos) (tC (.str x)):=fun _ _ _ H _ I h=>Calls.Constant_str ⟨.str x,H,I.tok _,⟨_,rfl⟩,h⟩
def Gl(X:Cx)(x:Str):Prop:=X.env.kindOf x=some .globalImplicit
theorem wP{E:Value->Shared->Prop}{pins:List (Addr×Obj)}{s:Shared}{σ:St}{H:Hp}{x:Str}{u:Value}{pos:Pos}{Q:Value->Shared->Prop}(I:Inv X pins σ H s)(hg:Gl X x)(hm:X.mg x=some u)(h:Q u s)
  (hd:(x == ("__debug__":Str))=false:=by decide):wpAny (model X.prog X.w) X.A (eval (.Name x pos) X.env) Q E s :=
 Calls.Name_function_global I.ok.kind hg (Calls.loadGlobal_global (by rw[I.ok.glob];exact I.mod.glob.keeps I.bk) hm h) hd
theorem wZ{E:Value->Shared->Prop}{pins:List (Addr×Obj)}{s:Shared}{σ:St}{H:Hp}{x:Str}{u:Value}{pos:Pos}{Q:Value->Shared->Prop}(I:Inv X pins σ H s)(hg:Gl X x)(hm:X.mg x=none)(hv:bootBuiltins x=some u)(h:Q u s)
  (hn:x≠"__name__":=by decide) (hd:(x == ("__debug__":Str))=false:=by decide):wpAny (model X.prog X.w) X.A (eval (.Name x pos) X.env) Q E s:=by
 obtain⟨mb,h1,h2⟩:=I.mod.blt
 exact Calls.Name_function_global I.ok.kind hg (Calls.loadGlobal_builtin (by rw[I.ok.glob];exact I.mod.glob.keeps I.bk) hm (by rw[I.ok.blt];exact h1.keeps I.bk) ((h2 x hn).trans hv) h) hd
theorem V9{x:Str}{v:V}{u:Value}{pos:Pos}(hg:Gl X x)(hm:X.mg x=some u)(r:RelV v u)(hd:(x == ("__debug__":Str))=false:=by decide):PE X (.Name x pos) (tC v) :=
 fun _ _ _ H _ I h=>wP I hg hm ⟨v,H,I,r,h⟩ hd
variable{a b:Expr}{ta tb:TE}{pos:Pos}
def PC(X:Cx)(op:CmpOp)(a b:Expr)(t:TE):Prop :=
 ∀(pins:List (Addr×Obj))(s:Shared)(σ:St)(H:Hp)(Q:VK),Inv X pins σ H s->t σ H Q ->
  wpAny (model X.prog X.w) X.A (eval a X.env) (fun v s₁=>wpAny (model X.prog X.w) X.A (eval b X.env) (fun u s₂=>wpAny (model X.prog X.w) X.A (compareOp op v u) (EP X pins σ Q) X.xe s₂) X.xe s₁) X.xe s
def tB(t:TE):TT:=fun σ H Q=>t σ H fun x H1=>∃c,x=.bl c/\Q c H1
theorem zaj{op:CmpOp}{t:TE}(h:PC X op a b t)(h1:behindInMarks op b=false:=by first|exact nobehind _ (by decide) (by decide)|rfl):PT X (.Compare a [op] [b] pos) (tB t):=by
 intro pins s σ H Q I hw
 refine wpAny_isTrue_Compare1 (thn (h pins s σ H _ I hw) fun v s1 h1=>thn h1 fun u s2 h2=>thn h2 fun c s3 ⟨x,H1,I1,r1,q1⟩=>?_) h1
 obtain⟨d,rfl,q⟩:=q1
 cases r1
 exact wpAny_truthy_bool ⟨H1,I1,q⟩
theorem zak{e:Expr}{t:TE}(h:PE X e t)(he:∀whole,isTrue e X.env whole=(do let v <- whole;standAt e.pos;holding [v] (truthy v)):=by intro _;rfl):PT X e (tB t):=by
 intro pins s σ H Q I hw
 refine isTrue_plain (thn (h pins s σ H _ I hw) fun v s1 ⟨x,H1,I1,r1,q1⟩=>?_) (he _)
 obtain⟨d,rfl,q⟩:=q1
 cases r1
 exact wpAny_truthy_bool ⟨H1,I1,q⟩
variable{tA tB':TT}{rest:List Expr}
def tAnd(t u:TT):TT:=fun σ H Q=>t σ H fun c H1=>if c=true then u σ H1 Q else Q false H1
def tOr(t u:TT):TT:=fun σ H Q=>t σ H fun c H1=>if c=true then Q true H1 else u σ H1 Q
def tNot(t:TT):TT:=fun σ H Q=>t σ H fun c H1=>Q (!c) H1
theorem pw_and1(ha:PT X a tA):PW X (.BoolOp .And [a] pos) tA:=by
 intro wh pins s σ H Q I h
 refine isTrue_and (thn (ha pins s σ H Q I h) fun c s1 e=>?_)
 cases c with
 |true=>exact isTrue_and_nil e
 |false=>exact e
theorem pw_or1(ha:PT X a tA):PW X (.BoolOp .Or [a] pos) tA:=by
 intro wh pins s σ H Q I h
 refine isTrue_or (thn (ha pins s σ H Q I h) fun c s1 e=>?_)
 cases c with
 |false=>exact isTrue_or_nil e
 |true=>exact e
theorem pw_and(ha:PT X a tA)(hb:PW X (.BoolOp .And (b::rest) pos) tB'):PW X (.BoolOp .And (a::b::rest) pos) (tAnd tA tB'):=by
 intro wh pins s σ H Q I h
 refine isTrue_and (thn (ha pins s σ H _ I h) fun c s1 ⟨H1,I1,q1⟩=>?_)
 cases c with
 |true=>exact hb wh pins s1 σ H1 Q I1 q1
 |false=>exact⟨H1,I1,q1⟩
theorem pw_or(ha:PT X a tA)(hb:PW X (.BoolOp .Or (b::rest) pos) tB'):PW X (.BoolOp .Or (a::b::rest) pos) (tOr tA tB'):=by
 intro wh pins s σ H Q I h
 refine isTrue_or (thn (ha pins s σ H _ I h) fun c s1 ⟨H1,I1,q1⟩=>?_)
 cases c with
 |true=>exact⟨H1,I1,q1⟩
 |false=>exact hb wh pins s1 σ H1 Q I1 q1
theorem zal(ha:PT X a tA):PT X (.UnaryOp .Not a pos) (tNot tA):=by
 intro pins s σ H Q I h
 exact isTrue_not (ha pins s σ H (fun c H1=>Q (!c) H1) I h)
def Qy(ta tb:TE):TE:=fun σ H Q=>ta σ H fun x H1=>∃c,x=.bl c/\if c=true then tb σ H1 Q else Q (.bl false) H1
def tOrV(ta tb:TE):TE:=fun σ H Q=>ta σ H fun x H1=>∃c,x=.bl c/\if c=true then Q (.bl true) H1 else tb σ H1 Q
def Qz(ta:TE):TE:=fun σ H Q=>ta σ H fun x H1=>∃c,x=.bl c/\Q (.bl (!c)) H1
theorem zam{op}{t:TE}(h:PE X a t):PE X (.BoolOp op [a] pos) t:=fun pins s σ H Q I hw=>BoolOp_one (h pins s σ H Q I hw)
theorem zan(ha:PE X a ta)(hb:PE X (.BoolOp .And (b::rest) pos) tb):PE X (.BoolOp .And (a::b::rest) pos) (Qy ta tb):=by
 intro pins s σ H Q I h
 refine BoolOp_and (thn (ha pins s σ H _ I h) fun v s1 ⟨x,H1,I1,r1,q1⟩=>?_)
 obtain⟨c,rfl,q1⟩:=q1
 cases r1
 refine wpAny_truthy_bool ?_
 cases c with
 |true=>exact hb pins s1 σ H1 Q I1 q1
 |false=>exact⟨.bl false,H1,I1,rfl,q1⟩
theorem zbD(ha:PE X a ta)(hb:PE X (.BoolOp .Or (b::rest) pos) tb):PE X (.BoolOp .Or (a::b::rest) pos) (tOrV ta tb):=by
 intro pins s σ H Q I h
 refine BoolOp_or (thn (ha pins s σ H _ I h) fun v s1 ⟨x,H1,I1,r1,q1⟩=>?_)
 obtain⟨c,rfl,q1⟩:=q1
 cases r1
 refine wpAny_truthy_bool ?_
 cases c with
 |false=>exact hb pins s1 σ H1 Q I1 q1
 |true=>exact⟨.bl true,H1,I1,rfl,q1⟩
theorem zao(ha:PE X a ta):PE X (.UnaryOp .Not a pos) (Qz ta):=by
 intro pins s σ H Q I h
 refine UnaryOp_ (thn (ha pins s σ H _ I h) fun v s1 ⟨x,H1,I1,r1,q1⟩=>?_)
 obtain⟨c,rfl,q1⟩:=q1
 cases r1
 exact not_of (wpAny_truthy_bool ⟨.bl (!c),H1,I1,rfl,q1⟩)
def tIf(t:TT)(ta tb:TE):TE:=fun σ H Q=>t σ H fun c H1=>if c=true then ta σ H1 Q else tb σ H1 Q
theorem XV{c:Expr}(hc:PT X c tA)(ha:PE X a ta)(hb:PE X b tb):PE X (.IfExp c a b pos) (tIf tA ta tb):=by
 intro pins s σ H Q I h
 refine wpAny_IfExp (thn (hc pins s σ H _ I h) fun d s1 ⟨H1,I1,q1⟩=>?_)
 cases d with
 |true=>exact ha pins s1 σ H1 Q I1 q1
 |false=>exact hb pins s1 σ H1 Q I1 q1
end
def SqL(K:uc)(H:Hp)(a:Addr)(xs:List V):Prop :=
 Rd H a (.lst xs) \/
  ∃(o:Obj)(its:Array Value)(n:Nat),K.lookup a=some o/\o.cls=.type "list"/\o.dict=none/\o.data=.seq its n/\its.size<=sizeLine/\Vals xs its.toList
def SqT(K:uc)(H:Hp)(a:Addr)(xs:List V):Prop :=
 Rd H a (.tup xs) \/
  ∃(o:Obj)(its:Array Value)(n:Nat),K.lookup a=some o/\o.cls=.type "tuple"/\o.data=.seq its n/\its.size<=sizeLine/\Vals xs its.toList
def absV:Value->Option V
 |.none=>some .non
 |.bool b=>some (.bl b)
 |.int i _=>some (.int i)
 |.str x _=>some (.str x)
 |.bytes b _=>some (.byt b)
 |.float b _=>some (.flt b)
 |.ref a=>some (.ref a)
 |.type n=>some (.ty n)
 |_=>none
theorem RelV.abs{x:V}{u:Value}(r:RelV x u):absV u=some x:=by
 cases x with
 |non=>cases r;rfl
 |bl _=>cases r;rfl
 |int _=>obtain⟨t,rfl⟩:=r;rfl
 |str _=>obtain⟨t,rfl⟩:=r;rfl
 |byt _=>obtain⟨t,rfl⟩:=r;rfl
 |flt _=>obtain⟨t,rfl⟩:=r;rfl
 |ref _=>cases r;rfl
 |ty _=>cases r;rfl
theorem RelV.inj{x y:V}{u:Value}(r:RelV x u)(q:RelV y u):x=y:=u9.inj (r.abs.symm.trans q.abs)
theorem Vals.inj:∀{xs ys:List V}{us:List Value},Vals xs us->Vals ys us->xs=ys
 |_,_,_,.nil,.nil=>rfl
 |_,_,_,.cons r t,.cons r' t'=>by rw[r.inj r',Vals.inj t t']
section
variable{X:Cx}{pins:List (Addr×Obj)}{σ:St}{H:Hp}{s:Shared}{a:Addr}{xs ys:List V}
theorem SqL.of{K:uc}(h:H a=some (.lst xs)):SqL K H a xs:=.inl (.inl h)
theorem SqT.of{K:uc}(h:H a=some (.tup xs)):SqT K H a xs:=.inl (.inl h)
theorem Inv.list(I:Inv X pins σ H s)(h:SqL X.K H a xs):∃its:List Value,Vals xs its/\PlainL s.heap a its.toArray/\xs.length<=sizeLine:=by
 rcases h with h|⟨o,its,n,hk,hc,hd,hs,hz,r⟩
 ·obtain⟨z,its,n,r,e⟩:=h.ok I.hok
  exact⟨its,r,⟨_,n,e,rfl,rfl,rfl⟩,z⟩
 ·refine⟨its.toList,r,⟨o,n,I.kIn a o hk,hc,hd,by simpa using hs⟩,?_⟩
  have e:=r.length
  simp only[Array.length_toList]at e
  lia
theorem Inv.tuple(I:Inv X pins σ H s)(h:SqT X.K H a xs):∃its:List Value,Vals xs its/\IsTup s.heap a its.toArray/\xs.length<=sizeLine:=by
 rcases h with h|⟨o,its,n,hk,hc,hs,hz,r⟩
 ·obtain⟨z,its,r,p⟩:=h.ok I.hok
  exact⟨its,r,p.is,z⟩
 ·refine⟨its.toList,r,⟨o,I.kIn a o hk,hc,n,by simpa using hs⟩,?_⟩
  have e:=r.length
  simp only[Array.length_toList]at e
  lia
theorem Inv.list_inj(I:Inv X pins σ H s)(h:SqL X.K H a xs)(h':SqL X.K H a ys):xs=ys:=by
 obtain⟨its,r,⟨o,n,e,_,_,d⟩,_⟩:=I.list h
 obtain⟨its',r',⟨o',n',e',_,_,d'⟩,_⟩:=I.list h'
 rw[e]at e';cases e'
 rw[d]at d'
 injection d' with d1 _
 have:its=its':=by simpa using congrArg Array.toList d1
 subst this
 exact r.inj r'
theorem Inv.tuple_inj(I:Inv X pins σ H s)(h:SqT X.K H a xs)(h':SqT X.K H a ys):xs=ys:=by
 obtain⟨its,r,⟨o,e,_,n,d⟩,_⟩:=I.tuple h
 obtain⟨its',r',⟨o',e',_,n',d'⟩,_⟩:=I.tuple h'
 rw[e]at e';cases e'
 rw[d]at d'
 injection d' with d1 _
 have:its=its':=by simpa using congrArg Array.toList d1
 subst this
 exact r.inj r'
end
abbrev Cx.wish(X:Cx)(E:Value->Shared->Prop):Cx:={ X with xe:=E }
abbrev Cx.nox(X:Cx):Cx:=X.wish fun _ _=>False
theorem Cx.Ok.wish{X:Cx}(ok:X.Ok)(E:Value->Shared->Prop):(X.wish E).Ok :=
 ⟨ok.mod,ok.kind,ok.glob,ok.blt,ok.above,ok.inj,ok.has,ok.cab,ok.hd,ok.frames,ok.stk,ok.exf,ok.bs,ok.bsz,ok.noex,ok.exfs,ok.funs,ok.frf⟩
theorem Cx.Ok.unwish{X:Cx}{E:Value->Shared->Prop}(ok:(X.wish E).Ok):X.Ok :=
 ⟨ok.mod,ok.kind,ok.glob,ok.blt,ok.above,ok.inj,ok.has,ok.cab,ok.hd,ok.frames,ok.stk,ok.exf,ok.bs,ok.bsz,ok.noex,ok.exfs,ok.funs,ok.frf⟩
section
variable{X:Cx}{pins:List (Addr×Obj)}{σ:St}{H:Hp}{s:Shared}{E:Value->Shared->Prop}
theorem Inv.wish(I:Inv X pins σ H s)(E:Value->Shared->Prop):Inv (X.wish E) pins σ H s:=⟨I.ok.wish E,I.os,I.bare,I.base,I.loc,I.cell,I.free,I.freeC,I.pin,I.hok,I.len⟩
theorem Inv.unwish(I:Inv (X.wish E) pins σ H s):Inv X pins σ H s:=⟨I.ok.unwish,I.os,I.bare,I.base,I.loc,I.cell,I.free,I.freeC,I.pin,I.hok,I.len⟩
theorem SP.unwish{D:Ends}{f:Flow}{s':Shared}(h:SP (X.wish E) pins D f s'):SP X pins D f s':=by
 cases f with
 |next=>obtain⟨σ',H',I,q⟩:=h;exact⟨σ',H',I.unwish,q⟩
 |brk=>obtain⟨σ',H',I,q⟩:=h;exact⟨σ',H',I.unwish,q⟩
 |cont=>obtain⟨σ',H',I,q⟩:=h;exact⟨σ',H',I.unwish,q⟩
 |ret u=>obtain⟨v,σ',H',I,r,q⟩:=h;exact⟨v,σ',H',I.unwish,r,q⟩
theorem PSs.nox{st:List Stmt}{t:TS}(h:PSs X.nox st t):PSs X st t:=fun pins s σ H D I hw =>
 wpAny_mono (h pins s σ H D (I.wish _) hw) (fun _ _ q=>q.unwish) fun _ _ z=>False.elim z
end
section
variable{X:Cx}{st:Stmt}{rest:List Stmt}{t u:TS}{e:Expr}{te:TE}{pos:Pos}
def wH:TS:=fun D σ H=>D.nx σ H
def tSeq(t u:TS):TS:=fun D σ H=>t { D with nx:=u D } σ H
theorem Ja:PSs X [] wH:=fun _ _ σ H _ I h=>wpAny_execs_nil ⟨σ,H,I,h⟩
theorem XW(h1:PS X st t)(h2:PSs X rest u):PSs X (st::rest) (tSeq t u):=by
 intro pins s σ H D I h
 refine wpAny_execs_cons (thn (h1 pins s σ H { D with nx:=u D } I h) fun f s1 q=>?_)
 cases f with
 |next =>
  obtain⟨σ',H',I',q⟩:=q
  exact h2 pins s1 σ' H' D I' q
 |ret v=>exact q
 |brk=>exact q
 |cont=>exact q
theorem Jb(h1:PS X st t):PSs X [st] t:=by
 intro pins s σ H D I h
 refine wpAny_execs_cons (thn (h1 pins s σ H D I h) fun f s1 q=>?_)
 cases f with
 |next=>exact wpAny_execs_nil q
 |ret v=>exact q
 |brk=>exact q
 |cont=>exact q
theorem Inv.quiet{pins:List (Addr×Obj)}{σ:St}{H:Hp}{s:Shared}(I:Inv X pins σ H s):interactive X.env=false:=by simp[interactive,I.ok.kind]
def QA(te:TE):TS:=fun D σ H=>te σ H fun _ H1=>D.nx σ H1
theorem Jc(he:PE X e te)(hs:swapsWith e none pos.line X.env=pure false:=by rfl):PS X (.Expr e pos) (QA te):=by
 intro pins s σ H D I h
 exact wpAny_Expr_any (thn (he pins s σ H _ I h) fun v s1 ⟨x,H1,I1,r1,q1⟩=>⟨σ,H1,I1,q1⟩) I.quiet hs
def tRet(te:TE):TS:=fun D σ H=>te σ H D.rt
theorem zap(he:PE X e te):PS X (.Return (some e) pos) (tRet te):=by
 intro pins s σ H D I h
 exact wpAny_Return_some (thn (he pins s σ H _ I h) fun v s1 ⟨x,H1,I1,r1,q1⟩=>⟨x,σ,H1,I1,r1,q1⟩)
def tIfS(c:TT)(t u:TS):TS:=fun D σ H=>c σ H fun b H1=>if b=true then t D σ H1 else u D σ H1
theorem zbE{c:Expr}{a b:List Stmt}{tc:TT}(hc:PT X c tc)(ha:PSs X a t)(hb:PSs X b u):PS X (.If c a b pos) (tIfS tc t u):=by
 intro pins s σ H D I h
 refine wpAny_If (thn (hc pins s σ H _ I h) fun d s1 ⟨H1,I1,q1⟩=>?_)
 cases d with
 |true=>exact ha pins s1 σ H1 D I1 q1
 |false=>exact hb pins s1 σ H1 D I1 q1
end
abbrev TG:=V->St->Hp->(St->Hp->Prop)->Prop
abbrev TGs:=List V->St->Hp->(St->Hp->Prop)->Prop
def PG(X:Cx)(target:Expr)(t:TG):Prop :=
 ∀(pins:List (Addr×Obj))(s:Shared)(σ:St)(H:Hp)(v:V)(u:Value)(Q:St->Hp->Prop),Inv X pins σ H s->RelV v u->t v σ H Q ->
  wpAny (model X.prog X.w) X.A (assign target X.env u) (fun _ s'=>∃σ' H',Inv X pins σ' H' s'/\Q σ' H') X.xe s
def PGs(X:Cx)(ts:List Expr)(t:TGs):Prop :=
 ∀(pins:List (Addr×Obj))(s:Shared)(σ:St)(H:Hp)(vs:List V)(us:List Value)(Q:St->Hp->Prop),Inv X pins σ H s->Vals vs us->t vs σ H Q ->
  wpAny (model X.prog X.w) X.A (assignInOrder ((assignEach ts X.env).map (·.2)) us) (fun _ s'=>∃σ' H',Inv X pins σ' H' s'/\Q σ' H') X.xe s
abbrev TSet:=V->V->V->Hp->(Hp->Prop)->Prop
def PSet(X:Cx)(t:TSet):Prop :=
 ∀(pins:List (Addr×Obj))(s:Shared)(σ:St)(H:Hp)(o i v:V)(ov iv u:Value)(Q:Hp->Prop),Inv X pins σ H s->RelV o ov->RelV i iv->RelV v u->t o i v H Q ->
  wpAny (model X.prog X.w) X.A (setItem ov iv u) (fun _ s'=>∃H',Inv X pins σ H' s'/\Q H') X.xe s
section
variable{X:Cx}{pos:Pos}
def vU(i:Nat):TG:=fun v σ H Q=>Q (σ.set i (some v)) H
theorem Jd{i:Nat}{x:Str}(hN:X.N.Nodup)(hi:X.N[i]?=some x)(hx:Loc X.env.scope x)(hf:X.fn x=true\/X.env.scope.names.lookup x=some .local:=by first|exact .inl rfl|exact .inr rfl|assumption):PG X (.Name x pos) (vU i):=by
 intro pins s σ H v u Q I r h
 exact wpAny_assign_Name (Zb I hN hi hx r (fun s' I'=>⟨_,H,I',h⟩) hf)
def gNil:TGs:=fun vs σ H Q=>vs=[]/\Q σ H
def QB(t:TG)(u:TGs):TGs:=fun vs σ H Q=>∃v r,vs=v::r/\t v σ H fun σ' H'=>u r σ' H' Q
theorem Je:PGs X [] gNil:=by
 intro pins s σ H vs us Q I r h
 obtain⟨e,h⟩:=h
 subst e
 cases r
 exact assignInOrder_nil ⟨σ,H,I,h⟩
theorem XX{e:Expr}{es:List Expr}{t:TG}{u:TGs}(h1:PG X e t)(h2:PGs X es u)
  (hs:(assignEach (e::es) X.env).map (·.2)=assign e X.env::(assignEach es X.env).map (·.2):=by rfl):PGs X (e::es) (QB t u):=by
 intro pins s σ H vs us Q I r h
 obtain⟨v,vr,e1,h⟩:=h
 subst e1
 cases r with
 |cons r rr =>
  rw[hs]
  refine assignInOrder_cons (thn (h1 pins s σ H _ _ _ I r h) fun _ s1 ⟨σ1,H1,I1,q1⟩=>?_)
  exact h2 pins s1 σ1 H1 _ _ Q I1 rr q1
def gTup(K:uc)(n:Nat)(t:TGs):TG:=fun v σ H Q=>∃a xs,v=.ref a/\SqT K H a xs/\xs.length=n/\t xs σ H Q
theorem zaq{es:List Expr}{k:Nat}{t:TGs}{n:Nat}(hc:X.calm=true)(h:PGs X es t)
  (hn:(assignEach es X.env).length=n:=by rfl) (hst:(assignEach es X.env).findIdx? (·.1)=none:=by rfl):PG X (.Tuple es k pos) (gTup X.K n t):=by
 intro pins s σ H v u Q I r hw
 obtain⟨a,xs,e1,hq,hl,hw⟩:=hw
 subst e1
 cases r
 obtain⟨its,rv,ht,hz⟩:=I.tuple hq
 refine assign_Tuple_tuple (I.ok.hd hc) ht (by simp[hn,<- hl,rv.length]) hst fun h' hx=>?_
 have I1:Inv X pins σ H { s with heap:=h' }:=I.kept (t':=s.toks) fun b o e=>hx b o (uK (uy e)) e
 exact h pins _ σ H xs _ Q I1 (by simpa using rv) hw
def gSub(to ti:TE)(t:TSet):TG:=fun v σ H Q=>to σ H fun o H1=>ti σ H1 fun i H2=>t o i v H2 fun H3=>Q σ H3
theorem zar{o i:Expr}{to ti:TE}{t:TSet}(ho:PE X o to)(hi:PE X i ti)(hs:PSet X t)
  (ha:∀v,assign (.Subscript o i pos) X.env v=(do
   let ov <- holding [v] (eval o X.env)
   let iv <- holding [v,ov] (eval i X.env)
   standAt pos
   holding [v,ov,iv] (setItem ov iv v)
   release [v,ov,iv] []):=by intro _;rfl):PG X (.Subscript o i pos) (gSub to ti t):=by
 intro pins s σ H v u Q I r h
 rw[ha]
 refine wpAny_bind (wpAny_holding (thn (ho pins s σ H _ I h) fun ov s1 ⟨x,H1,I1,r1,q1⟩=>?_))
 refine wpAny_bind (wpAny_holding (thn (hi pins s1 σ H1 _ I1 q1) fun iv s2 ⟨y,H2,I2,r2,q2⟩=>?_))
 refine wpAny_bind (wpAny_standAt (wpAny_bind (wpAny_holding (thn (hs pins s2 σ H2 x y v ov iv u _ I2 r1 r2 r q2) fun _ s3 ⟨H3,I3,q3⟩=>?_))))
 exact wpAny_release ⟨σ,H3,I3,q3⟩
def tAsg(te:TE)(g:TG):TS:=fun D σ H=>te σ H fun x H1=>g x σ H1 D.nx
theorem zas{tg e:Expr}{te:TE}{g:TG}(he:PE X e te)(hg:PG X tg g)(hs:swapsWithSole [tg] e pos.line X.env=pure false:=by rfl)(hw:swappedStores [tg] e X.env=pure none:=by rfl)
  (h1:(assignEach [tg] X.env).map (·.2)=[assign tg X.env]:=by rfl):PS X (.Assign [tg] e pos) (tAsg te g):=by
 intro pins s σ H D I h
 refine wpAny_Assign_stores (thn (he pins s σ H _ I h) fun v s1 ⟨x,H1,I1,r1,q1⟩=>?_) hs hw
 rw[h1]
 exact thn (hg pins s1 σ H1 x v _ I1 r1 q1) fun _ s2 q=>q
theorem zat{i:Nat}{x:Str}{e:Expr}{te:TE}{pos':Pos}(hN:X.N.Nodup)(hi:X.N[i]?=some x)(hx:Loc X.env.scope x)(he:PE X e te)(hs:swapsWith e (some (.Name x pos')) pos.line X.env=pure false:=by rfl)(hf:X.fn x=true\/X.env.scope.names.lookup x=some .local:=by first|exact .inl rfl|exact .inr rfl|assumption):
  PS X (.Assign [.Name x pos'] e pos) (tAsg te (vU i)):=by
 intro pins s σ H D I h
 refine wpAny_Assign_Name (thn (he pins s σ H _ I h) fun v s1 ⟨y,H1,I1,r1,q1⟩=>?_) hs
 exact Zb I1 hN hi hx r1 (fun s2 I2=>⟨_,H1,I2,q1⟩) hf
def XY(c:TT)(tb:TS):TS:=fun D σ H=>∃W:Nat->St->Hp->Prop,(∃m,W m σ H)/\∀m σ H,W m σ H ->
 c σ H fun b H1=>if b=true then ∃N:St->Hp->Prop,(∀σ' H',N σ' H'->∃m',m' < m/\W m' σ' H')/\tb { D with nx:=N,ct:=N,bk:=D.nx } σ H1 else D.nx σ H1
theorem XZ{c:Expr}{body:List Stmt}{tc:TT}{tb:TS}(hp:PassesOwn (model X.prog X.w) X.A X.env X.xe)(hc:PT X c tc)(hb:PSs X body tb):PS X (.While c body [] pos) (XY tc tb):=by
 intro pins s σ H D I h
 obtain⟨W,⟨m0,w0⟩,turn⟩:=h
 refine wpAny_While (codeAny_whileLoop (fun n s'=>∃σ' H',Inv X pins σ' H' s'/\W n σ' H') ?_ m0 ⟨σ,H,I,w0⟩)
 rintro n s1 ⟨σ1,H1,I1,w1⟩
 refine wpAny_passesOwn hp (thn (hc pins s1 σ1 H1 _ I1 (turn n σ1 H1 w1)) fun b s2 ⟨H2,I2,q2⟩=>?_)
 cases b with
 |true =>
  obtain⟨N,hN,q2⟩:=q2
  rw[if_pos rfl]
  refine wpAny_passesOwn hp (thn (hb pins s2 σ1 H2 _ I2 q2) fun f s3 q3=>?_)
  cases f with
  |next =>
   obtain⟨σ3,H3,I3,n3⟩:=q3
   obtain⟨m',hm,w3⟩:=hN σ3 H3 n3
   exact⟨m',hm,σ3,H3,I3,w3⟩
  |cont =>
   obtain⟨σ3,H3,I3,n3⟩:=q3
   obtain⟨m',hm,w3⟩:=hN σ3 H3 n3
   exact⟨m',hm,σ3,H3,I3,w3⟩
  |brk=>exact q3
  |ret v=>exact q3
 |false =>
  rw[if_neg uA]
  exact wpAny_execs_nil ⟨σ1,H2,I2,q2⟩
end
structure It where
 go:Nat->Hp->Prop
 yld:Nat->Hp->V->Hp->Prop
 stop:Nat->Hp->Prop
def FpOk(X:Cx)(pins:List (Addr×Obj))(H:Hp)(b:Addr):Prop :=
 H b=none/\b≠X.env.locals/\b∉X.fs/\(b∈X.ex\/X.s₀.heap.objs.size<=b)/\(∀x c,X.env.cells.lookup x=some c->c≠b)/\∀p∈X.pn++pins,p.1≠b
theorem Inv.fpOk{X:Cx}{pins:List (Addr×Obj)}{σ:St}{H H':Hp}{s:Shared}{b:Addr}(I:Inv X pins σ H s)(hb:s.heap.objs.size<=b)(hn:H' b=none):FpOk X pins H' b:=by
 refine⟨hn,Nat.ne_of_gt (uC I.lt hb),I.nofs hb,.inr (uD I.sz hb),fun x c e z=>?_,fun p hp z=>?_⟩
 ·obtain⟨v,q⟩:=I.cell x c e
  exact absurd (uC q.lt (by rw[z];exact hb)) (Ut _)
 ·exact absurd (uC (uy (I.pin p hp).1) (by rw[z];exact hb)) (Ut _)
structure Turn(P:Program)(w:World)(K:uc)(tg:Expr)(J:It)(fp:List Addr)(it:Addr)(tn:Nat->Heap->Prop):Prop where
 mem:it∈fp
 obj:∀i h,tn i h->∀b∈fp,∃o,h.get? b=some o/\∀v,o.data≠.cell v
 keep:∀i h h',tn i h->(∀b∈fp,∀o,h.get? b=some o->h'.get? b=some o)->tn i h'
 item:∀(X:Cx),X.prog=P->X.w=w->X.K=K->X.calm=true->∀(i:Nat)(pins:List (Addr×Obj))(s:Shared)(σ:St)(H:Hp)(E:Value->Shared->Prop),Inv X pins σ H s->(∀b∈fp,FpOk X pins H b)->tn i s.heap->J.go i H ->
  wpAny (model P w) X.A (pyNext (.ref it)) (fun r s1=>∃u,r=some u /\
   wpAny (model P w) X.A (letOwnedTupleGo tg (.ref it) u) (fun _ s2=>∃x H',Inv X pins σ H' s2/\RelV x u/\J.yld i H x H'/\tn (i+1) s2.heap/\∀b∈fp,H' b=none) E s1) E s
 done:∀(X:Cx),X.prog=P->X.w=w->X.K=K->X.calm=true->∀(i:Nat)(pins:List (Addr×Obj))(s:Shared)(σ:St)(H:Hp)(E:Value->Shared->Prop),Inv X pins σ H s->(∀b∈fp,FpOk X pins H b)->tn i s.heap->J.stop i H ->
  wpAny (model P w) X.A (pyNext (.ref it)) (fun r s1=>r=none/\Inv X pins σ H s1) E s
 self:∀(A:Around)(i:Nat)(s:Shared)(Q:Value->Shared->Prop)(E:Value->Shared->Prop),tn i s.heap->Q (.ref it) s->wpAny (model P w) A (pyIter (.ref it)) Q E s
abbrev TI:=St->Hp->(It->Hp->Prop)->Prop
def PIE(X:Cx)(pins:List (Addr×Obj))(σ:St)(tg:Expr)(R:It->Hp->Prop)(itv:Value)(s2:Shared):Prop :=
 ∃(it:Addr)(fp:List Addr)(tn:Nat->Heap->Prop)(J:It)(H':Hp),itv=.ref it/\Inv X pins σ H' s2/\Turn X.prog X.w X.K tg J fp it tn/\tn 0 s2.heap/\(∀b∈fp,FpOk X pins H' b)/\R J H'
def PI(X:Cx)(tg iter:Expr)(wi:TI):Prop :=
 ∀(pins:List (Addr×Obj))(s:Shared)(σ:St)(H:Hp)(R:It->Hp->Prop),Inv X pins σ H s->wi σ H R ->
  wpAny (model X.prog X.w) X.A (eval iter X.env) (fun v s1=>wpAny (model X.prog X.w) X.A (pyIter v) (PIE X pins σ tg R) X.xe s1) X.xe s
theorem Ys{M:Model}{A:Around}{E:Value->Shared->Prop}{s:Shared}{tg:Expr}{it:Addr}{u:Value}{o:Obj}{n:String}{vs:Array Value}{Q:Unit->Shared->Prop}(ho:s.heap.get? it=some o)(hc:o.cls=.type n)(hd:o.data=.fields vs)
  (hn:["enumerate","zip","dict_itemiterator","dict_reverseitemiterator","odict_iterator","itertools.zip_longest","itertools.pairwise"].contains n=false) (hQ:Q () s):wpAny M A (letOwnedTupleGo tg (.ref it) u) Q E s:=by
 unfold letOwnedTupleGo
 cases tg<;>first
  |exact wpAny_pure hQ
  | (cases u<;>first
    |exact wpAny_pure hQ
    | (refine wpAny_bind (wpAny_load ho ?_)
       rw[hc,hd]
       show wpAny M A (if(["enumerate","zip","dict_itemiterator","dict_reverseitemiterator","odict_iterator","itertools.zip_longest","itertools.pairwise"].contains n && vs[0]? == some (rawInt _))=true then _ else _) Q E s
       rw[if_neg (by intro h;rw[hn,UR]at h;cases h)]
       exact wpAny_pure hQ))
def Itl(K:uc)(a:Addr):It :=
 ⟨fun i H=>∃xs x,SqL K H a xs/\xs[i]?=some x,fun i H x H'=>H'=H/\∀xs,SqL K H a xs->xs[i]?=some x,fun i H=>∃xs,SqL K H a xs/\xs.length<=i⟩
def Itt(K:uc)(a:Addr):It :=
 ⟨fun i H=>∃xs x,SqT K H a xs/\xs[i]?=some x,fun i H x H'=>H'=H/\∀xs,SqT K H a xs->xs[i]?=some x,fun i H=>∃xs,SqT K H a xs/\xs.length<=i⟩
def Itr(lo:Int)(n:Nat):It:=⟨fun i _=>i < n,fun i H x H'=>H'=H/\x=.int (lo+i),fun i _=>n<=i⟩
theorem Xl{P:Program}{w:World}{K:uc}{tg:Expr}(a it:Addr):Turn P w K tg (Itl K a) [it] it (fun i h=>h.IsListIter it a i) where
 mem:=by simp
 obj:=fun i h st b hb=>by
  have e:b=it:=by simpa using hb
  subst e
  obtain⟨o,e,c,d⟩:=st
  exact⟨o,e,fun v z=>by rw[d]at z;cases z⟩
 keep:=fun i h h' st k=>st.at fun o e=>k it (by simp) o e
 item:=by
  intro X hP hw hK hc i pins s σ H E I hf st hg
  subst hP hw hK
  obtain⟨xs,x,hq,hx⟩:=hg
  obtain⟨its,rv,p,hz⟩:=I.list hq
  obtain⟨u,hu,ru⟩:=rv.get hx
  obtain⟨f0,f1,f2,f3,f4,f5⟩:=hf it (by simp)
  refine wpAny_pyNext_list_item st p.isList (x:=u) (by simpa using hu) fun h' st' sb=>?_
  have I1:Inv X pins σ H { s with heap:=h' }:=I.turned (t':=s.toks) (fun b o hb e=>(sb.2 b hb).trans e) f0 f1 f3 f4 f5
  obtain⟨o,e,c,d⟩:=id st'
  exact⟨u,rfl,Ys (s:={ s with heap:=h' }) e c d (by decide) ⟨x,H,I1,ru,⟨rfl,fun ys hy=>by rw[I.list_inj hy hq];exact hx⟩,st',fun b hb=>(hf b hb).1⟩⟩
 done:=by
  intro X hP hw hK hc i pins s σ H E I hf st hg
  subst hP hw hK
  obtain⟨xs,hq,hx⟩:=hg
  obtain⟨its,rv,p,hz⟩:=I.list hq
  obtain⟨f0,f1,f2,f3,f4,f5⟩:=hf it (by simp)
  have hl:=rv.length
  exact wpAny_pyNext_list_end (I.ok.hd hc) st p.isList (by simp;lia) fun h' eb=>⟨rfl,I.turned (t':=s.toks) (fun b o hb e=>eb b o hb e) f0 f1 f3 f4 f5⟩
 self:=fun _ _ _ _ _ st h=>wpAny_pyIter_listiter st h
theorem ZN{P:Program}{w:World}{K:uc}{tg:Expr}(a it:Addr):Turn P w K tg (Itt K a) [it] it (fun i h=>h.IsTupleIter it a i) where
 mem:=by simp
 obj:=fun i h st b hb=>by
  have e:b=it:=by simpa using hb
  subst e
  obtain⟨o,e,c,d⟩:=st
  exact⟨o,e,fun v z=>by rw[d]at z;cases z⟩
 keep:=fun i h h' st k=>st.at fun o e=>k it (by simp) o e
 item:=by
  intro X hP hw hK hc i pins s σ H E I hf st hg
  subst hP hw hK
  obtain⟨xs,x,hq,hx⟩:=hg
  obtain⟨its,rv,p,hz⟩:=I.tuple hq
  obtain⟨u,hu,ru⟩:=rv.get hx
  obtain⟨f0,f1,f2,f3,f4,f5⟩:=hf it (by simp)
  refine wpAny_pyNext_tuple_item st (show s.heap.IsTuple a its.toArray from p) (x:=u) (by simpa using hu) fun h' st' sb=>?_
  have I1:Inv X pins σ H { s with heap:=h' }:=I.turned (t':=s.toks) (fun b o hb e=>(sb.2 b hb).trans e) f0 f1 f3 f4 f5
  obtain⟨o,e,c,d⟩:=id st'
  exact⟨u,rfl,Ys (s:={ s with heap:=h' }) e c d (by decide) ⟨x,H,I1,ru,⟨rfl,fun ys hy=>by rw[I.tuple_inj hy hq];exact hx⟩,st',fun b hb=>(hf b hb).1⟩⟩
 done:=by
  intro X hP hw hK hc i pins s σ H E I hf st hg
  subst hP hw hK
  obtain⟨xs,hq,hx⟩:=hg
  obtain⟨its,rv,p,hz⟩:=I.tuple hq
  obtain⟨f0,f1,f2,f3,f4,f5⟩:=hf it (by simp)
  have hl:=rv.length
  exact wpAny_pyNext_tuple_end (I.ok.hd hc) st (show s.heap.IsTuple a its.toArray from p) (by simp;lia) fun h' eb=>⟨rfl,I.turned (t':=s.toks) (fun b o hb e=>eb b o hb e) f0 f1 f3 f4 f5⟩
 self:=fun _ _ _ _ _ st h=>wpAny_pyIter_tupleiter st h
theorem ZO{P:Program}{w:World}{K:uc}{tg:Expr}(it:Addr)(lo:Int)(n:Nat):Turn P w K tg (Itr lo n) [it] it (fun i h=>IsRangeIter h it (lo+(i:Nat)*1) ((n:Int)-(i:Nat)) 1) where
 mem:=by simp
 obj:=fun i h st b hb=>by
  have e:b=it:=by simpa using hb
  subst e
  exact⟨_,st,fun v z=>by
   have z':Data.fields _=Data.cell v:=z
   cases z'⟩
 keep:=fun i h h' st k=>k it (by simp) _ st
 item:=by
  intro X hP hw hK hc i pins s σ H E I hf st hg
  subst hP hw hK
  obtain⟨f0,f1,f2,f3,f4,f5⟩:=hf it (by simp)
  have W:=Walks.range (prog:=X.prog) (w:=X.w) (I.ok.hd hc) it lo 1 n
  refine W.item i s _ _ hg st fun v h' tk hv st' kk=>?_
  obtain⟨t,rfl⟩:=hv
  have I1:Inv X pins σ H { s with heap:=h',toks:=tk }:=I.turned (fun b o hb e=>kk b o (by simpa using hb) e) f0 f1 f3 f4 f5
  refine⟨_,rfl,Ys (s:={ s with heap:=h',toks:=tk }) (n:="range_iterator") st' rfl rfl (by decide) ⟨.int (lo+i),H,I1,⟨t,?_⟩,⟨rfl,rfl⟩,st',fun b hb=>(hf b hb).1⟩⟩
  rw[Int.mul_one]
 done:=by
  intro X hP hw hK hc i pins s σ H E I hf st hg
  subst hP hw hK
  obtain⟨f0,f1,f2,f3,f4,f5⟩:=hf it (by simp)
  exact wpAny_pyNext_range_end (I.ok.hd hc) st (by have:n<=i:=hg;lia) fun h' eb=>⟨rfl,I.turned (t':=s.toks) (fun b o hb e=>eb b o hb e) f0 f1 f3 f4 f5⟩
 self:=fun _ _ _ _ _ st h=>wpAny_pyIter_rangeiter st h
section
variable{X:Cx}{tg:Expr}
def QC(K:uc)(tl:TE):TI:=fun σ H R=>tl σ H fun x H1=>∃a,x=.ref a/\(∃xs,SqL K H1 a xs)/\R (Itl K a) H1
def iTup(K:uc)(tl:TE):TI:=fun σ H R=>tl σ H fun x H1=>∃a,x=.ref a/\(∃xs,SqT K H1 a xs)/\R (Itt K a) H1
theorem Jf{l:Expr}{tl:TE}(hl:PE X l tl):PI X tg l (QC X.K tl):=by
 intro pins s σ H R I h
 refine thn (hl pins s σ H _ I h) fun v s1 ⟨x,H1,I1,r1,q1⟩=>?_
 obtain⟨a,e,⟨xs,hq⟩,q⟩:=q1
 subst e
 cases r1
 obtain⟨its,rv,p,hz⟩:=I1.list hq
 refine wpAny_pyIter_list p.isList ?_
 refine⟨s1.heap.objs.size,[s1.heap.objs.size],_,_,H1,rfl,I1.kept (t':=s1.toks) fun b o e=>ue _ e,Xl a _,⟨_,ux _ rfl,rfl,rfl⟩,fun b hb=>?_,q⟩
 have e:b=s1.heap.objs.size:=by simpa using hb
 subst e
 exact I1.fpOk (ud _) (I1.hok.fresh (ud _))
theorem zau{l:Expr}{tl:TE}(hl:PE X l tl):PI X tg l (iTup X.K tl):=by
 intro pins s σ H R I h
 refine thn (hl pins s σ H _ I h) fun v s1 ⟨x,H1,I1,r1,q1⟩=>?_
 obtain⟨a,e,⟨xs,hq⟩,q⟩:=q1
 subst e
 cases r1
 obtain⟨its,rv,p,hz⟩:=I1.tuple hq
 refine wpAny_pyIter_tuple (show s1.heap.IsTuple a its.toArray from p) ?_
 refine⟨s1.heap.objs.size,[s1.heap.objs.size],_,_,H1,rfl,I1.kept (t':=s1.toks) fun b o e=>ue _ e,ZN a _,⟨_,ux _ rfl,rfl,rfl⟩,fun b hb=>?_,q⟩
 have e:b=s1.heap.objs.size:=by simpa using hb
 subst e
 exact I1.fpOk (ud _) (I1.hok.fresh (ud _))
theorem X0{pins:List (Addr×Obj)}{σ:St}{H:Hp}{s:Shared}{R:It->Hp->Prop}{E:Value->Shared->Prop}{lo hi:Int}{t u v:Tok}{tk:Nat}(I:Inv X pins σ H s)(h1:-(2 ^ 62)<=lo)(h2:lo < 2 ^ 62)(h3:-(2 ^ 62)<=hi)(h4:hi < 2 ^ 62)
  (q:R (Itr lo (hi-lo).toNat) H):wpAny (model X.prog X.w) X.A (pyIter (.ref s.heap.objs.size)) (PIE X pins σ tg R) E { s with heap:=s.heap.push { cls:=.type "range",data:=.fields #[.int lo t,.int hi u,.int 1 v] },toks:=tk }:=by
 refine wpAny_pyIter_range (IsRange.new ..) (small_one h1 h2 h3 h4) ?_
 have I1:Inv X pins σ H { s with heap:=s.heap.push { cls:=.type "range",data:=.fields #[.int lo t,.int hi u,.int 1 v] },toks:=tk }:=I.kept fun b o e=>ue _ e
 refine⟨(s.heap.push { cls:=.type "range",data:=.fields #[.int lo t,.int hi u,.int 1 v] }).objs.size,[(s.heap.push { cls:=.type "range",data:=.fields #[.int lo t,.int hi u,.int 1 v] }).objs.size],_,_,H,rfl,
  I1.kept (t':=tk) fun b o e=>ue _ e,ZO _ lo (hi-lo).toNat,?_,fun b hb=>?_,q⟩
 ·have e1:lo+((0:Nat):Int)*1=lo:=by simp
  have e2:(((hi-lo).toNat:Nat):Int)-((0:Nat):Int)=Builtin.Range.rangeSize lo hi 1:=by rw[rangeSize_one];split<;>lia
  show IsRangeIter _ _ (lo+((0:Nat):Int)*1) ((((hi-lo).toNat:Nat):Int)-((0:Nat):Int)) 1
  rw[e1,e2]
  exact ux _ rfl
 ·have e:b=(s.heap.push { cls:=.type "range",data:=.fields #[.int lo t,.int hi u,.int 1 v] }).objs.size:=by simpa using hb
  subst e
  exact I1.fpOk (ud _) (I1.hok.fresh (ud _))
def QD(ta:TA):TI:=fun σ H R=>ta σ H fun vs H1=>∃j:Int,vs=[.int j]/\-(2 ^ 62)<=j/\j < 2 ^ 62/\R (Itr 0 j.toNat) H1
theorem Xm{a:Expr}{ta:TA}{p pos:Pos}(hg:Gl X "range")(hm:X.mg "range"=none)(ha:PA X [a] ta)(hs:starEach [a] X.env=[(false,eval a X.env)]:=by rfl):PI X tg (.Call (.Name "range" p) [a] [] pos) (QD ta):=by
 intro pins s σ H R I h
 refine Call_ (wZ I hg hm boot_range (UD (thn (ha pos pins s σ H _ I h) fun us s1 ⟨vs,H1,I1,r1,q1⟩=>?_) hs rfl))
 obtain⟨j,e,q1,q2,q⟩:=q1
 subst e
 cases r1 with
 |cons r rr =>
  cases rr
  obtain⟨t,rfl⟩:=r
  exact call_range_1 (X0 I1 (by lia) (by lia) q1 q2 (by simpa using q))
def tFor(wi:TI)(g:TG)(tb:TS):TS:=fun D σ H=>wi σ H fun J H1=>∃W:Nat->Nat->St->Hp->Prop,(∃m,W 0 m σ H1)/\∀i m σ H,W i m σ H ->
 (J.stop i H/\D.nx σ H)\/(J.go i H/\∃N:St->Hp->Prop,(∀σ' H',N σ' H'->∃m',m' < m/\W (i+1) m' σ' H')/\∀x H',J.yld i H x H'->g x σ H' fun σ2 H2=>tb { D with nx:=N,ct:=N,bk:=D.nx } σ2 H2)
def w9(fp:List Addr)(h:Heap):List (Addr×Obj):=fp.filterMap fun b=>(h.get? b).map fun o=>(b,o)
theorem xF{fp:List Addr}{h:Heap}{b:Addr}{o:Obj}(hb:b∈fp)(e:h.get? b=some o):(b,o)∈w9 fp h:=List.mem_filterMap.mpr ⟨b,hb,by rw[e];rfl⟩
theorem Xn{fp:List Addr}{h:Heap}{p:Addr×Obj}(hp:p∈w9 fp h):p.1∈fp/\h.get? p.1=some p.2:=by
 obtain⟨b,hb,e⟩:=List.mem_filterMap.mp hp
 cases q:h.get? b with
 |none=>rw[q]at e;cases e
 |some o =>
  rw[q]at e
  have e':(b,o)=p:=u9.inj e
  subst e'
  exact⟨hb,q⟩
theorem Inv.pinned{pins:List (Addr×Obj)}{σ:St}{H:Hp}{s:Shared}{fp:List Addr}(I:Inv X pins σ H s)(hf:∀b∈fp,FpOk X pins H b)(ho:∀b∈fp,∃o,s.heap.get? b=some o/\∀v,o.data≠.cell v):Inv X (pins++w9 fp s.heap) σ H s :=
 I.pins_of fun p hp=>(uv.mp hp).elim (fun z=>I.pin p (uh _ z)) fun z=>by
  obtain⟨hb,e⟩:=Xn z
  obtain⟨f0,f1,f2,_⟩:=hf p.1 hb
  obtain⟨o,e',d⟩:=ho p.1 hb
  rw[e]at e';cases e'
  exact⟨e,f0,f1,f2,d⟩
theorem Inv.unpinned{pins pl:List (Addr×Obj)}{σ:St}{H:Hp}{s:Shared}(I:Inv X (pins++pl) σ H s):Inv X pins σ H s:=I.pins_of fun p hp=>I.pin p (uh _ (uk _ hp))
theorem zav{iter:Expr}{body:List Stmt}{wi:TI}{g:TG}{tb:TS}{pos:Pos}(hp:PassesOwn (model X.prog X.w) X.A X.env X.xe)(hc:X.calm=true)(hi:PI X tg iter wi)(hg:PG X tg g)(hb:PSs X body tb)
  (hs:∀x,foldedSetIterable iter X.env x=pure x:=by intro _;rfl):PS X (.For tg iter body [] pos) (tFor wi g tb):=by
 intro pins s σ H D I h
 refine wpAny_For (thn (hi pins s σ H _ I h) fun v s1 h1=>thn h1 fun itv s2 h2=>?_) hs
 obtain⟨it,fp,tn,J,H2,e,I2,T,st2,f2,W,⟨m0,w0⟩,turn⟩:=h2
 subst e
 have stat:∀{H':Hp},(∀b∈fp,H' b=none)->∀b∈fp,FpOk X pins H' b:=fun hn b hb=>⟨hn b hb,(f2 b hb).2⟩
 refine codeAny_forLoop_any (fun n s'=>∃i σ' H',Inv X pins σ' H' s'/\tn i s'.heap/\(∀b∈fp,H' b=none)/\W i n σ' H') ?_ m0 ⟨0,σ,H2,I2,st2,fun b hb=>(f2 b hb).1,w0⟩
 rintro n s3 ⟨i,σ3,H3,I3,st3,fr3,w3⟩
 rcases turn i n σ3 H3 w3 with⟨stop,qn⟩|⟨go,N,hN,step⟩
 ·refine wpAny_passesOwn hp (thn (T.done X rfl rfl rfl hc i pins s3 σ3 H3 X.xe I3 (stat fr3) st3 stop) fun r s4 ⟨hr,I4⟩=>?_)
  subst hr
  exact wpAny_execs_nil ⟨σ3,H3,I4,qn⟩
 ·refine wpAny_passesOwn hp (thn (T.item X rfl rfl rfl hc i pins s3 σ3 H3 X.xe I3 (stat fr3) st3 go) fun r s4 ⟨u,hr,h4⟩=>?_)
  subst hr
  refine wpAny_passesOwn hp (thn h4 fun _ s5 ⟨x,H5,I5,r5,y5,st5,fr5⟩=>?_)
  have I5':=I5.pinned (stat fr5) (T.obj _ _ st5)
  refine wpAny_passesOwn hp (thn (hg _ s5 σ3 H5 x u _ I5' r5 (step x H5 y5)) fun _ s6 ⟨σ6,H6,I6,q6⟩=>?_)
  refine wpAny_passesOwn hp (thn (hb _ s6 σ6 H6 _ I6 q6) fun f s7 q7=>?_)
  have again:∀{σ7:St}{H7:Hp},Inv X (pins++w9 fp s5.heap) σ7 H7 s7->N σ7 H7->∃m,m < n/\∃i σ' H',Inv X pins σ' H' s7/\tn i s7.heap/\(∀b∈fp,H' b=none)/\W i m σ' H':=fun{σ7 H7} I7 n7=>by
   obtain⟨m',hm,w7⟩:=hN σ7 H7 n7
   refine⟨m',hm,i+1,σ7,H7,I7.unpinned,T.keep _ _ _ st5 fun b hb o e=>(I7.pin (b,o) (uh _ (uh _ (xF hb e)))).1,fun b hb=>?_,w7⟩
   obtain⟨o,e,d⟩:=T.obj _ _ st5 b hb
   exact(I7.pin (b,o) (uh _ (uh _ (xF hb e)))).2.1
  cases f with
  |next=>obtain⟨σ7,H7,I7,n7⟩:=q7;exact again I7 n7
  |cont=>obtain⟨σ7,H7,I7,n7⟩:=q7;exact again I7 n7
  |brk=>obtain⟨σ7,H7,I7,q7⟩:=q7;exact⟨σ7,H7,I7.unpinned,q7⟩
  |ret v=>obtain⟨x7,σ7,H7,I7,r7,q7⟩:=q7;exact⟨x7,σ7,H7,I7.unpinned,r7,q7⟩
end
theorem yQ{K:uc}{a:Addr}{xs:List V}{g:TG}{tb:TS}{D:Ends}{σ:St}{H:Hp}(Pv:Nat->St->Hp->Prop)(h0:Pv 0 σ H)(hl:∀i σ H,i<=xs.length->Pv i σ H->SqL K H a xs)
  (hs:∀i x σ H,xs[i]?=some x->Pv i σ H->g x σ H fun σ2 H2=>tb { D with nx:=Pv (i+1),ct:=Pv (i+1),bk:=D.nx } σ2 H2) (hd:∀σ H,Pv xs.length σ H->D.nx σ H) :
  ∃W:Nat->Nat->St->Hp->Prop,(∃m,W 0 m σ H)/\∀i m σ H,W i m σ H ->
   ((Itl K a).stop i H/\D.nx σ H)\/((Itl K a).go i H/\∃N:St->Hp->Prop,(∀σ' H',N σ' H'->∃m',m' < m/\W (i+1) m' σ' H')/\∀x H',(Itl K a).yld i H x H'->g x σ H' fun σ2 H2=>tb { D with nx:=N,ct:=N,bk:=D.nx } σ2 H2):=by
 refine⟨fun i m σ H=>m=xs.length-i/\i<=xs.length/\Pv i σ H,⟨xs.length,by simp,uN _,h0⟩,?_⟩
 rintro i m σ H ⟨rfl,hi,p⟩
 have q:=hl i σ H hi p
 by_cases hlt:i < xs.length
 ·refine .inr ⟨⟨xs,xs[i],q,by simp[hlt]⟩,Pv (i+1),fun σ' H' p'=>⟨xs.length-(i+1),by lia,rfl,hlt,p'⟩,fun x H' y=>?_⟩
  obtain⟨e,y⟩:=y
  subst e
  exact hs i x σ _ (y xs q) p
 ·have e:i=xs.length:=by lia
  subst e
  exact .inl ⟨⟨xs,q,ud _⟩,hd σ H p⟩
theorem yt{K:uc}{a:Addr}{xs:List V}{g:TG}{tb:TS}{D:Ends}{σ:St}{H:Hp}(Pv:Nat->St->Hp->Prop)(h0:Pv 0 σ H)(hl:∀i σ H,i<=xs.length->Pv i σ H->SqT K H a xs)
  (hs:∀i x σ H,xs[i]?=some x->Pv i σ H->g x σ H fun σ2 H2=>tb { D with nx:=Pv (i+1),ct:=Pv (i+1),bk:=D.nx } σ2 H2) (hd:∀σ H,Pv xs.length σ H->D.nx σ H) :
  ∃W:Nat->Nat->St->Hp->Prop,(∃m,W 0 m σ H)/\∀i m σ H,W i m σ H ->
   ((Itt K a).stop i H/\D.nx σ H)\/((Itt K a).go i H/\∃N:St->Hp->Prop,(∀σ' H',N σ' H'->∃m',m' < m/\W (i+1) m' σ' H')/\∀x H',(Itt K a).yld i H x H'->g x σ H' fun σ2 H2=>tb { D with nx:=N,ct:=N,bk:=D.nx } σ2 H2):=by
 refine⟨fun i m σ H=>m=xs.length-i/\i<=xs.length/\Pv i σ H,⟨xs.length,by simp,uN _,h0⟩,?_⟩
 rintro i m σ H ⟨rfl,hi,p⟩
 have q:=hl i σ H hi p
 by_cases hlt:i < xs.length
 ·refine .inr ⟨⟨xs,xs[i],q,by simp[hlt]⟩,Pv (i+1),fun σ' H' p'=>⟨xs.length-(i+1),by lia,rfl,hlt,p'⟩,fun x H' y=>?_⟩
  obtain⟨e,y⟩:=y
  subst e
  exact hs i x σ _ (y xs q) p
 ·have e:i=xs.length:=by lia
  subst e
  exact .inl ⟨⟨xs,q,ud _⟩,hd σ H p⟩
theorem yR{lo:Int}{n:Nat}{g:TG}{tb:TS}{D:Ends}{σ:St}{H:Hp}(Pv:Nat->St->Hp->Prop)(h0:Pv 0 σ H)
  (hs:∀i σ H,i < n->Pv i σ H->g (.int (lo+i)) σ H fun σ2 H2=>tb { D with nx:=Pv (i+1),ct:=Pv (i+1),bk:=D.nx } σ2 H2) (hd:∀σ H,Pv n σ H->D.nx σ H) :
  ∃W:Nat->Nat->St->Hp->Prop,(∃m,W 0 m σ H)/\∀i m σ H,W i m σ H ->
   ((Itr lo n).stop i H/\D.nx σ H)\/((Itr lo n).go i H/\∃N:St->Hp->Prop,(∀σ' H',N σ' H'->∃m',m' < m/\W (i+1) m' σ' H')/\∀x H',(Itr lo n).yld i H x H'->g x σ H' fun σ2 H2=>tb { D with nx:=N,ct:=N,bk:=D.nx } σ2 H2):=by
 refine⟨fun i m σ H=>m=n-i/\i<=n/\Pv i σ H,⟨n,by simp,uN _,h0⟩,?_⟩
 rintro i m σ H ⟨rfl,hi,p⟩
 by_cases hlt:i < n
 ·refine .inr ⟨hlt,Pv (i+1),fun σ' H' p'=>⟨n-(i+1),by lia,rfl,hlt,p'⟩,fun x H' y=>?_⟩
  obtain⟨e,y⟩:=y
  subst e y
  exact hs i σ _ hlt p
 ·have e:i=n:=by lia
  subst e
  exact .inl ⟨ud _,hd σ H p⟩
abbrev R2:=V->V->Hp->VK->Prop
def OpR(X:Cx)(f:Value->Value->Sem Value)(r:R2):Prop :=
 ∀(pins:List (Addr×Obj))(s:Shared)(σ:St)(H:Hp)(x y:V)(v u:Value)(Q:VK),Inv X pins σ H s->RelV x v->RelV y u->r x y H Q ->
  wpAny (model X.prog X.w) X.A (f v u) (EP X pins σ Q) X.xe s
def UnR(X:Cx)(f:Value->Sem Value)(r:V->Hp->VK->Prop):Prop :=
 ∀(pins:List (Addr×Obj))(s:Shared)(σ:St)(H:Hp)(x:V)(v:Value)(Q:VK),Inv X pins σ H s->RelV x v->r x H Q ->
  wpAny (model X.prog X.w) X.A (f v) (EP X pins σ Q) X.xe s
def yJ(X:Cx)(f:Value)(r:List V->Hp->VK->Prop):Prop :=
 ∀(pins:List (Addr×Obj))(s:Shared)(σ:St)(H:Hp)(xs:List V)(us:List Value)(Q:VK),Inv X pins σ H s->Vals xs us->r xs H Q ->
  wpAny (model X.prog X.w) X.A (call f us) (EP X pins σ Q) X.xe s
def tOp(r:R2)(ta tb:TE):TE:=fun σ H Q=>ta σ H fun x H1=>tb σ H1 fun y H2=>r x y H2 Q
def tUn(r:V->Hp->VK->Prop)(ta:TE):TE:=fun σ H Q=>ta σ H fun x H1=>r x H1 Q
def rI(C:Int->Int->Prop)(g:Int->Int->V):R2:=fun x y H Q=>∃i j,x=.int i/\y=.int j/\C i j/\Q (g i j) H
def rI0(g:Int->Int->V):R2:=fun x y H Q=>∃i j,x=.int i/\y=.int j/\Q (g i j) H
def rU(g:Int->V):V->Hp->VK->Prop:=fun x H Q=>∃i,x=.int i/\Q (g i) H
section
variable{X:Cx}{a b c:Expr}{ta tb tc:TE}{pos:Pos}
theorem binT(ha:PE X a ta)(hb:PE X b tb){pins:List (Addr×Obj)}{s:Shared}{σ:St}{H:Hp}{R:V->V->Hp->Prop}(I:Inv X pins σ H s)
  (h:ta σ H fun x H1=>tb σ H1 fun y H2=>R x y H2) {Q:Value->Shared->Prop} {f:Value->Value->Sem Value}
  (hf:∀v u s2 x y H2,Inv X pins σ H2 s2->RelV x v->RelV y u->R x y H2->wpAny (model X.prog X.w) X.A (f v u) Q X.xe s2) :
  wpAny (model X.prog X.w) X.A (eval a X.env) (fun v s₁=>wpAny (model X.prog X.w) X.A (eval b X.env) (fun u s₂=>wpAny (model X.prog X.w) X.A (f v u) Q X.xe s₂) X.xe s₁) X.xe s:=by
 refine thn (ha pins s σ H _ I h) fun v s1 ⟨x,H1,I1,r1,q1⟩=>?_
 refine thn (hb pins s1 σ H1 _ I1 q1) fun u s2 ⟨y,H2,I2,r2,q2⟩=>?_
 exact hf v u s2 x y H2 I2 r1 r2 q2
theorem zbF{op:Operator}{r:R2}(ho:OpR X (binaryOp op) r)(ha:PE X a ta)(hb:PE X b tb):PE X (.BinOp a op b pos) (tOp r ta tb):=by
 intro pins s σ H Q I h
 exact wpAny_BinOp (binT ha hb I h fun v u s2 x y H2 I2 rx ry q=>ho pins s2 σ H2 x y v u Q I2 rx ry q)
theorem zbG{op:UnaryOp}{r:V->Hp->VK->Prop}(ho:UnR X (unaryOp op) r)(ha:PE X a ta):PE X (.UnaryOp op a pos) (tUn r ta):=by
 intro pins s σ H Q I h
 exact UnaryOp_ (thn (ha pins s σ H _ I h) fun v s1 ⟨x,H1,I1,r1,q1⟩=>ho pins s1 σ H1 x v Q I1 r1 q1)
theorem opI{f:Value->Value->Sem Value}{C:Int->Int->Prop}{g:Int->Int->Int}
  (rule:∀(i j:Int)(t u:Tok)(s:Shared)(Q:Value->Shared->Prop)(E:Value->Shared->Prop),C i j->Q (.int (g i j) s.toks) { s with toks:=s.toks+1 }->wpAny (model X.prog X.w) X.A (f (.int i t) (.int j u)) Q E s) :
  OpR X f (rI C fun i j=>.int (g i j)):=by
 intro pins s σ H x y v u Q I rx ry h
 obtain⟨i,j,rfl,rfl,hc,q⟩:=h
 obtain⟨t,rfl⟩:=rx
 obtain⟨t',rfl⟩:=ry
 exact rule i j t t' s _ _ hc ⟨.int (g i j),H,I.tok _,⟨_,rfl⟩,q⟩
theorem opI0{f:Value->Value->Sem Value}{g:Int->Int->Int}
  (rule:∀(i j:Int)(t u:Tok)(s:Shared)(Q:Value->Shared->Prop)(E:Value->Shared->Prop),Q (.int (g i j) s.toks) { s with toks:=s.toks+1 }->wpAny (model X.prog X.w) X.A (f (.int i t) (.int j u)) Q E s) :
  OpR X f (rI0 fun i j=>.int (g i j)):=by
 intro pins s σ H x y v u Q I rx ry h
 obtain⟨i,j,rfl,rfl,q⟩:=h
 obtain⟨t,rfl⟩:=rx
 obtain⟨t',rfl⟩:=ry
 exact rule i j t t' s _ _ ⟨.int (g i j),H,I.tok _,⟨_,rfl⟩,q⟩
theorem opB0{f:Value->Value->Sem Value}{g:Int->Int->Bool}
  (rule:∀(i j:Int)(t u:Tok)(s:Shared)(Q:Value->Shared->Prop)(E:Value->Shared->Prop),Q (.bool (g i j)) s->wpAny (model X.prog X.w) X.A (f (.int i t) (.int j u)) Q E s) :
  OpR X f (rI0 fun i j=>.bl (g i j)):=by
 intro pins s σ H x y v u Q I rx ry h
 obtain⟨i,j,rfl,rfl,q⟩:=h
 obtain⟨t,rfl⟩:=rx
 obtain⟨t',rfl⟩:=ry
 exact rule i j t t' s _ _ ⟨.bl (g i j),H,I,rfl,q⟩
def CDiv(i j:Int):Prop:=0 < j/\j < 1073741824
def CMul(i j:Int):Prop:=(-(2 ^ 64) < i/\i < 2 ^ 64)\/(-(2 ^ 64) < j/\j < 2 ^ 64)
theorem CMul.ok{i j:Int}(h:CMul i j):IntMulOk i j:=by
 rcases h with⟨h1,h2⟩|⟨h1,h2⟩
 ·exact .of_left (intBits_le_64 h1 h2)
 ·exact .of_right (intBits_le_64 h1 h2)
theorem zaw:OpR X (binaryOp .Add) (rI0 fun i j=>.int (i+j)):=opI0 fun _ _ _ _ _ _ _ q=>add_int q
theorem zax:OpR X (binaryOp .Sub) (rI0 fun i j=>.int (i-j)):=opI0 fun _ _ _ _ _ _ _ q=>sub_int q
theorem zay:OpR X (binaryOp .Mult) (rI CMul fun i j=>.int (i*j)):=opI fun _ _ _ _ _ _ _ hc q=>mul_int q hc.ok
theorem Jg:OpR X (binaryOp .FloorDiv) (rI CDiv fun i j=>.int (i / j)):=opI fun i j _ _ _ _ _ hc q=>by
 have h1:(0:Int) < j:=hc.1
 have h2:j < 1073741824:=hc.2
 exact floordiv_int (by lia) (by rw[Int.fdiv_eq_ediv_of_nonneg i (by lia)];exact q) (.inl (PyProof.noPylong_small (by lia)))
theorem zaz:OpR X (binaryOp .Mod) (rI (fun _ j=>0 < j) fun i j=>.int (i % j)):=opI fun i j _ _ _ _ _ hc q=>by
 have h1:(0:Int) < j:=hc
 exact mod_int' (by lia) (by rw[Int.fmod_eq_emod_of_nonneg i (by lia)];exact q)
theorem unI{f:Value->Sem Value}{g:Int->Int}
  (rule:∀(i:Int)(t:Tok)(s:Shared)(Q:Value->Shared->Prop)(E:Value->Shared->Prop),Q (.int (g i) s.toks) { s with toks:=s.toks+1 }->wpAny (model X.prog X.w) X.A (f (.int i t)) Q E s) :
  UnR X f (rU fun i=>.int (g i)):=by
 intro pins s σ H x v Q I rx h
 obtain⟨i,rfl,q⟩:=h
 obtain⟨t,rfl⟩:=rx
 exact rule i t s _ _ ⟨.int (g i),H,I.tok _,⟨_,rfl⟩,q⟩
theorem zaA:UnR X (unaryOp .USub) (rU fun i=>.int (-i)):=unI fun _ _ _ _ _ q=>neg_int q
def scal:V->V->Bool
 |.non,.non=>true|.non,.int _=>true|.int _,.non=>true|.non,.bl _=>true|.bl _,.non=>true|.non,.str _=>true|.str _,.non=>true
 |.int _,.int _=>true|.bl _,.bl _=>true|.str _,.str _=>true|.byt _,.byt _=>true
 |.int _,.str _=>true|.str _,.int _=>true|.bl _,.str _=>true|.str _,.bl _=>true
 |_,_=>false
def rEq:R2:=fun x y H Q=>scal x y=true/\Q (.bl (decide (x=y))) H
def rNe:R2:=fun x y H Q=>scal x y=true/\Q (.bl (!decide (x=y))) H
theorem Yt{i j:Int}:decide (V.int i=V.int j)=(i == j):=by
 rw[Bool.eq_iff_iff]
 simp
theorem X1{i j:Bool}:decide (V.bl i=V.bl j)=(i == j):=by
 rw[Bool.eq_iff_iff]
 simp
theorem Yu{i j:Str}:decide (V.str i=V.str j)=(i == j):=by
 rw[Bool.eq_iff_iff]
 simp
theorem Yv{i j:Array UInt8}:decide (V.byt i=V.byt j)=(i.toList == j.toList):=by
 rw[Bool.eq_iff_iff]
 cases i
 cases j
 simp
theorem zH{pins:List (Addr×Obj)}{σ:St}{H:Hp}{s:Shared}{Q:VK}{k k':Bool}(I:Inv X pins σ H s)(q:Q (.bl k) H)(e:k=k'):EP X pins σ Q (.bool k') s:=by
 subst e
 exact⟨.bl k,H,I,rfl,q⟩
theorem zbH:OpR X (compareOp .Eq) rEq:=by
 intro pins s σ H x y v u Q I rx ry h
 obtain⟨hs,q⟩:=h
 cases x with
 |non =>
  cases rx
  cases y with
  |non=>cases ry;exact PySem.EqNone.eq_none_none (zH I q (by simp))
  |bl j=>cases ry;exact PySem.EqNone.eq_none_bool (zH I q (by simp))
  |int j=>obtain⟨t',rfl⟩:=ry;exact PySem.EqNone.eq_none_int (zH I q (by simp))
  |str j=>obtain⟨t',rfl⟩:=ry;exact PySem.EqNone.eq_none_str (zH I q (by simp))
  |_=>exact absurd (show false=true from hs) uA
 |bl i =>
  cases rx
  cases y with
  |non=>cases ry;exact PySem.EqNone.eq_bool_none (zH I q (by simp))
  |bl j=>cases ry;exact eq_bool (zH I q X1)
  |str j=>obtain⟨t',rfl⟩:=ry;exact PySem.EqMixed.eq_bool_str (zH I q (by simp))
  |_=>exact absurd (show false=true from hs) uA
 |int i =>
  obtain⟨t,rfl⟩:=rx
  cases y with
  |non=>cases ry;exact PySem.EqNone.eq_int_none (zH I q (by simp))
  |int j=>obtain⟨t',rfl⟩:=ry;exact eq_int (zH I q Yt)
  |str j=>obtain⟨t',rfl⟩:=ry;exact PySem.EqMixed.eq_int_str (zH I q (by simp))
  |_=>exact absurd (show false=true from hs) uA
 |str i =>
  obtain⟨t,rfl⟩:=rx
  cases y with
  |non=>cases ry;exact PySem.EqNone.eq_str_none (zH I q (by simp))
  |bl j=>cases ry;exact PySem.EqMixed.eq_str_bool (zH I q (by simp))
  |int j=>obtain⟨t',rfl⟩:=ry;exact PySem.EqMixed.eq_str_int (zH I q (by simp))
  |str j=>obtain⟨t',rfl⟩:=ry;exact eq_str (zH I q Yu)
  |_=>exact absurd (show false=true from hs) uA
 |byt i =>
  obtain⟨t,rfl⟩:=rx
  cases y with
  |byt j=>obtain⟨t',rfl⟩:=ry;exact PySem.W.eq_bytes (zH I q Yv)
  |_=>exact absurd (show false=true from hs) uA
 |_=>cases y<;>exact absurd (show false=true from hs) uA
theorem zbI:OpR X (compareOp .NotEq) rNe:=by
 intro pins s σ H x y v u Q I rx ry h
 obtain⟨hs,q⟩:=h
 cases x with
 |non =>
  cases rx
  cases y with
  |non=>cases ry;exact PySem.EqNone.ne_none_none (zH I q (by simp))
  |bl j=>cases ry;exact PySem.EqNone.ne_none_bool (zH I q (by simp))
  |int j=>obtain⟨t',rfl⟩:=ry;exact PySem.EqNone.ne_none_int (zH I q (by simp))
  |str j=>obtain⟨t',rfl⟩:=ry;exact PySem.EqNone.ne_none_str (zH I q (by simp))
  |_=>exact absurd (show false=true from hs) uA
 |bl i =>
  cases rx
  cases y with
  |non=>cases ry;exact PySem.EqNone.ne_bool_none (zH I q (by simp))
  |bl j=>cases ry;exact ne_bool (zH I q (congrArg not X1))
  |str j=>obtain⟨t',rfl⟩:=ry;exact PySem.EqMixed.ne_bool_str (zH I q (by simp))
  |_=>exact absurd (show false=true from hs) uA
 |int i =>
  obtain⟨t,rfl⟩:=rx
  cases y with
  |non=>cases ry;exact PySem.EqNone.ne_int_none (zH I q (by simp))
  |int j=>obtain⟨t',rfl⟩:=ry;exact ne_int (zH I q (congrArg not Yt))
  |str j=>obtain⟨t',rfl⟩:=ry;exact PySem.EqMixed.ne_int_str (zH I q (by simp))
  |_=>exact absurd (show false=true from hs) uA
 |str i =>
  obtain⟨t,rfl⟩:=rx
  cases y with
  |non=>cases ry;exact PySem.EqNone.ne_str_none (zH I q (by simp))
  |bl j=>cases ry;exact PySem.EqMixed.ne_str_bool (zH I q (by simp))
  |int j=>obtain⟨t',rfl⟩:=ry;exact PySem.EqMixed.ne_str_int (zH I q (by simp))
  |str j=>obtain⟨t',rfl⟩:=ry;exact ne_str (zH I q (congrArg not Yu))
  |_=>exact absurd (show false=true from hs) uA
 |byt i =>
  obtain⟨t,rfl⟩:=rx
  cases y with
  |byt j=>obtain⟨t',rfl⟩:=ry;exact PySem.W.ne_bytes (zH I q (congrArg not Yv))
  |_=>exact absurd (show false=true from hs) uA
 |_=>cases y<;>exact absurd (show false=true from hs) uA
theorem zbJ:OpR X (compareOp .Lt) (rI0 fun i j=>.bl (decide (i < j))):=opB0 fun _ _ _ _ _ _ _ q=>lt_int q
theorem zbK:OpR X (compareOp .LtE) (rI0 fun i j=>.bl (decide (i<=j))):=opB0 fun _ _ _ _ _ _ _ q=>le_int q
theorem zbL:OpR X (compareOp .Gt) (rI0 fun i j=>.bl (decide (j < i))):=opB0 fun _ _ _ _ _ _ _ q=>gt_int q
theorem zbM:OpR X (compareOp .GtE) (rI0 fun i j=>.bl (decide (j<=i))):=opB0 fun _ _ _ _ _ _ _ q=>ge_int q
theorem yO(b:Expr){op:CmpOp}(h:op≠.In:=by decide)(h2:op≠.NotIn:=by decide):behindInMarks op b=false:=by
 have e1:(op == CmpOp.In)=false:=by cases op<;>first|rfl|exact absurd rfl h
 have e2:(op == CmpOp.NotIn)=false:=by cases op<;>first|rfl|exact absurd rfl h2
 cases b<;>simp[behindInMarks,e1,e2]
theorem Jh{op:CmpOp}{r:R2}(ho:OpR X (compareOp op) r)(ha:PE X a ta)(hb:PE X b tb)(hm:behindInMarks op b=false):PE X (.Compare a [op] [b] pos) (tOp r ta tb):=by
 intro pins s σ H Q I h
 exact wpAny_Compare1 (binT ha hb I h fun v u s2 x y H2 I2 rx ry q=>ho pins s2 σ H2 x y v u Q I2 rx ry q) hm
def X2(t:TE):TT:=fun σ H Q=>t σ H fun x H'=>∃k,x=.bl k/\Q k H'
theorem Ji{op:CmpOp}{r:R2}(ho:OpR X (compareOp op) r)(ha:PE X a ta)(hb:PE X b tb)(hm:behindInMarks op b=false):PT X (.Compare a [op] [b] pos) (X2 (tOp r ta tb)):=by
 intro pins s σ H Q I h
 refine wpAny_isTrue_Compare1 (thn (ha pins s σ H _ I h) fun v s1 ⟨x,H1,I1,r1,q1⟩=>thn (hb pins s1 σ H1 _ I1 q1) fun u s2 ⟨y,H2,I2,r2,q2⟩ =>
  thn (ho pins s2 σ H2 x y v u _ I2 r1 r2 q2) fun c s3 ⟨z,H3,I3,r3,k,e,q3⟩=>?_) hm
 subst e
 cases r3
 exact wpAny_truthy_bool ⟨H3,I3,q3⟩
theorem vb:(sizeLine:Nat) < 2 ^ 63:=by rw[sizeLine_eq];decide
theorem ZP:OpR X (binaryOp .Add) (fun x y H Q=>∃i j,x=.str i/\y=.str j/\i.length+j.length<=sizeLine/\Q (.str (i++j)) H):=by
 intro pins s σ H x y v u Q I rx ry h
 obtain⟨i,j,rfl,rfl,hz,q⟩:=h
 obtain⟨t,rfl⟩:=rx
 obtain⟨t',rfl⟩:=ry
 exact add_str (fun t' tk=>⟨.str (i++j),H,I.tok _,⟨_,rfl⟩,q⟩) hz
theorem xM{x:V}{us:List Value}(r:Vals [x] us):∃u,us=[u]/\RelV x u:=by
 cases r with
 |cons r1 r2=>cases r2;exact⟨_,rfl,r1⟩
theorem X3{x y:V}{us:List Value}(r:Vals [x,y] us):∃u w',us=[u,w']/\RelV x u/\RelV y w':=by
 cases r with
 |cons r1 r2 =>
  cases r2 with
  |cons r3 r4=>cases r4;exact⟨_,_,rfl,r1,r3⟩
theorem Xo(hc:X.calm=true):yJ X (.builtin "min") (fun xs H Q=>∃i j,xs=[.int i,.int j]/\Q (.int (if j < i then j else i)) H):=by
 intro pins s σ H xs us Q I r h
 obtain⟨i,j,rfl,q⟩:=h
 obtain⟨u,w',rfl,⟨t,rfl⟩,⟨t',rfl⟩⟩:=X3 r
 refine min_two_ints (I.ok.hd hc) fun h' tk k=>⟨_,H,I.kept k,?_,q⟩
 by_cases hj:j < i
 ·rw[if_pos hj,if_pos hj];exact⟨_,rfl⟩
 ·rw[if_neg hj,if_neg hj];exact⟨_,rfl⟩
theorem Xp:yJ X (.type "int") (fun xs H Q=>(∃i,xs=[.int i]/\Q (.int i) H)\/∃k,xs=[.bl k]/\Q (.int (if k then 1 else 0)) H):=by
 intro pins s σ H xs us Q I r h
 rcases h with⟨i,rfl,q⟩|⟨k,rfl,q⟩
 ·obtain⟨u,rfl,t,rfl⟩:=xM r
  exact call_int_int ⟨.int i,H,I,⟨_,rfl⟩,q⟩
 ·obtain⟨u,rfl,r1⟩:=xM r
  cases r1
  exact call_int_bool ⟨.int (if k then 1 else 0),H,I.tok _,⟨_,rfl⟩,q⟩
end
structure ObjM(h:Heap)(x dx C:Addr)(mA:Str->Option Value):Prop where
 obj:h.get? x=some (UC C dx)
 ns:h.Ns1 dx mA
 ne:dx≠x
theorem Xq{h:Heap}{dx:Addr}{mA:Str->Option Value}(n:h.Ns1 dx mA):∃od,h.get? dx=some od/\∀name,PySem.W.lookIn name od=some (mA name):=by
 obtain⟨o,es,ep,ho,hd,hk,_,hm⟩:=n
 refine⟨o,ho,fun name=>?_⟩
 have e:=hm name
 unfold nsFind findBy at e
 rw[<- Array.find?_toList]at e
 unfold PySem.W.lookIn
 rw[hd]
 dsimp only
 split
 ·rename_i y q
  rw[q]at e
  exact congrArg some e
 ·rename_i q
  rw[q]at e
  have a:es.toList.any (·.refKey)=false:=by
   rw[UQ]
   intro y hy
   obtain⟨z,t,hkey⟩:=hk y (Array.mem_toList_iff.mp hy)
   simp[DictEntry.refKey,hkey]
  have a':¬ es.toList.any (·.refKey)=true:=by rw[a];exact uA
  rw[if_neg a']
  exact congrArg some e
theorem ObjM.look{h:Heap}{x dx C:Addr}{mA:Str->Option Value}(I:ObjM h x dx C mA):∃od,PySem.W.InstAt h x (UC C dx) C (some od)/\∀name,PySem.W.lookIn name od=some (mA name) :=
 let ⟨od,ho,hl⟩:=Xq I.ns
 ⟨od,⟨I.obj,rfl,rfl,ho⟩,hl⟩
section
variable{prog:Program}{w:World}{A:Around}{E:Value->Shared->Prop}{s:Shared}{K:uc}{x dx C f:Addr}{mA:Str->Option Value}{name:Str}{v:Value}
theorem Jj{expr:Bool}{Q:Value->Shared->Prop}(X:K.In s.heap)(I:ObjM s.heap x dx C mA)(hg:US K C name=true)(hh:PySem.W.hasDictIn K C=true)
  (ha:uT K (.ref C) name=some none) (hv:mA name=some v) (hv':PySem.W.handedIn v=true) (h:Q v { s with toks:=s.toks+1 }) :
  wpAny (model prog w) A (getAttr (.ref x) name expr) Q E s:=by
 obtain⟨od,J,hl⟩:=I.look
 exact PySem.W.get_value X J (PySem.W.plainGet_of hg).1 (PySem.W.findObj_own hh ha rfl (by rw[hl,hv])) hv' h
theorem X4{pl:Sem Bool}{Q:Value×List Value->Shared->Prop}(X:K.In s.heap)(I:ObjM s.heap x dx C mA)(hg:US K C name=true)
  (hf:uT K (.ref C) name=some (some (.ref f))) (ht:PySem.W.isFn K (.ref f)=true) (hv:mA name=none) (h:Q (.ref f,[.ref x]) s) :
  wpAny (model prog w) A (getMethod (.ref x) name pl) Q E s:=by
 obtain⟨od,J,hl⟩:=I.look
 exact PySem.W.method_fn X J (PySem.W.plainGet_of hg).1 (PySem.W.plainGet_of hg).2 hf (beq_iff_eq.mp ht) (by show(PySem.W.lookIn name od).map (·.isSome)=some false;rw[hl,hv];rfl) h
theorem Jk{ns:List Str}{Q:Unit->Shared->Prop}(X:K.In s.heap)(I:ObjM s.heap x dx C mA)
  (hs:uT K (.ref C) "__setattr__"=some (some (.builtin "object.__setattr__"))) (hp:PySem.W.plainOver K C=true) (ht:PySem.W.takerIn K C name=some none) (hh:PySem.W.hasDictIn K C=true)
  (hw:PySem.Within mA ns) (hsz:ns.length<=sizeLine)
  (h:∀h',ObjM h' x dx C (fun y=>if y=name then some v else mA y)->Heap.SameBut dx s.heap h'->Q () { s with heap:=h',toks:=s.toks+2 }) :
  wpAny (model prog w) A (setAttr (.ref x) name v) Q E s:=by
 obtain⟨od,J,hl⟩:=I.look
 refine PySem.W.set_plain X J hs (PySem.W.osa_open (s:={ s with toks:=s.toks+1 }) (r:=none) X J hp ht fun b=>?_)
 obtain⟨cd,hc,hd'⟩:=PySem.W.any_some hh
 have hx:s.heap.get? x=some ⟨.ref C,some dx,.plain,#[]⟩:=I.obj
 refine wpAny_bind (wpAny_pure (wpAny_bind (wpAny_bind (wpAny_loadPart hx (wpAny_bind (PySem.W.Looks.here (s:={ s with toks:=s.toks+1 }) (PySem.W.looks_clsIn X hc) ?_))))))
 rw[hd']
 refine wpAny_pure (a:=some dx) (wpAny_bind (wpAny_pure (wpAny_bind ?_)))
 refine wpAny_nsSet1 (s:={ s with toks:=s.toks+1 }) I.ns fun h' hn2 hs2=>?_
 obtain⟨oD,esD,epD,hoD,hdD,hcD⟩:=hn2.count (PySem.Within.cons name v hw)
 refine wpAny_bind (wpAny_lookBehind hoD (by rw[hdD];exact pastItsLine_dict (uD hcD (by rw[uo];lia))) ?_)
 exact wpAny_pure (h _ ⟨(hs2.2 _ (Ne.symm I.ne)).trans I.obj,hn2,I.ne⟩ hs2)
theorem X5{R:Result->Shared->Prop}{vs:List Value}{kw:List (Str×Value)}(X:K.In s.heap)(hm:PySem.W.makesIn K C=true)
  (hi:uT K (.ref C) "__init__"=some (some (.ref f))) (hf:PySem.W.typeIn K (.ref f)=some (.type "function"))
  (h:codeAny (model prog w) (A.under (.builtin "type.__call__" ⟨.ref C::vs,kw⟩)) (.call (.ref f) ⟨.ref (s.heap.objs.size+1)::vs,kw⟩) (PySem.W.InitBack (s.heap.objs.size+1) R)
   { s with heap:=(s.heap.push Us).push (UC C s.heap.objs.size) }) :
  codeAny (model prog w) A (.call (.ref C) ⟨vs,kw⟩) R s:=by
 obtain⟨hh,g,d,t,os⟩:=s
 exact PySem.W.make_core (PySem.W.makes_of X hm) (PySem.W.looks_findIn X hi) (fun self=>PySem.W.bind_fn X self hf) (.inl rfl) h
end
def putF(f:Str)(v:V):List (Str×V)->List (Str×V)
 |[]=>[(f,v)]
 | (g,x)::r=>if g=f then(g,v)::r else(g,x)::putF f v r
theorem wI(f g:Str)(v:V):∀fs:List (Str×V),(putF f v fs).lookup g=if g=f then some v else fs.lookup g
 |[]=>by
  show UF g [(f,v)]=_
  by_cases h:g=f
  ·have hb:(g == f)=true:=beq_iff_eq.mpr h
   simp only[UF,hb,if_pos h]
  ·have hb:(g == f)=false:=beq_eq_false_iff_ne.mpr h
   simp only[UF,hb,if_neg h]
 | (k,x)::r=>by
  have ih:=wI f g v r
  rw[show putF f v ((k,x)::r)=(if k=f then(k,v)::r else(k,x)::putF f v r)from rfl]
  by_cases hk:k=f
  ·rw[if_pos hk]
   by_cases h:g=k
   ·have hb:(g == k)=true:=beq_iff_eq.mpr h
    simp only[UF,hb,if_pos (h.trans hk)]
   ·have hb:(g == k)=false:=beq_eq_false_iff_ne.mpr h
    simp only[UF,hb,if_neg (fun e:g=f=>h (e.trans hk.symm))]
  ·rw[if_neg hk]
   by_cases h:g=k
   ·have hb:(g == k)=true:=beq_iff_eq.mpr h
    simp only[UF,hb,if_neg (fun e:g=f=>hk (h.symm.trans e))]
   ·have hb:(g == k)=false:=beq_eq_false_iff_ne.mpr h
    simp only[UF,hb]
    exact ih
theorem wB(f:Str)(v:V):∀fs:List (Str×V),f∈(putF f v fs).map (·.1)/\∀g,g∈fs.map (·.1)->g∈(putF f v fs).map (·.1)
 |[]=>⟨by simp[putF],fun g h=>by simp at h⟩
 | (k,x)::r=>by
  obtain⟨i1,i2⟩:=wB f v r
  rw[show putF f v ((k,x)::r)=(if k=f then(k,v)::r else(k,x)::putF f v r)from rfl]
  by_cases hk:k=f
  ·rw[if_pos hk]
   subst hk
   exact⟨by simp,fun g h=>by simpa using h⟩
  ·rw[if_neg hk]
   refine⟨?_,fun g h=>?_⟩
   ·rw[uu]
    exact Up _ i1
   ·rw[uu]at h ⊢
    rcases um.mp h with e|e
    ·exact um.mpr (.inl e)
    ·exact Up _ (i2 g e)
theorem wJ(f:Str)(v:V):∀fs:List (Str×V),(putF f v fs).length<=fs.length+1
 |[]=>by simp[putF]
 | (k,x)::r=>by
  have ih:=wJ f v r
  rw[show putF f v ((k,x)::r)=(if k=f then(k,v)::r else(k,x)::putF f v r)from rfl]
  by_cases hk:k=f
  ·rw[if_pos hk,uo,uo];lia
  ·rw[if_neg hk,uo,uo];lia
theorem RelO.some_of{v:V}{o:Option Value}(r:RelO (some v) o):∃u,o=some u/\RelV v u:=by
 cases o with
 |none=>exact(show False from r).elim
 |some u=>exact⟨u,rfl,r⟩
theorem RelO.none_of{o:Option Value}(r:RelO none o):o=none:=by
 cases o with
 |none=>rfl
 |some u=>exact(show False from r).elim
theorem Xr{v:V}{u:Value}(r:RelV v u):PySem.W.handedIn u=true:=by
 cases v with
 |non=>cases(show u=Value.none from r);rfl
 |bl b=>cases(show u=Value.bool b from r);rfl
 |int i=>obtain⟨t,e⟩:=(show ∃t,u=Value.int i t from r);cases e;rfl
 |str x=>obtain⟨t,e⟩:=(show ∃t,u=Value.str x t from r);cases e;rfl
 |byt b=>obtain⟨t,e⟩:=(show ∃t,u=Value.bytes b t from r);cases e;rfl
 |flt b=>obtain⟨t,e⟩:=(show ∃t,u=Value.float b t from r);cases e;rfl
 |ref a=>cases(show u=Value.ref a from r);rfl
 |ty n=>cases(show u=Value.type n from r);rfl
section
variable{P:Program}{w:World}{H H':Hp}{h h':Heap}{a C dx:Addr}{fs fs':List (Str×V)}
theorem je(hok:HOk P w H h)(e:H a=some (.ins C dx fs)):∃mA,ObjM h a dx C mA/\(∀f,RelO (fs.lookup f) (mA f))/\PySem.Within mA (fs.map (·.1))/\fs.length<=1000/\H dx=some (.own a):=by
 obtain⟨d,z,ne,ob,mA,n,r,q⟩:=(show ObjOk P w H h a (.ins C dx fs)from hok a _ e)
 exact⟨mA,⟨ob,n,ne⟩,r,q,z,d⟩
end
structure Cls(K:uc)(C:Addr):Prop where
 pg:US K C Str.empty=true
 hd:PySem.W.hasDictIn K C=true
 po:PySem.W.plainOver K C=true
 sa:uT K (.ref C) "__setattr__"=some (some (.builtin "object.__setattr__"))
theorem Cls.get{K:uc}{C:Addr}(c:Cls K C)(f:Str):US K C f=true:=c.pg
def NoAttr(K:uc)(C:Addr)(f:Str):Prop:=uT K (.ref C) f=some none
theorem NoAttr.taker{K:uc}{C:Addr}{f:Str}(n:NoAttr K C f):PySem.W.takerIn K C f=some none:=by
 unfold PySem.W.takerIn
 rw[show uT K (.ref C) f=some none from n]
 rfl
structure Meth(K:uc)(C:Addr)(m:Str)(f:Addr):Prop where
 at_:uT K (.ref C) m=some (some (.ref f))
 fn:PySem.W.isFn K (.ref f)=true
 kp:uP K (.ref f)=true
section
variable{X:Cx}{pins:List (Addr×Obj)}{σ:St}{H:Hp}{s:Shared}{a C dx:Addr}{fs:List (Str×V)}{f:Str}{v:V}{A:Around}{E:Value->Shared->Prop}
theorem ZQ{b:Bool}{Q:Value->Shared->Prop}(I:Inv X pins σ H s)(e:H a=some (.ins C dx fs))(c:Cls X.K C)(n:NoAttr X.K C f)(l:fs.lookup f=some v)
  (h:∀u s',Inv X pins σ H s'->RelV v u->Q u s'):wpAny (model X.prog X.w) A (getAttr (.ref a) f b) Q E s:=by
 obtain⟨mA,O,r,_,_,_⟩:=je I.hok e
 obtain⟨u,hu,ru⟩:=RelO.some_of (v:=v) (o:=mA f) (by rw[<- l];exact r f)
 exact Jj I.kIn O (c.get f) c.hd n hu (Xr ru) (h u _ (I.tok _) ru)
theorem ZR{m:Str}{g:Addr}{pl:Sem Bool}{Q:Value×List Value->Shared->Prop}(I:Inv X pins σ H s)(e:H a=some (.ins C dx fs))(c:Cls X.K C)(k:Meth X.K C m g)(l:fs.lookup m=none)
  (h:Q (.ref g,[.ref a]) s):wpAny (model X.prog X.w) A (getMethod (.ref a) m pl) Q E s:=by
 obtain⟨mA,O,r,_,_,_⟩:=je I.hok e
 have hn:mA m=none:=RelO.none_of (by rw[<- l];exact r m)
 exact X4 I.kIn O (c.get m) k.at_ k.fn hn h
theorem ZT{y:V}{u:Value}{Q:Unit->Shared->Prop}(I:Inv X pins σ H s)(e:H a=some (.ins C dx fs))(c:Cls X.K C)(n:NoAttr X.K C f)(hl:fs.length < 1000)(ry:RelV y u)
  (h:∀s',Inv X pins σ (upd H a (.ins C dx (putF f y fs))) s'->Q () s'):wpAny (model X.prog X.w) A (setAttr (.ref a) f u) Q E s:=by
 obtain⟨mA,O,r,wi,_,ho⟩:=je I.hok e
 have hz:(fs.map (·.1)).length<=sizeLine:=by rw[ua,sizeLine_eq];lia
 refine Jk I.kIn O c.sa c.po n.taker c.hd wi hz fun h' O' sb=>h _ ?_
 have hd:∃o,h'.get? dx=some o:=let ⟨o,_,_,e',_⟩:=O'.ns;⟨o,e'⟩
 refine I.write (x:=a) (e:=dx) (by rw[e];exact True.intro) (.inr ho) (fun b q hb z=>(sb.2 b hb).trans z) hd ?_
 refine⟨by rw[zi O.ne];exact ho,?_,O.ne,O'.obj,_,O'.ns,fun g=>?_,fun g hg=>?_⟩
 ·have:=wJ f y fs;lia
 ·show RelO ((putF f y fs).lookup g) (if g=f then some u else mA g)
  rw[wI]
  by_cases q:g=f
  ·rw[if_pos q,if_pos q];exact ry
  ·rw[if_neg q,if_neg q];exact r g
 ·by_cases q:g=f
  ·rw[q];exact(wB f y fs).1
  ·refine(wB f y fs).2 g (wi g fun z=>hg ?_)
   show(if g=f then some u else mA g)=none
   rw[if_neg q];exact z
theorem Inv.made(I:Inv X pins σ H s):Inv X pins σ (upd (upd H s.heap.objs.size (.own (s.heap.objs.size+1))) (s.heap.objs.size+1) (.ins C s.heap.objs.size []))
  { s with heap:=(s.heap.push Us).push (UC C s.heap.objs.size) }:=by
 have e1:(s.heap.push Us).get? s.heap.objs.size=some Us:=ux s.heap rfl
 have e2:((s.heap.push Us).push (UC C s.heap.objs.size)).get? (s.heap.objs.size+1)=some (UC C s.heap.objs.size):=by
  have:=ux (s.heap.push Us) (o:=UC C s.heap.objs.size) rfl
  rwa [Uu]at this
 have e3:(s.heap.push Us).Ns s.heap.objs.size (fun _=>none):=⟨Us,#[],_,e1,rfl,(fun e he=>absurd he (by simp)),fun _=>rfl⟩
 have I1:=I.laid (a:=s.heap.objs.size) (o:=.own (s.heap.objs.size+1)) (h':=s.heap.push Us) (t':=s.toks) (fun b u q=>ue _ q) (ud _) ⟨_,e1⟩
 refine I1.laid (a:=s.heap.objs.size+1) (o:=.ins C s.heap.objs.size []) (t':=s.toks) (fun b u q=>ue _ q) (Nat.le_of_eq (Uu _ _)) ?_
 have ne:s.heap.objs.size≠s.heap.objs.size+1:=uK (Uf _)
 refine⟨by rw[zi ne,zf],uN _,ne,e2,fun _=>none,(Heap.Ns1.of_empty e3).at fun o q=>ue _ q,fun _=>True.intro,fun y hy=>absurd rfl hy⟩
theorem Jl{prog:Program}{w:World}{env:Env}{e:Expr}{f:Str}{pos:Pos}{s:Shared}{Q:Value->Shared->Prop}(hb:attributeBase e f env (eval e env)=eval e env)
  (h:wpAny (model prog w) A (eval e env) (fun o s₁=>wpAny (model prog w) A (getAttr o f true) Q E s₁) E s):wpAny (model prog w) A (eval (.Attribute e f pos) env) Q E s :=
 Attribute_any_ h (by rw[arm_eval_Attribute,hb])
end
def tFld(K:uc)(ta:TE)(f:Str):TE:=fun σ H Q=>ta σ H fun x H1=>∃a C dx fs v,x=.ref a/\H1 a=some (.ins C dx fs)/\Cls K C/\NoAttr K C f/\fs.lookup f=some v/\Q v H1
def sFld(K:uc)(ta tv:TE)(f:Str):TS:=fun D σ H=>tv σ H fun y H1=>ta σ H1 fun x H2=>∃a C dx fs,x=.ref a/\H2 a=some (.ins C dx fs)/\Cls K C/\NoAttr K C f/\fs.length < 1000 /\
 D.nx σ (upd H2 a (.ins C dx (putF f y fs)))
section
variable{X:Cx}{o e value:Expr}{f:Str}{pos pos' tpos:Pos}{ta tv:TE}
theorem zaB(he:PE X e ta)(hb:attributeBase e f X.env (eval e X.env)=eval e X.env):PE X (.Attribute e f pos) (tFld X.K ta f):=by
 intro pins s σ H Q I h
 refine Jl hb (thn (he pins s σ H _ I h) fun u s1 ⟨x,H1,I1,rx,a,C,dx,fs,v,ex,ea,c,n,l,q⟩=>?_)
 subst ex
 obtain rfl:u=Value.ref a:=rx
 exact ZQ I1 ea c n l fun u' s2 I2 ru=>⟨v,H1,I2,ru,q⟩
theorem zaC(ha:PE X o ta)(hv:PE X value tv)(hs:swapsWith value (some (.Attribute o f pos')) pos.line X.env=pure false):PS X (.Assign [.Attribute o f pos'] value pos) (sFld X.K ta tv f):=by
 intro pins s σ H D I h
 refine plainObj_wpAny_Assign_Attribute (thn (hv pins s σ H _ I h) fun u s1 ⟨y,H1,I1,ry,q⟩=>thn (ha pins s1 σ H1 _ I1 q) fun ov s2 ⟨x,H2,I2,rx,a,C,dx,fs,ex,ea,c,n,l,q2⟩=>?_) hs
 subst ex
 obtain rfl:ov=Value.ref a:=rx
 exact ZT I2 ea c n l ry fun s3 I3=>⟨σ,_,I3,q2⟩
end
section
variable{X:Cx}{pins:List (Addr×Obj)}{σ:St}{H:Hp}{s:Shared}{A:Around}{E:Value->Shared->Prop}{Q:Value->Shared->Prop}{c:Value}{b:Bool}
inductive TyOf(K:uc)(H:Hp):V->Value->Prop where
 |non:TyOf K H .non (.type "NoneType")
 |bl (x:Bool):TyOf K H (.bl x) (.type "bool")
 |int (i:Int):TyOf K H (.int i) (.type "int")
 |str (x:Str):TyOf K H (.str x) (.type "str")
 |flt (x:UInt64):TyOf K H (.flt x) (.type "float")
 |lst {a:Addr} {xs:List V} (e:H a=some (.lst xs)):TyOf K H (.ref a) (.type "list")
 |frz {a:Addr} {o:Obj} {xs:List V} (e:H a=some (.frz o (.lst xs))):TyOf K H (.ref a) (.type "list")
 |tup {a:Addr} {xs:List V} (e:H a=some (.tup xs)):TyOf K H (.ref a) (.type "tuple")
 |dK {a:Addr} {kvs:List (Key×V)} (e:H a=some (.dK kvs)):TyOf K H (.ref a) (.type "dict")
 |dT {a:Addr} {kvs:List (List Key×V)} (e:H a=some (.dT kvs)):TyOf K H (.ref a) (.type "dict")
 |ins {a C dx:Addr} {fs:List (Str×V)} (e:H a=some (.ins C dx fs)) (cl:Cls K C) (ha:uT K (.ref C) "__class__"=some (some (.builtin "object.__class__")))
   (hn:PySem.W.specialIn K (.builtin "object.__class__") "__get__"=some (some (.builtin "getset_descriptor.__get__"))) (htk:PySem.W.takesIn K (.builtin "object.__class__")=some true)
   (hm:PySem.W.mroIn K C (.type "object")=some true):TyOf K H (.ref a) (.ref C)
end
structure Room(k:Nat)(A:Around):Prop where
 hd:A.handled=none
 dp:A.depth+3*k+5 < recursionLimit
 un:A.units+16*k+200 < cLine
theorem Room.mono{j k:Nat}{A:Around}(r:Room k A)(h:j<=k):Room j A:=⟨r.hd,by have:=r.dp;lia,by have:=r.un;lia⟩
theorem Room.deeper{k:Nat}{A:Around}(r:Room (k+1) A)(env:Env):Room k (A.deeper env) :=
 ⟨r.hd,by have:=r.dp;show A.depth+1+3*k+5 < _;lia,by have:=r.un;show A.units+3+16*k+200 < _;lia⟩
theorem ZU{A:Around}{C:Addr}{us:List Value}{kw:List (Str×Value)}:(A.under (.builtin "type.__call__" ⟨.ref C::us,kw⟩)).depth=A.depth+1:=by
 first|rfl|simp[Around.under,Code.weight,Code.isCreation,Code.isGuard,Code.isCaller,Code.frames,Code.isFrame,guardIds]
theorem ZV{A:Around}{C:Addr}{us:List Value}{kw:List (Str×Value)}:(A.under (.builtin "type.__call__" ⟨.ref C::us,kw⟩)).units=A.units+1:=by
 first|rfl|simp[Around.under,Code.cUnits,Code.frames,Code.isFrame]
theorem Room.make{k:Nat}{A:Around}(r:Room (k+1) A)(C:Addr)(us:List Value)(kw:List (Str×Value)):Room k (A.under (.builtin "type.__call__" ⟨.ref C::us,kw⟩)) :=
 ⟨r.hd,by have:=r.dp;rw[ZU];lia,by have:=r.un;rw[ZV];lia⟩
theorem Room.depth{k:Nat}{A:Around}(r:Room k A):A.depth < recursionLimit:=by have:=r.dp;lia
theorem Room.units{k:Nat}{A:Around}(r:Room k A):A.units+64 < cLine:=by have:=r.un;lia
theorem Room.units0{k:Nat}{A:Around}(r:Room k A):A.units < cLine:=by have:=r.un;lia
def tNil:TA:=fun _ H Q=>Q [] H
def zR(ta:TE)(tr:TA):TA:=fun σ H Q=>ta σ H fun x H1=>tr σ H1 fun xs H2=>Q (x::xs) H2
section
variable{X:Cx}{e:Expr}{es:List Expr}{te:TE}{t:TA}{pos:Pos}
theorem zaD:PA X [] tNil:=fun _ _ _ _ H Q I h=>Calls.spliced_nil ⟨[],H,I,.nil,h⟩
theorem Jm(ha:PE X e te)(hr:PA X es t)(hs:starEach (e::es) X.env=(false,eval e X.env)::starEach es X.env:=by rfl):PA X (e::es) (zR te t):=by
 intro pos pins s σ H Q I h
 rw[hs]
 show wpAny _ _ (spliced ((false,eval e X.env)::backTo pos (starEach es X.env))) _ _ s
 refine Calls.spliced_cons (thn (ha pins s σ H _ I h) fun u s1 ⟨x,H1,I1,r1,q1⟩=>?_)
 exact thn (hr pos pins s1 σ H1 _ I1 q1) fun us s2 ⟨xs,H2,I2,r2,q2⟩=>⟨x::xs,H2,I2,.cons r1 r2,q2⟩
def tTup(t:TA):TE:=fun σ H Q=>t σ H fun xs H1=>xs.length<=sizeLine/\∀p,H1 p=none->Q (.ref p) (upd H1 p (.tup xs))
def tLst(t:TA):TE:=fun σ H Q=>t σ H fun xs H1=>xs.length<=sizeLine/\∀p,H1 p=none->Q (.ref p) (upd H1 p (.lst xs))
theorem zaE{x1}(h:PA X es t):PE X (.Tuple es x1 pos) (tTup t):=by
 intro pins s σ H Q I hq
 refine wpAny_Tuple_spliced (thn (h pos pins s σ H _ I hq) fun us s1 ⟨xs,H1,I1,r,z,q⟩=>⟨by rw[<- r.length];exact z,?_⟩)
 have hf:H1 s1.heap.objs.size=none:=I1.hok.fresh (ud _)
 refine⟨.ref s1.heap.objs.size,upd H1 s1.heap.objs.size (.tup xs),I1.laid (t':=s1.toks) (fun b u e=>ue _ e) (ud _) ?_,rfl,q _ hf⟩
 exact⟨z,us,r,⟨_,ux _ rfl,rfl,rfl,_,rfl⟩⟩
theorem zaF(h:PA X es t):PE X (.List es pos) (tLst t):=by
 intro pins s σ H Q I hq
 refine wpAny_List_spliced (thn (h pos pins s σ H _ I hq) fun us s1 ⟨xs,H1,I1,r,z,q⟩=>⟨by rw[<- r.length];exact z,?_⟩)
 have hf:H1 s1.heap.objs.size=none:=I1.hok.fresh (ud _)
 refine⟨.ref s1.heap.objs.size,upd H1 s1.heap.objs.size (.lst xs),I1.laid (t':=s1.toks) (fun b u e=>ue _ e) (ud _) ?_,rfl,q _ hf⟩
 exact⟨z,us,0,r,ux _ rfl⟩
end
abbrev Sp:=List V->Hp->VK->XK->Prop
abbrev CXT:=List Env->Hp->Shared->XK->Value->Shared->Prop
structure Env0(P:Program)(w:World)(K:uc)(mg:Str->Option Value)(base:Heap)(A:Around)(outer:List Env)(s:Shared)(H:Hp):Prop where
 frames:A.frames=some outer
 mod:Mod K mg base
 bs:∀b o,base.get? b=some o->s.heap.get? b=some o/\H b=none
 bsz:base.objs.size<=s.heap.objs.size
 funs:s.heap.FunFrames base outer
 frf:∀b∈frs outer,H b=none
 hok:HOk P w H s.heap
 bare:AllBare s.gens
def CE(outer:List Env)(P:Program)(w:World)(H:Hp)(s:Shared)(Q:VK)(u:Value)(s':Shared):Prop :=
 ∃v H',s'.os=s.os/\AllBare s'.gens/\Un (frs outer) [] H H' s.heap s'.heap/\HOk P w H' s'.heap/\RelV v u/\Q v H'
def CR(CX:CXT)(outer:List Env)(P:Program)(w:World)(H:Hp)(s:Shared)(Q:VK)(E:XK)(r:Result)(s':Shared):Prop :=
 match r with
 |.ok (.ret u)=>CE outer P w H s Q u s'
 |.ok _=>False
 |.error e=>CX outer H s E e s'
structure FnOk(P:Program)(w:World)(K:uc)(mg:Str->Option Value)(base:Heap)(CX:CXT)(k:Nat)(f:Addr)(fd:FuncData)(ps:List Str)(sp:Sp):Prop where
 len:∀vs H Q E,sp vs H Q E->vs.length=ps.length
 run:∀(A:Around)(outer:List Env)(s:Shared)(H:Hp)(args:Args)(us:List Value)(vs:List V)(Q:VK)(E:XK),Room k A->Env0 P w K mg base A outer s H->BindsTo s fd args (ps.zip us)->Vals vs us->sp vs H Q E ->
  codeAny (model P w) A (.call (.ref f) args) (CR CX outer P w H s Q E) s
theorem FnOk.mono{P:Program}{w:World}{K:uc}{mg:Str->Option Value}{base:Heap}{CX:CXT}{j k:Nat}{f:Addr}{fd:FuncData}{ps:List Str}{sp:Sp}(F:FnOk P w K mg base CX j f fd ps sp)(h:j<=k):
  FnOk P w K mg base CX k f fd ps sp:=⟨F.len,fun A outer s H args us vs Q E hr=>F.run A outer s H args us vs Q E (hr.mono h)⟩
theorem Env0.make{P:Program}{w:World}{K:uc}{mg:Str->Option Value}{base:Heap}{A:Around}{outer:List Env}{s:Shared}{H:Hp}(e:Env0 P w K mg base A outer s H)(C:Addr)(us:List Value)(kw:List (Str×Value)):
  Env0 P w K mg base (A.under (.builtin "type.__call__" ⟨.ref C::us,kw⟩)) outer s H:=⟨by first|exact e.frames|(simpa[Around.under,Code.envs,Code.isFrame,pushEnvs]using e.frames),e.mod,e.bs,e.bsz,e.funs,e.frf,e.hok,e.bare⟩
section
variable{X:Cx}{pins:List (Addr×Obj)}{σ:St}{H:Hp}{s s':Shared}
theorem Inv.env0(I:Inv X pins σ H s):Env0 X.prog X.w X.K X.mg X.base X.A X.stack s H :=
 ⟨I.ok.frames,I.ok.mod,I.bs,uD I.ok.bsz I.sz,I.stack,I.stkFree,I.hok,I.bare⟩
theorem Inv.after{Q:VK}{u:Value}(I:Inv X pins σ H s)(h:CE X.stack X.prog X.w H s Q u s'):EP X pins σ Q u s':=by
 obtain⟨v,H',os,bare,un,hok,r,q⟩:=h
 obtain⟨hh,g,d,t,os'⟩:=s'
 obtain rfl:os'=s.os:=os
 exact⟨v,H',I.call (h':=hh) (g':=g) (d':=d) (t':=t) (ch:=[]) un hok bare (fun b z=>absurd z (by simp)),r,q⟩
end
def Zc(sp:Sp)(dvs:List V)(E:XK)(t:TA):TE:=fun σ H Q=>t σ H fun vs H1=>sp (vs++dvs) H1 Q E
def QE(C:Addr)(m:Str)(sp:Sp)(dvs:List V)(E:XK)(ta:TE)(t:TA):TE:=fun σ H Q=>ta σ H fun x H1=>∃a dx fs,x=.ref a/\H1 a=some (.ins C dx fs)/\fs.lookup m=none /\
 t σ H1 fun vs H2=>sp (x::(vs++dvs)) H2 Q E
def QF(C:Addr)(sp:Sp)(dvs:List V)(E:XK)(t:TA):TE:=fun σ H Q=>t σ H fun vs H1=>∀x dx,H1 x=none->H1 dx=none->dx≠x ->
 sp (.ref x::(vs++dvs)) (upd (upd H1 dx (.own x)) x (.ins C dx [])) (fun v H2=>v=.non/\Q (.ref x) H2) E
def Binds(K:uc)(fd:FuncData)(ps:List Str)(ds:List Value):Prop :=
 ∀(s:Shared)(us:List Value),K.In s.heap->(us++ds).length=ps.length->BindsTo s fd ⟨us,[]⟩ (ps.zip (us++ds))
theorem Binds.all{K:uc}{fd:FuncData}{ps:List Str}(h:∀us:List Value,us.length=ps.length->bindArgs fd ⟨us,[]⟩=pure (ps.zip us)):Binds K fd ps []:=fun s us _ hl=>by
 rw[Uq]at hl ⊢
 exact .of_eq (h us hl)
def yy(CX:CXT)(X:Cx)(E:XK):Prop:=∀(pins:List (Addr×Obj))(σ:St)(H:Hp)(s:Shared)(e:Value)(s':Shared),Inv X pins σ H s->CX X.stack H s E e s'->X.xe e s'
section
variable{X:Cx}{CX:CXT}{k:Nat}{f C:Addr}{fd:FuncData}{ps:List Str}{sp:Sp}{dvs:List V}{ds:List Value}{E:XK}{x m:Str}{p pos apos:Pos}{e o:Expr}{es:List Expr}{ta:TE}{t:TA}
theorem jf{pins:List (Addr×Obj)}{σ:St}{H:Hp}{s:Shared}{Q:VK}{us:List Value}{vs:List V}(F:FnOk X.prog X.w X.K X.mg X.base CX k f fd ps sp)(hr:Room k X.A)(hb:Binds X.K fd ps ds)(hd:Vals dvs ds)(hx:yy CX X E)
  (I:Inv X pins σ H s) (r:Vals vs us) (h:sp (vs++dvs) H Q E):wpAny (model X.prog X.w) X.A (call (.ref f) us) (EP X pins σ Q) X.xe s:=by
 have r2:Vals (vs++dvs) (us++ds):=r.append hd
 have hl:(us++ds).length=ps.length:=by rw[<- r2.length];exact F.len _ _ _ _ h
 refine wpAny_call (codeAny_mono (F.run X.A X.stack s H ⟨us,[]⟩ (us++ds) (vs++dvs) Q E hr I.env0 (hb s us I.kIn hl) r2 h) fun r s' hq=>?_)
 cases r with
 |error e=>exact hx pins σ H s e s' I hq
 |ok fl =>
  cases fl with
  |ret u=>exact I.after hq
  |next=>exact False.elim hq
  |brk=>exact False.elim hq
  |cont=>exact False.elim hq
theorem Jn(F:FnOk X.prog X.w X.K X.mg X.base CX k f fd ps sp)(hr:Room k X.A)(hg:Gl X x)(hm:X.mg x=some (.ref f))(hk:uP X.K (.ref f)=true)(hb:Binds X.K fd ps ds)(hd:Vals dvs ds)(hx:yy CX X E)
  (ha:PA X (e::es) t) (hdb:(x == ("__debug__":Str))=false:=by decide) (he:starEach (e::es) X.env=(false,eval e X.env)::starEach es X.env:=by rfl) (hpl:(backTo pos (starEach es X.env)).any (·.1)=false:=by rfl) :
  PE X (.Call (.Name x p) (e::es) [] pos) (Zc sp dvs E t):=by
 intro pins s σ H Q I h
 refine wpAny_Call_Name_kw (wP I hg hm ?_ hdb)
 refine UX (h₀:=X.base) I.ok.mod.kin hk (thn (ha pos pins s σ H _ I h) fun us s1 ⟨vs,H1,I1,r,q⟩=>⟨I1.kIn,?_⟩) he hpl
 exact jf F hr hb hd hx I1 r q
theorem X6{pl:Sem Bool}(he:PE X o ta)(c:Cls X.K C)(hm:Meth X.K C m f)(F:FnOk X.prog X.w X.K X.mg X.base CX k f fd ps sp)(hr:Room k X.A)(hb:Binds X.K fd ps ds)(hd:Vals dvs ds)(hx:yy CX X E)
  (ht:eval (.Call (.Attribute o m apos) [] [] pos) X.env=(do
   let ov <- eval o X.env
   standAt apos.atName
   let (f,first) <- holding [ov] (getMethod ov m pl)
   callWith pos f first (backTo pos (starEach [] X.env)) (backToKw pos (keywordEach [] X.env))):=by rfl) :
  PE X (.Call (.Attribute o m apos) [] [] pos) (QE C m sp dvs E ta tNil):=by
 intro pins s σ H Q I h
 refine PySem.W.methodCall_KW (pl:=pl) (thn (he pins s σ H _ I h) fun u s1 ⟨x,H1,I1,rx,a,dx,fs,ex,ea,l,q⟩=>?_) ht
 subst ex
 obtain rfl:u=Value.ref a:=rx
 refine ZR I1 ea c hm l ?_
 exact PySem.W.callWith_K0 (first:=[.ref a]) I1.kIn hm.kp (jf (us:=[.ref a]) (vs:=[.ref a]) F hr hb hd hx I1 (.cons rfl .nil) q)
structure Mk(K:uc)(C f:Addr):Prop where
 makes:PySem.W.makesIn K C=true
 init:uT K (.ref C) "__init__"=some (some (.ref f))
 fn:PySem.W.isFn K (.ref f)=true
 kp:uP K (.ref C)=true
theorem X7{pins:List (Addr×Obj)}{σ:St}{H:Hp}{s:Shared}{Q:VK}{us:List Value}{vs:List V}(M:Mk X.K C f)(F:FnOk X.prog X.w X.K X.mg X.base CX k f fd ps sp)(hr:Room (k+1) X.A)(hb:Binds X.K fd ps ds)(hd:Vals dvs ds)
  (hx:yy CX X E) (I:Inv X pins σ H s) (r:Vals vs us)
  (h:∀x dx,H x=none->H dx=none->dx≠x->sp (.ref x::(vs++dvs)) (upd (upd H dx (.own x)) x (.ins C dx [])) (fun v H2=>v=.non/\Q (.ref x) H2) E) :
  wpAny (model X.prog X.w) X.A (call (.ref C) us) (EP X pins σ Q) X.xe s:=by
 have hq:=h (s.heap.objs.size+1) s.heap.objs.size (I.hok.fresh (Nat.le_succ _)) (I.hok.fresh (ud _)) (uK (Uf _))
 have I2:=Inv.made (C:=C) I
 have r2:Vals (V.ref (s.heap.objs.size+1)::(vs++dvs)) (Value.ref (s.heap.objs.size+1)::(us++ds)):=.cons rfl (r.append hd)
 have hl:(Value.ref (s.heap.objs.size+1)::us++ds).length=ps.length:=by
  have e:=r2.length
  rw[F.len _ _ _ _ hq]at e
  exact e.symm
 refine wpAny_call (X5 (f:=f) I.kIn M.makes M.init (beq_iff_eq.mp M.fn) (codeAny_mono (F.run _ X.stack _ _ ⟨Value.ref (s.heap.objs.size+1)::us,[]⟩ (Value.ref (s.heap.objs.size+1)::(us++ds)) _ _ E (hr.make C us [])
  (I2.env0.make C us []) (hb _ (Value.ref (s.heap.objs.size+1)::us) I2.kIn hl) r2 hq) fun r s' hq'=>?_))
 cases r with
 |error e=>exact hx pins σ _ _ e s' I2 hq'
 |ok fl =>
  cases fl with
  |ret u =>
   obtain⟨v,H',I3,rv,ev,q3⟩:=I2.after hq'
   subst ev
   exact⟨rv,⟨V.ref (s.heap.objs.size+1),H',I3,rfl,q3⟩⟩
  |next=>exact False.elim hq'
  |brk=>exact False.elim hq'
  |cont=>exact False.elim hq'
theorem Jo(M:Mk X.K C f)(F:FnOk X.prog X.w X.K X.mg X.base CX k f fd ps sp)(hr:Room (k+1) X.A)(hg:Gl X x)(hm:X.mg x=some (.ref C))(hb:Binds X.K fd ps ds)(hd:Vals dvs ds)(hx:yy CX X E)
  (ha:PA X (e::es) t) (hdb:(x == ("__debug__":Str))=false:=by decide) (he:starEach (e::es) X.env=(false,eval e X.env)::starEach es X.env:=by rfl) (hpl:(backTo pos (starEach es X.env)).any (·.1)=false:=by rfl) :
  PE X (.Call (.Name x p) (e::es) [] pos) (QF C sp dvs E t):=by
 intro pins s σ H Q I h
 refine wpAny_Call_Name_kw (wP I hg hm ?_ hdb)
 refine UX (h₀:=X.base) I.ok.mod.kin M.kp (thn (ha pos pins s σ H _ I h) fun us s1 ⟨vs,H1,I1,r,q⟩=>⟨I1.kIn,?_⟩) he hpl
 exact X7 M F hr hb hd hx I1 r q
end
section
variable{X:Cx}{CX:CXT}{k:Nat}{f C:Addr}{fd:FuncData}{ps ks:List Str}{sp:Sp}{E:XK}{x m:Str}{p pos apos kpos:Pos}{e o:Expr}{es:List Expr}{kws:List Keyword}{te ta:TE}{t tk:TA}{nm:Option Str}
variable{g:List Value->List Value->List Value}{gV:List V->List V->List V}
end
structure FnScope(N P:List Str)(sc:Scope):Prop where
 kind:sc.kind=.function
 co:sc.isCoroutine=false
 gen:sc.isGenerator=false
 nd:N.Nodup
 pre:N.take P.length=P
 par:∀x∈P,sc.names.lookup x=some .local\/sc.names.lookup x=some .cell
 nofree:∀y∈sc.names,y.2≠.free
theorem FnScope.ok{N P:List Str}{sc:Scope}(a:N.Nodup:=by decide +kernel)(b:∀x∈P,sc.names.lookup x=some .local\/sc.names.lookup x=some .cell:=by decide +kernel)(c:∀y∈sc.names,y.2≠.free:=by decide +kernel)(d:sc.kind=.function:=by rfl)(e:sc.isCoroutine=false:=by rfl)(f:sc.isGenerator=false:=by rfl)(g:N.take P.length=P:=by rfl):FnScope N P sc:=⟨d,e,f,a,g,b,c⟩
theorem vV{kindOf:Str->Option NameKind}{x:Str}:∀{binds:List (Str×Value)}{m:Str->Option Value},(∀v,(x,v)∉binds)->bindL kindOf binds m x=m x
 |[],_,_=>rfl
 | (n,v)::r,m,h=>by
  unfold bindL
  rw[vV fun w hw=>h w (Up _ hw)]
  split
  ·have:x≠n:=by rintro rfl;exact h v Uv
   simp[this]
  ·rfl
theorem vW{kindOf:Str->Option NameKind}{x:Str}:∀{binds:List (Str×Value)}{m:Str->Option Value},(∀v,(x,v)∉binds)->bindC kindOf binds m x=m x
 |[],_,_=>rfl
 | (n,v)::r,m,h=>by
  unfold bindC
  rw[vW fun w hw=>h w (Up _ hw)]
  split
  ·rfl
  ·have:x≠n:=by rintro rfl;exact h v Uv
   simp[this]
theorem vX{kindOf:Str->Option NameKind}{x:Str}{v:Value}:∀{P:List Str}{vs:List Value}{i:Nat}{m:Str->Option Value},P.Nodup->P[i]?=some x->vs[i]?=some v->kindOf x=some .local ->
  bindL kindOf (P.zip vs) m x=some v
 |[],_,_,_,_,h,_,_=>by simp at h
 |_::_,[],_,_,_,_,h,_=>by simp at h
 |p::P,w::vs,0,m,nd,h1,h2,hk=>by
  simp at h1 h2;subst h1;subst h2
  show bindL kindOf ((p,w)::P.zip vs) m p=_
  unfold bindL
  rw[vV fun v hv=>(uS.mp nd).1 (UO hv).1,if_pos hk]
  simp
 |p::P,w::vs,i+1,m,nd,h1,h2,hk=>by
  show bindL kindOf ((p,w)::P.zip vs) m x=_
  unfold bindL
  exact vX (i:=i) (uS.mp nd).2 (by simpa using h1) (by simpa using h2) hk
theorem vY{kindOf:Str->Option NameKind}{x:Str}{v:Value}:∀{P:List Str}{vs:List Value}{i:Nat}{m:Str->Option Value},P.Nodup->P[i]?=some x->vs[i]?=some v->kindOf x≠some .local ->
  bindC kindOf (P.zip vs) m x=some v
 |[],_,_,_,_,h,_,_=>by simp at h
 |_::_,[],_,_,_,_,h,_=>by simp at h
 |p::P,w::vs,0,m,nd,h1,h2,hk=>by
  simp at h1 h2;subst h1;subst h2
  show bindC kindOf ((p,w)::P.zip vs) m p=_
  unfold bindC
  rw[vW fun v hv=>(uS.mp nd).1 (UO hv).1,if_neg hk]
  simp
 |p::P,w::vs,i+1,m,nd,h1,h2,hk=>by
  show bindC kindOf ((p,w)::P.zip vs) m x=_
  unfold bindC
  exact vY (i:=i) (uS.mp nd).2 (by simpa using h1) (by simpa using h2) hk
def yK(N:List Str)(vs:List V):St:=vs.map some++Ux (N.length-vs.length) none
def cxOf(CX:CXT)(P:Program)(w:World)(K:uc)(mg:Str->Option Value)(base:Heap)(N:List Str)(qual:Str)(scope:Scope)(f:Addr)(cd:Value)(A:Around)(outer:List Env)(s:Shared)(H:Hp)(E:XK):Cx where
 prog:=P
 w:=w
 K:=K
 mg:=mg
 base:=base
 A:=A.deeper (envOfC qual scope s.heap.objs.size f cd)
 N:=N
 s₀:=s
 H₀:=H
 env:=envOfC qual scope s.heap.objs.size f cd
 outer:=outer
 stack:=envOfC qual scope s.heap.objs.size f cd::outer
 ex:=[]
 calm:=true
 fn:=fun _=>true
 pn:=[]
 xe:=fun e s'=>wpAny (model P w) (A.deeper (envOfC qual scope s.heap.objs.size f cd)) (leaving (envOfC qual scope s.heap.objs.size f cd) e) (fun _ s''=>CX outer H s E e s'') (fun e' s''=>CX outer H s E e' s'') s'
theorem Zd{sc:Scope}{n:Nat}{x:Str}(h:sc.names.lookup x=some .cell):∃c,(cellsFrom n sc.names []).lookup x=some c:=by
 have q:=PySem.W.cellsFrom_some sc.names n [] (.inl h)
 exact Option.isSome_iff_exists.mp q
theorem vZ{CX:CXT}{P:Program}{w:World}{K:uc}{mg:Str->Option Value}{base:Heap}{N ps:List Str}{qual:Str}{scope:Scope}{f:Addr}{cd:Value}{A:Around}{outer:List Env}{s s1:Shared}{H:Hp}{E:XK}{us:List Value}{vs:List V}
  (S:FnScope N ps scope) (hd:A.handled=none) (e0:Env0 P w K mg base A outer s H) (hl:vs.length=ps.length) (r:Vals vs us)
  (x:InCallC s s.heap.objs.size (bindL (envOfC qual scope s.heap.objs.size f cd).kindOf (ps.zip us) fun _=>none) (cellsFrom (s.heap.objs.size+1) scope.names []) (bindC (envOfC qual scope s.heap.objs.size f cd).kindOf (ps.zip us) fun _=>none) s1) :
  Inv (cxOf CX P w K mg base N qual scope f cd A outer s H E) [] (yK N vs) H s1:=by
 have hpl:ps.length<=N.length:=by have:=congrArg List.length S.pre;rw[uM]at this;lia
 obtain⟨h1,tk,rfl,hk⟩:=x.done
 have noA:∀b:Addr,b∉(cxOf CX P w K mg base N qual scope f cd A outer s H E).ex:=fun b z=>absurd (show b∈([]:List Addr)from z) (by simp)
 refine⟨⟨e0.mod,S.kind,rfl,rfl,ud _,fun y z c h1 h2=>?_,fun y hy=>?_,fun y c _ h=>?_,fun _=>hd,Around.frames_deeper e0.frames,.inr ⟨rfl,rfl⟩,fun b z=>absurd z (noA b),e0.bs,e0.bsz,fun b _ _=>noA b,fun b z=>absurd z (noA b),e0.funs,e0.frf⟩,
  rfl,e0.bare,Un.kept hk,⟨_,x.toInCall.ns,fun i y v h1 h2 h3=>?_⟩,fun y c h=>⟨_,x.cell y c h⟩,e0.hok.fresh (ud _),fun y c h=>?_,fun p hp=>absurd (show p∈([]:List (Addr×Obj))from hp) (by simp),e0.hok.kept hk,?_⟩
 ·exact name_of_addr x.apart (u0 h1) (u0 h2)
 ·have hy:scope.names.lookup y=some .cell\/scope.names.lookup y=some .free:=hy
  rcases hy with hy|hy
  ·exact Zd hy
  ·exact absurd rfl (S.nofree _ (u0 hy))
 ·exact Nat.le_of_lt (x.above y c (u0 h))
 ·have hi:i < vs.length:=by
   unfold yK at h2
   by_cases hi:i < vs.length
   ·exact hi
   ·rw[uY (by simpa using hi)]at h2
    rw[List.getElem?_replicate]at h2
    split at h2<;>cases h2
  have ha:vs[i]?=some v:=by
   unfold yK at h2
   rw[uX (by simpa using hi),ug]at h2
   cases e:vs[i]? with
   |none=>rw[e]at h2;cases h2
   |some a=>rw[e]at h2;cases h2;rfl
  obtain⟨u,hu,rv⟩:=r.get ha
  have hp:ps[i]?=some y:=by
   rw[<- S.pre,List.getElem?_take_of_lt (by lia)];exact h1
  have ndP:ps.Nodup:=by rw[<- S.pre];exact S.nd.sublist (List.take_sublist _ _)
  refine⟨u,rv,?_⟩
  rcases S.par y (uw hp)with k|k
  ·exact .inl ⟨k,vX ndP hp hu k⟩
  ·obtain⟨c,e⟩:=Zd (n:=s.heap.objs.size+1) k
   refine .inr ⟨.inl k,c,e,?_⟩
   have q:=x.cell y c e
   rw[vY ndP hp hu (by show scope.names.lookup y≠_;rw[k];decide)]at q
   exact q
 ·exact e0.hok.fresh (Nat.le_of_lt (x.above y c (u0 h)))
 ·unfold yK
  show _=N.length
  rw[ub,ua,UA]
  lia
theorem QG{CX:CXT}{P:Program}{w:World}{K:uc}{mg:Str->Option Value}{base:Heap}{k:Nat}{f:Addr}{name qual:Str}{params:Arguments}{body:List Stmt}{scope:Scope}{dV kV doc pm cdv ct oc:Value}{an od:Option Addr}
  {osl:Array (Option Value)} {N ps:List Str} {sp:Sp} (lk:K.lookup f=some ⟨oc,od,.func (uZ name qual params body scope dV kV doc pm an cdv ct),osl⟩) (hcd:Uy K cdv qual=true) (S:FnScope N ps scope)
  (len:∀vs H Q E,sp vs H Q E->vs.length=ps.length)
  (hbody:∀(A:Around)(outer:List Env)(s:Shared)(H:Hp)(vs:List V)(Q:VK)(E:XK),Room k (A.deeper (envOfC qual scope s.heap.objs.size f cdv))->sp vs H Q E ->
   ∃t,PSs (cxOf CX P w K mg base N qual scope f cdv A outer s H E) body t/\t { nx:=fun _ H'=>Q .non H',rt:=Q } (yK N vs) H) :
  FnOk P w K mg base CX (k+1) f (uZ name qual params body scope dV kV doc pm an cdv ct) ps sp:=by
 refine⟨len,fun A outer s H args us vs Q E hr e0 hb r hsp=>?_⟩
 have hl:=len _ _ _ _ hsp
 have KX:K.In s.heap:=e0.mod.kin.keeps fun b o e=>(e0.bs b o e).1
 have lim:s.heap.NoLimit:=e0.mod.nolimit.keeps fun b o e=>(e0.bs b o e).1
 have hkind:∀y∈ps.zip us,scope.names.lookup y.1=some .local\/(scope.names.lookup y.1=some .cell/\((cellsFrom (s.heap.objs.size+1) scope.names []).lookup y.1).isSome=true):=fun⟨n,v⟩ hy=>by
  rcases S.par n (UO hy).1 with q|q
  ·exact .inl q
  ·exact .inr ⟨q,PySem.W.cellsFrom_some _ _ _ (.inl q)⟩
 refine codeAny_call_function hr.depth (KX _ _ lk) rfl S.co S.gen rfl (PySem.W.codeRec_of KX hcd) (hb _ _ _ _ ?_)
 refine wpAny_newFunctionEnv_cells S.kind hkind fun env he s1 x=>?_
 subst he
 refine⟨lim.keeps x.toInCall.keep,codeAny_func ?_⟩
 obtain⟨t,ht,hq⟩:=hbody A outer s H vs Q E (hr.deeper _) hsp
 have I:Inv (cxOf CX P w K mg base N qual scope f cdv A outer s H E) [] (yK N vs) H s1:=vZ S hr.hd e0 hl r x
 refine wpAny_mono (ht [] s1 (yK N vs) H _ I hq) (fun fl s' hs=>?_) fun e s' hs=>hs
 have fin:∀{σ':St}{H':Hp}{v:V}{u:Value},Inv (cxOf CX P w K mg base N qual scope f cdv A outer s H E) [] σ' H' s'->RelV v u->Q v H'->CE outer P w H s Q u s' :=
  fun{σ' H' v u} J rv q=>⟨v,H',J.os,J.bare,J.base,J.hok,rv,q⟩
 cases fl with
 |ret u =>
  obtain⟨v,σ',H',J,rv,q⟩:=hs
  exact fin J rv q
 |next =>
  obtain⟨σ',H',J,q⟩:=hs
  exact fin (v:=V.non) (u:=Value.none) J rfl q
 |brk =>
  obtain⟨_,_,_,q⟩:=hs
  exact False.elim q
 |cont =>
  obtain⟨_,_,_,q⟩:=hs
  exact False.elim q
section
variable{X:Cx}{x:Str}{p pos:Pos}{e:Expr}{es:List Expr}{t:TA}{id T:String}{r:List V->Hp->VK->Prop}
def tCB(r:List V->Hp->VK->Prop)(t:TA):TE:=fun σ H Q=>t σ H fun vs H1=>r vs H1 Q
theorem X8(hc:yJ X (.builtin id) r)(hg:Gl X x)(hm:X.mg x=none)(hv:bootBuiltins x=some (.builtin id))(ha:PA X (e::es) t)(hn:x≠"__name__":=by decide)(hdb:(x == ("__debug__":Str))=false:=by decide)
  (he:starEach (e::es) X.env=(false,eval e X.env)::starEach es X.env:=by rfl) (hpl:(backTo pos (starEach es X.env)).any (·.1)=false:=by rfl):PE X (.Call (.Name x p) (e::es) [] pos) (tCB r t):=by
 intro pins s σ H Q I h
 refine wpAny_Call_Name_kw (wZ I hg hm hv ?_ hn hdb)
 exact PyProof.Rows.callWith_builtin1 (thn (ha pos pins s σ H _ I h) fun us s1 ⟨vs,H1,I1,r1,q1⟩=>hc pins s1 σ H1 vs us Q I1 r1 q1) he hpl
theorem Xs(hc:yJ X (.type T) r)(hg:Gl X x)(hm:X.mg x=none)(hv:bootBuiltins x=some (.type T))(ha:PA X (e::es) t)(hn:x≠"__name__":=by decide)(hdb:(x == ("__debug__":Str))=false:=by decide)
  (he:starEach (e::es) X.env=(false,eval e X.env)::starEach es X.env:=by rfl) (hpl:(backTo pos (starEach es X.env)).any (·.1)=false:=by rfl):PE X (.Call (.Name x p) (e::es) [] pos) (tCB r t):=by
 intro pins s σ H Q I h
 refine wpAny_Call_Name_kw (wZ I hg hm hv ?_ hn hdb)
 exact UD (thn (ha pos pins s σ H _ I h) fun us s1 ⟨vs,H1,I1,r1,q1⟩=>hc pins s1 σ H1 vs us Q I1 r1 q1) he hpl
end
end L2
namespace HT
open PySem PyProof.Rows
section
open PySem.SeqAt
open PySem.AutoSeq1 (wpAny_loadPart')
open PySem.MeetsSeq PySem.MeetsSeq2 PySem.MeetsSeq3
end
section
variable{prog:Program}{w:World}{A:Around}{E:Value->Shared->Prop}{s:Shared}
theorem cat_tup{t b:Addr}{vs ws:List Value}{Q:Value->Shared->Prop}(ht:IsTup s.heap t vs.toArray)(hb:IsTup s.heap b ws.toArray)(hv:vs≠[])
  (h1:ws=[]->Q (.ref t) s) (h2:ws≠[]->Q (.ref s.heap.objs.size) { s with heap:=s.heap.push { cls:=.type "tuple",data:=.seq (vs++ws).toArray } })
  (hsz:vs.length+ws.length<=sizeLine):wpAny (model prog w) A (binaryOp .Add (.ref t) (.ref b)) Q E s:=by
 obtain⟨⟨cls,dd,data,sl⟩,ho,hc,n,hd⟩:=id ht
 obtain⟨⟨cls2,dd2,data2,sl2⟩,ho2,hc2,n2,hd2⟩:=id hb
 simp only at hc hd hc2 hd2
 subst hc hd hc2 hd2
 have e:vs.toArray++ws.toArray=(vs++ws).toArray:=by simp
 by_cases hw:ws=[]
 ·exact concat_meets ⟨_,ho,rfl⟩ ⟨_,ho2,rfl⟩ noFill_tuple_add seq_tuple_add PySem.F.slot_tuple_add PySem.F.entry_tuple_add (PySem.F.args_tuple_add_2 _ _)
   (tuple_addW1 t b vs.toArray ws.toArray n n2 dd dd2 sl sl2 (by simpa using hv) (by simp[hw])) ⟨ho,ho2,h1 hw⟩
 ·refine concat_meets ⟨_,ho,rfl⟩ ⟨_,ho2,rfl⟩ noFill_tuple_add seq_tuple_add PySem.F.slot_tuple_add PySem.F.entry_tuple_add (PySem.F.args_tuple_add_2 _ _)
   (tuple_addW2 t b vs.toArray ws.toArray n n2 dd dd2 sl sl2 (by simpa using hv) (by simpa using hw) (by rw[ut,ut];exact hsz)) ⟨ho,ho2,?_⟩
  rw[e]
  exact h2 hw
def sIx(n d:Nat):Option Int->Nat
 |none=>d
 |some v=>if v < 0 then(v+(n:Int)).toNat else min v.toNat n
theorem zaG(n d:Nat)(hd:d<=n)(o:Option Int):sIx n d o<=n:=by
 cases o with
 |none=>exact hd
 |some v =>
  show(if v < 0 then(v+(n:Int)).toNat else min v.toNat n)<=n
  by_cases hv:v < 0
  ·rw[if_pos hv];lia
  ·rw[if_neg hv];exact Nat.min_le_right _ _
theorem Yw(v:Int)(n d:Nat):(if v < 0 then max (v+(n:Int)) 0 else min v (n:Int))=((sIx n d (some v):Nat):Int):=by
 show(if v < 0 then max (v+(n:Int)) 0 else min v (n:Int))=(((if v < 0 then(v+(n:Int)).toNat else min v.toNat n):Nat):Int)
 by_cases hv:v < 0
 ·simp only[if_pos hv];lia
 ·simp only[if_neg hv];lia
theorem ZW(lo hi:Option Int)(n:Nat):Builtin.Slice.sliceAdjust lo hi 1 (n:Int)=(((sIx n 0 lo:Nat):Int),((sIx n n hi:Nat):Int)):=by
 have h1:¬ ((1:Int) < 0):=by lia
 unfold Builtin.Slice.sliceAdjust
 simp only[h1,if_false]
 refine Prod.ext ?_ ?_
 ·cases lo with
  |none=>rfl
  |some v=>exact Yw v n 0
 ·cases hi with
  |none=>rfl
  |some v=>exact Yw v n n
theorem ZX(i j:Nat):Builtin.Slice.slicePlaces (i:Int) (j:Int) 1=j-i:=by
 unfold Builtin.Slice.slicePlaces
 have h1:(1:Int) > 0:=by lia
 simp only[h1,if_true,Int.ediv_one]
 split<;>lia
theorem vc{v:Value}{o:Option Int}{Q:Option Int->Shared->Prop}(p:IsPart v o)(h:Q o s):wpAny (model prog w) A (Builtin.Slice.slicePartIndex v) Q E s:=by
 cases p with
 |none=>exact slicePart_none h
 |int i t=>exact slicePart_int h
theorem yS{sl:Addr}{vl vu:Value}{lo hi:Option Int}{n:Nat}{Q:Int×Int×Nat->Shared->Prop}(hs:s.heap.IsSliceOf sl vl vu .none)(pl:IsPart vl lo)(pu:IsPart vu hi)
  (h:Q (((sIx n 0 lo:Nat):Int),1,sIx n n hi-sIx n 0 lo) s):wpAny (model prog w) A (Builtin.Slice.sliceApplied (.ref sl) (pure (n:Int))) Q E s:=by
 obtain⟨os,hos,hcs,hds⟩:=id hs
 unfold Builtin.Slice.sliceApplied Builtin.Slice.sliceFields
 refine wpAny_bind (wpAny_bind (wpAny_field hos hds (x:=vl) rfl (wpAny_bind (wpAny_field hos hds (x:=vu) rfl (wpAny_bind (wpAny_field hos hds (x:=.none) rfl (wpAny_pure ?_)))))))
 refine wpAny_bind (slicePart_none ?_)
 show wpAny _ _ (if((1:Int) == 0)=true then _ else _) _ _ s
 rw[if_neg (by decide)]
 refine wpAny_bind (vc pl (wpAny_bind (vc pu (wpAny_bind (wpAny_pure ?_)))))
 show wpAny _ _ (match Builtin.Slice.sliceAdjust lo hi 1 (n:Int)with|(lo,hi)=>pure (lo,(1:Int),Builtin.Slice.slicePlaces lo hi 1)) _ _ s
 rw[ZW lo hi n]
 show wpAny _ _ (pure (((sIx n 0 lo:Nat):Int),(1:Int),Builtin.Slice.slicePlaces ((sIx n 0 lo:Nat):Int) ((sIx n n hi:Nat):Int) 1)) _ _ s
 rw[ZX]
 exact wpAny_pure h
theorem X9(xs:Array Value)(i k:Nat):((Uw k).filterMap fun(m:Nat)=>xs[((i:Int)+(m:Int)*1).toNat]?).toArray=((xs.toList.drop i).take k).toArray:=by
 have e:(fun(m:Nat)=>xs[((i:Int)+(m:Int)*1).toNat]?)=fun m=>xs[i+m]?:=by
  funext m
  have:((i:Int)+(m:Int)*1).toNat=i+m:=by lia
  rw[this]
 rw[e]
 have:=pick_run xs i k
 rw[List.filterMap_map]at this
 have e2:((fun x=>xs[x]?) ∘ fun x=>i+x)=fun m=>xs[i+m]?:=rfl
 rw[e2]at this
 rw[this]
theorem getItem_tuple_cut{t sl:Addr}{items:Array Value}{vl vu:Value}{lo hi:Option Int}{Q:Value->Shared->Prop}(ht:IsTup s.heap t items)(hs:s.heap.IsSliceOf sl vl vu .none)(pl:IsPart vl lo)(pu:IsPart vu hi)
  (hw:¬ (sIx items.size 0 lo=0/\sIx items.size items.size hi=items.size))
  (h:Q (.ref s.heap.objs.size) { s with heap:=s.heap.push { cls:=.type "tuple",data:=.seq ((items.toList.drop (sIx items.size 0 lo)).take (sIx items.size items.size hi-sIx items.size 0 lo)).toArray } })
  (hsz:items.size<=sizeLine):wpAny (model prog w) A (getItem (.ref t) (.ref sl)) Q E s:=by
 have htake:sizeOk (.seq ((items.toList.drop (sIx items.size 0 lo)).take (sIx items.size items.size hi-sIx items.size 0 lo)).toArray):=by
  show((items.toList.drop (sIx items.size 0 lo)).take (sIx items.size items.size hi-sIx items.size 0 lo)).toArray.size<=sizeLine
  rw[ut,uM,List.length_drop,Array.length_toList]
  lia
 have hj:sIx items.size items.size hi<=items.size:=zaG _ _ (ud _) hi
 obtain⟨os,hos,hcs,hds⟩:=id hs
 have hTs:s.TypeIs (.ref sl) "slice":=⟨os,hos,hcs⟩
 unfold getItem
 try with_reducible refine wpAny_holding ?_
 first|refine wpAny_bind (wpAny_pure ?_)|skip
 refine wpAny_bind (wpAny_sequenceKey ht.typeIs (by decide) ?_)
 refine wpAny_bind (wpAny_callSpecial?_slot (name:=Str.ofString "__getitem__") ht.typeIs Ub
  (wpAny_call_entry Ub ht.typeIs entry_tuple_getitem ?_ (args_tuple_getitem _ _)))
 show wpAny _ _ (Builtin.Tuple.tupleItemsOf (.ref t) >>= _) _ _ s
 refine wpAny_bind (tupleItemsOf_ ht ?_)
 refine wpAny_bind (wpAny_typeOf hTs ?_)
 rw[if_pos (by decide)]
 refine wpAny_bind (yS hs pl pu ?_)
 have hno:¬ ((((sIx items.size 0 lo:Nat):Int) == 0 && (1:Int) == 1 && (sIx items.size items.size hi-sIx items.size 0 lo) == items.size)=true):=by
  intro q
  rw[uQ,uQ]at q
  have q1:((sIx items.size 0 lo:Nat):Int)=0:=eq_of_beq q.1.1
  have q2:sIx items.size items.size hi-sIx items.size 0 lo=items.size:=eq_of_beq q.2
  exact hw ⟨by lia,by lia⟩
 show wpAny _ _ (if(((sIx items.size 0 lo:Nat):Int) == 0 && (1:Int) == 1 && (sIx items.size items.size hi-sIx items.size 0 lo) == items.size)=true then _ else _) _ _ s
 rw[if_neg hno,X9]
 first
  |exact wpAny_bind (m:=Builtin.Tuple.tupleExact _) (wpAny_newObj_type (wpAny_pure ⟨_,rfl,wpAny_pure h⟩) htake)
  |exact wpAny_bind (m:=Builtin.Tuple.tupleExact _) (wpAny_newObj_type (wpAny_bind (wpAny_pure (wpAny_pure ⟨_,rfl,wpAny_pure h⟩))) htake)
  |exact wpAny_bind (wpAny_bind (m:=Builtin.Tuple.tupleExact _) (wpAny_newObj_type (wpAny_pure (wpAny_pure ⟨_,rfl,wpAny_pure h⟩)) htake))
  |exact wpAny_bind (wpAny_bind (m:=Builtin.Tuple.tupleExact _) (wpAny_newObj_type (wpAny_pure ⟨_,rfl,wpAny_pure h⟩) htake))
end
end HT
namespace L2
open PySem PySem.Spec PyProof.Rows
abbrev TO:=St->Hp->(Option Int->Hp->Prop)->Prop
def PO(X:Cx)(e:Option Expr)(t:TO):Prop :=
 ∀(pins:List (Addr×Obj))(s:Shared)(σ:St)(H:Hp)(Q:Option Int->Hp->Prop),Inv X pins σ H s->t σ H Q ->
  wpAny (model X.prog X.w) X.A (evalPart e X.env) (fun u s'=>∃o H',Inv X pins σ H' s'/\IsPart u o/\Q o H') X.xe s
def Yx:TO:=fun _ H Q=>Q none H
def QH(t:TE):TO:=fun σ H Q=>t σ H fun x H1=>∃i,x=.int i/\Q (some i) H1
section
variable{X:Cx}{e:Expr}{te:TE}{lo hi:Option Expr}{tl th:TO}{pos p2:Pos}
theorem Jp:PO X none Yx:=by
 intro pins s σ H Q I h
 rw[evalPart_none]
 exact wpAny_pure ⟨none,H,I,.none,h⟩
theorem Jq(h:PE X e te):PO X (some e) (QH te):=by
 intro pins s σ H Q I hw
 rw[evalPart_some]
 refine thn (h pins s σ H _ I hw) fun u s1 ⟨x,H1,I1,r1,q1⟩=>?_
 obtain⟨i,rfl,q⟩:=q1
 obtain⟨t,rfl⟩:=r1
 exact⟨some i,H1,I1,.int i t,q⟩
def SlR(X:Cx)(r:V->Option Int->Option Int->Hp->VK->Prop):Prop :=
 ∀(pins:List (Addr×Obj))(s:Shared)(σ:St)(H:Hp)(x:V)(v vl vu:Value)(lo hi:Option Int)(sl:Addr)(Q:VK),Inv X pins σ H s->RelV x v->s.heap.IsSliceOf sl vl vu .none->IsPart vl lo->IsPart vu hi->r x lo hi H Q ->
  ∃T id,typeLookup (.type T) "__getitem__"=pure (some (.builtin id))/\s.TypeIs v T/\wpAny (model X.prog X.w) X.A (getItem v (.ref sl)) (EP X pins σ Q) X.xe s
def tSl(r:V->Option Int->Option Int->Hp->VK->Prop)(te:TE)(tl th:TO):TE:=fun σ H Q=>te σ H fun x H1=>tl σ H1 fun l H2=>th σ H2 fun u H3=>r x l u H3 Q
theorem Wa{r:V->Option Int->Option Int->Hp->VK->Prop}(hr:SlR X r)(he:PE X e te)(hl:PO X lo tl)(hu:PO X hi th):PE X (.Subscript e (.Slice lo hi none p2) pos) (tSl r te tl th):=by
 intro pins s σ H Q I h
 refine Subscript_ (thn (he pins s σ H _ I h) fun v s1 ⟨x,H1,I1,r1,q1⟩=>?_)
 refine wpAny_Slice (thn (hl pins s1 σ H1 _ I1 q1) fun vl s2 ⟨l,H2,I2,pl,q2⟩=>thn (hu pins s2 σ H2 _ I2 q2) fun vu s3 ⟨u,H3,I3,pu,q3⟩=>?_)
 rw[evalPart_none]
 refine wpAny_pure ?_
 have I4:Inv X pins σ H3 { s3 with heap:=s3.heap.push { cls:=.type "slice",data:=.fields #[vl,vu,.none] } }:=I3.kept (t':=s3.toks) fun b ob q=>ue _ q
 obtain⟨T,id,hT,ht,hg⟩:=hr pins { s3 with heap:=s3.heap.push { cls:=.type "slice",data:=.fields #[vl,vu,.none] } } σ H3 x v vl vu l u s3.heap.objs.size Q I4 r1 (Heap.IsSliceOf.new ..) pl pu q3
 show wpAny (model X.prog X.w) X.A (subscriptTail e (.Slice lo hi none p2) v (.ref s3.heap.objs.size)) (EP X pins σ Q) X.xe { s3 with heap:=s3.heap.push { cls:=.type "slice",data:=.fields #[vl,vu,.none] } }
 exact tail_any (ops:=[.ref s3.heap.objs.size,v]) ht hT hg (by with_unfolding_all rfl)
def cutV(xs:List V)(lo hi:Option Int):List V:=(xs.drop (HT.sIx xs.length 0 lo)).take (HT.sIx xs.length xs.length hi-HT.sIx xs.length 0 lo)
theorem wK(xs:List V)(lo hi:Option Int):(cutV xs lo hi).length<=xs.length:=by
 unfold cutV
 rw[uM,List.length_drop]
 lia
def rSlT(K:uc):V->Option Int->Option Int->Hp->VK->Prop:=fun x lo hi H Q=>∃a xs,x=.ref a/\SqT K H a xs /\
 ¬ (HT.sIx xs.length 0 lo=0/\HT.sIx xs.length xs.length hi=xs.length)/\∀p,H p=none->Q (.ref p) (upd H p (.tup (cutV xs lo hi)))
theorem zaH:SlR X (rSlT X.K):=by
 intro pins s σ H x v vl vu lo hi sl Q I rx hs pl pu h
 obtain⟨a,xs,rfl,hx,hw,q⟩:=h
 cases rx
 obtain⟨its,r,ht,hz⟩:=I.tuple hx
 have hlen:its.toArray.size=xs.length:=by rw[ut];exact r.length.symm
 refine⟨"tuple",_,Ub.lookup,ht.typeIs,?_⟩
 refine HT.getItem_tuple_cut ht hs pl pu (by rw[hlen];exact hw) ?_ (by rw[hlen];exact hz)
 rw[hlen]
 refine⟨.ref s.heap.objs.size,_,I.laid (t':=s.toks) (o:=.tup (cutV xs lo hi)) (fun b ob q=>ue _ q) (ud _) ?_,rfl,q _ (I.hok.fresh (ud _))⟩
 exact⟨uD (wK xs lo hi) hz,_,(r.drop (HT.sIx xs.length 0 lo)).take (HT.sIx xs.length xs.length hi-HT.sIx xs.length 0 lo),IsTupN.new _ _⟩
def Wb(K:uc):R2:=fun x y H Q=>∃a b xs ys,x=.ref a/\y=.ref b/\SqT K H a xs/\SqT K H b ys/\xs≠[]/\xs.length+ys.length<=sizeLine /\
 (ys=[]->Q (.ref a) H)/\(ys≠[]->∀p,H p=none->Q (.ref p) (upd H p (.tup (xs++ys))))
theorem Vals.nil_iff{xs:List V}{us:List Value}(r:Vals xs us):us=[]↔xs=[]:=by
 cases r with
 |nil=>simp
 |cons _ _=>simp
theorem Jr:OpR X (binaryOp .Add) (Wb X.K):=by
 intro pins s σ H x y v u Q I rx ry h
 obtain⟨a,b,xs,ys,rfl,rfl,ha,hb,hx,hz,q1,q2⟩:=h
 cases rx
 cases ry
 obtain⟨its,r1,p1,_⟩:=I.tuple ha
 obtain⟨its2,r2,p2,_⟩:=I.tuple hb
 refine HT.cat_tup p1 p2 (fun z=>hx (r1.nil_iff.mp z)) (fun z=>⟨.ref a,H,I,rfl,q1 (r2.nil_iff.mp z)⟩) (fun z=>?_) (by rw[<- r1.length,<- r2.length];exact hz)
 refine⟨.ref s.heap.objs.size,_,I.laid (t':=s.toks) (o:=.tup (xs++ys)) (fun b ob q=>ue _ q) (ud _) ?_,rfl,q2 (fun w=>z (r2.nil_iff.mpr w)) _ (I.hok.fresh (ud _))⟩
 exact⟨by rw[ub];exact hz,_,r1.append r2,IsTupN.new _ _⟩
end
def ixN(n:Nat)(i:Int):Option Nat:=if 0<=i then(if i < n then some i.toNat else none)else if -(n:Int)<=i then some (i+n).toNat else none
def atI{α:Type}(xs:List α)(i:Int):Option α:=(ixN xs.length i).bind fun j=>xs[j]?
theorem Yy{n:Nat}{i:Int}{j:Nat}(h:ixN n i=some j):seqIndex? i n=some j/\j < n/\-(n:Int)<=i/\i < n:=by
 unfold ixN at h
 by_cases h0:0<=i
 ·rw[if_pos h0]at h
  by_cases h1:i < n
  ·rw[if_pos h1]at h
   have e:i.toNat=j:=u9.inj h
   exact⟨by rw[seqIndex_of h0 h1,e],by lia,by lia,h1⟩
  ·rw[if_neg h1]at h;cases h
 ·rw[if_neg h0]at h
  by_cases h1:-(n:Int)<=i
  ·rw[if_pos h1]at h
   have e:(i+n).toNat=j:=u9.inj h
   exact⟨by rw[seqIndex_neg (by lia) h1,e],by lia,h1,by lia⟩
  ·rw[if_neg h1]at h;cases h
theorem jg{α:Type}{xs:List α}{i:Int}{v:α}(h:atI xs i=some v):∃j,seqIndex? i xs.length=some j/\xs[j]?=some v/\j < xs.length/\-(xs.length:Int)<=i/\i < xs.length:=by
 unfold atI at h
 cases e:ixN xs.length i with
 |none=>rw[e]at h;cases h
 |some j =>
  rw[e]at h
  obtain⟨h1,h2,h3,h4⟩:=Yy e
  exact⟨j,h1,h,h2,h3,h4⟩
theorem zL{α:Type}{xs:List α}{j:Nat}{v:α}(h:xs[j]?=some v):atI xs (j:Int)=some v:=by
 have hj:j < xs.length:=(uf.mp h).1
 have e:ixN xs.length (j:Int)=some j:=by
  unfold ixN
  rw[if_pos (by lia),if_pos (by lia)];simp
 unfold atI;rw[e];exact h
theorem aI0{α:Type}{a:α}{r:List α}:atI (a::r) 0=some a:=zL (j:=0) rfl
theorem aI1{α:Type}{a b:α}{r:List α}:atI (a::b::r) 1=some b:=zL (j:=1) rfl
theorem aI2{α:Type}{a b c:α}{r:List α}:atI (a::b::c::r) 2=some c:=zL (j:=2) rfl
theorem aI3{α:Type}{a b c d:α}{r:List α}:atI (a::b::c::d::r) 3=some d:=zL (j:=3) rfl
theorem aI4{α:Type}{a b c d e:α}{r:List α}:atI (a::b::c::d::e::r) 4=some e:=zL (j:=4) rfl
theorem aI5{α:Type}{a b c d e f:α}{r:List α}:atI (a::b::c::d::e::f::r) 5=some f:=zL (j:=5) rfl
theorem zC{α:Type}(xs:List α)(v:α):atI (xs++[v]) (-1)=some v:=by
 have hl:(xs++[v]).length=xs.length+1:=by simp
 have e:ixN (xs++[v]).length (-1)=some xs.length:=by
  unfold ixN
  rw[hl,if_neg (by decide),if_pos (by lia)]
  congr 1
  lia
 unfold atI
 rw[e]
 show(xs++[v])[xs.length]?=some v
 simp
def jh(b:Expr):Prop:=∀o i,subscripted b false o i=operate [o,i] (getItem o i)
def IxR(X:Cx)(r:R2):Prop :=
 ∀(value slice:Expr)(pins:List (Addr×Obj))(s:Shared)(σ:St)(H:Hp)(x y:V)(v u:Value)(Q:VK),Inv X pins σ H s->RelV x v->RelV y u->r x y H Q ->
  subscripted slice false v u=operate [v,u] (getItem v u)->wpAny (model X.prog X.w) X.A (subscriptTail value slice v u) (EP X pins σ Q) X.xe s
def MtR(X:Cx)(id:String)(r:V->List V->Hp->VK->Prop):Prop :=
 ∀(pins:List (Addr×Obj))(s:Shared)(σ:St)(H:Hp)(x:V)(xs:List V)(v:Value)(us:List Value)(Q:VK),Inv X pins σ H s->RelV x v->Vals xs us->r x xs H Q ->
  wpAny (model X.prog X.w) X.A (call (.builtin id) (v::us)) (EP X pins σ Q) X.xe s
section
variable{X:Cx}{a b:Expr}{ta tb:TE}{pos:Pos}
theorem zbN{r:R2}(hr:IxR X r)(ha:PE X a ta)(hb:PE X b tb)(hs:jh b):PE X (.Subscript a b pos) (tOp r ta tb):=by
 intro pins s σ H Q I h
 exact Subscript_ (binT ha hb I h fun v u s2 x y H2 I2 rx ry q=>hr a b pins s2 σ H2 x y v u Q I2 rx ry q (hs _ _))
def rIxL(K:uc):R2:=fun x y H Q=>∃p xs i v,x=.ref p/\y=.int i/\SqL K H p xs/\atI xs i=some v/\Q v H
def rIxT(K:uc):R2:=fun x y H Q=>∃p xs i v,x=.ref p/\y=.int i/\SqT K H p xs/\atI xs i=some v/\Q v H
def rIxS:R2:=fun x y H Q=>∃z i c,x=.str z/\y=.int i/\z.length<=sizeLine/\atI z.cps.toList i=some c/\Q (.str ⟨#[c]⟩) H
theorem Js:IxR X (rIxL X.K):=by
 intro value slice pins s σ H x y v u Q I rx ry h hs
 obtain⟨p,xs,i,z,rfl,rfl,hq,he,q⟩:=h
 cases rx
 obtain⟨t,rfl⟩:=ry
 obtain⟨its,r,pl,hz⟩:=I.list hq
 obtain⟨j,h1,h2,h3,h4,h5⟩:=jg he
 obtain⟨w,ew,rw'⟩:=r.get h2
 have hl:=r.length
 have hn:=vb
 have fin:EP X pins σ Q w s:=⟨z,H,I,rw',q⟩
 by_cases h0:0<=i
 ·have hj:i.toNat=j:=by
   rw[seqIndex_of h0 h5]at h1
   exact u9.inj h1
  exact item_listR pl.isList h0 (by lia) (by rw[hj];simpa using ew) fin hs
 ·have hj:(i+(its.toArray.size:Int)).toNat=j:=by
   rw[seqIndex_neg (by lia) h4]at h1
   rw[ut,<- hl]
   exact u9.inj h1
  exact subscriptTail_builtinR (x:=w) pl.isList.typeIs slot_list_getitem.lookup
   (wpAny_getItem_list_neg (Q:=fun r s'=>r=w/\EP X pins σ Q r s') pl.isList (by lia) (by rw[ut]<;>lia) (by lia) (by rw[hj];simpa using ew) ⟨rfl,fin⟩) hs
theorem zaI:IxR X (rIxT X.K):=by
 intro value slice pins s σ H x y v u Q I rx ry h hs
 obtain⟨p,xs,i,z,rfl,rfl,hq,he,q⟩:=h
 cases rx
 obtain⟨t,rfl⟩:=ry
 obtain⟨its,r,pl,hz⟩:=I.tuple hq
 obtain⟨j,h1,h2,h3,h4,h5⟩:=jg he
 obtain⟨w,ew,rw'⟩:=r.get h2
 have hl:=r.length
 have hn:=vb
 have fin:EP X pins σ Q w s:=⟨z,H,I,rw',q⟩
 exact subscriptTail_builtinR (x:=w) pl.typeIs slot_tuple_getitem.lookup
  (getItem_tuple (j:=j) (Q:=fun r s'=>r=w/\EP X pins σ Q r s') pl (by lia) (by lia) (by rw[ut,<- hl];exact h1) (by simpa using ew) ⟨rfl,fin⟩) hs
theorem zaJ:IxR X rIxS:=by
 intro value slice pins s σ H x y v u Q I rx ry h hs
 obtain⟨z,i,c,rfl,rfl,hz,he,q⟩:=h
 obtain⟨t,rfl⟩:=rx
 obtain⟨t',rfl⟩:=ry
 obtain⟨j,h1,h2,h3,h4,h5⟩:=jg he
 have hl:z.cps.toList.length=z.length:=by simp[Str.length]
 rw[hl]at h1 h4 h5
 have hn:=vb
 exact tail_any (typeIs_str s z t) slot_str_getitem.lookup (getItem_str (c:=c) (by
  have e1:decide (i < -(2 ^ 63:Int))=false:=decide_eq_false (by lia)
  have e2:decide (i ≥ 2 ^ 63)=false:=decide_eq_false (by lia)
  rw[e1,e2,Bool.or_false]) (by rw[h1];simpa using h2) ⟨.str ⟨#[c]⟩,H,I.tok _,⟨_,rfl⟩,q⟩) hs
theorem ZY(its:List Value)(n j:Nat)(u:Value):Obj.mapSeq (·.setIfInBounds j u) { cls:=.type "list",data:=.seq its.toArray n }={ cls:=.type "list",data:=.seq (its.set j u).toArray n }:=by
 simp[Obj.mapSeq]
theorem Inv.lst{pins:List (Addr×Obj)}{σ:St}{H:Hp}{s:Shared}{p:Addr}{xs:List V}(I:Inv X pins σ H s)(h:H p=some (.lst xs)):
  ∃(its:List Value)(n:Nat),Vals xs its/\s.heap.get? p=some { cls:=.type "list",data:=.seq its.toArray n }/\xs.length<=sizeLine:=by
 obtain⟨z,its,n,r,e⟩:=I.hok p _ h
 exact⟨its,n,r,e,z⟩
theorem Inv.lstUpd{pins:List (Addr×Obj)}{σ:St}{H:Hp}{s:Shared}{p:Addr}{xs ys:List V}{its its':List Value}{n n':Nat}{f:Obj->Obj}(I:Inv X pins σ H s)(h:H p=some (.lst xs))
  (ho:s.heap.get? p=some { cls:=.type "list",data:=.seq its.toArray n }) (hf:f { cls:=.type "list",data:=.seq its.toArray n }={ cls:=.type "list",data:=.seq its'.toArray n' }) (r:Vals ys its') (hz:ys.length<=sizeLine) (t:Nat) :
  Inv X pins σ (upd H p (.lst ys)) { s with heap:=s.heap.update p f,toks:=t }:=by
 have e:(s.heap.update p f).get? p=some { cls:=.type "list",data:=.seq its'.toArray n' }:=by
  rw[Heap.get?_update_self f ho (by rw[hf]<;>rfl),hf]
 refine I.write (x:=p) (e:=p) (by rw[h];trivial) (.inl rfl) (fun b u hb q=>(Heap.get?_update_other _ _ (Ne.symm hb)).trans q) ⟨_,e⟩ ?_
 exact⟨hz,its',n',r,e⟩
def QI:V->V->V->Hp->(Hp->Prop)->Prop:=fun o i v H Q=>∃p xs k j,o=.ref p/\i=.int k/\H p=some (.lst xs)/\ixN xs.length k=some j/\Q (upd H p (.lst (xs.set j v)))
theorem Wc:PSet X QI:=by
 intro pins s σ H o i v ov iv u Q I ro ri rv h
 obtain⟨p,xs,k,j,rfl,rfl,hp,hj,q⟩:=h
 cases ro
 obtain⟨t,rfl⟩:=ri
 obtain⟨its,n,r,ho,hz⟩:=I.lst hp
 obtain⟨h1,h2,h3,h4⟩:=Yy hj
 have hl:=r.length
 have hn:=vb
 have I':Inv X pins σ (upd H p (.lst (xs.set j v))) { s with heap:=s.heap.update p (Obj.mapSeq (·.setIfInBounds j u)) } :=
  I.lstUpd hp ho (ZY its n j u) (r.set rv j) (by rw[List.length_set];exact hz) s.toks
 by_cases h0:0<=k
 ·have hk:k.toNat=j:=by
   rw[seqIndex_of h0 h4]at h1
   exact u9.inj h1
  exact PySem.W.ki_setAt ho h0 (by lia) (by rw[ut,<- hl];exact h4) (by rw[hk];exact⟨_,I',q⟩)
 ·have hk:(k+(its.toArray.size:Int)).toNat=j:=by
   rw[seqIndex_neg (by lia) h3]at h1
   rw[ut,<- hl]
   exact u9.inj h1
  exact PySem.W.ki_setBack ho (by lia) (by rw[ut,<- hl];exact h3) (by lia) (by rw[hk];exact⟨_,I',q⟩)
theorem ji(lo hi:Option Int)(n:Nat):(sliceBounds lo hi none n).1=((HT.sIx n 0 lo:Nat):Int)/\(sliceBounds lo hi none n).2.1=((HT.sIx n n hi:Nat):Int)/\(sliceBounds lo hi none n).2.2=1:=by
 refine⟨?_,?_,rfl⟩
 ·cases lo with
  |none=>simp[sliceBounds,HT.sIx]
  |some i =>
   simp only[sliceBounds,HT.sIx,Option.getD_none,show(1:Int) > 0 by decide,if_true]
   by_cases h:i < 0
   ·simp only[h,if_true]<;>lia
   ·simp only[h,if_false]<;>lia
 ·cases hi with
  |none=>simp[sliceBounds,HT.sIx]
  |some i =>
   simp only[sliceBounds,HT.sIx,Option.getD_none,show(1:Int) > 0 by decide,if_true]
   by_cases h:i < 0
   ·simp only[h,if_true]<;>lia
   ·simp only[h,if_false]<;>lia
theorem vQ(its:List Value)(lo hi:Option Int):slicePick its.toArray lo hi none=((its.drop (HT.sIx its.length 0 lo)).take (HT.sIx its.length its.length hi-HT.sIx its.length 0 lo)).toArray:=by
 obtain⟨h1,h2,h3⟩:=ji lo hi its.toArray.size
 unfold slicePick
 rw[h1,h2,h3]
 simp only[sliceRange_one,pick_run,ut]<;>rfl
def rSlL(K:uc):V->Option Int->Option Int->Hp->VK->Prop:=fun x lo hi H Q=>∃a xs,x=.ref a/\SqL K H a xs/\∀p,H p=none->Q (.ref p) (upd H p (.lst (cutV xs lo hi)))
theorem Jt:SlR X (rSlL X.K):=by
 intro pins s σ H x v vl vu lo hi sl Q I rx hs pl pu h
 obtain⟨a,xs,rfl,hx,q⟩:=h
 cases rx
 obtain⟨its,r,ht,hz⟩:=I.list hx
 have hlen:=r.length
 refine⟨"list",_,slot_list_getitem.lookup,ht.isList.typeIs,?_⟩
 refine wpAny_getItem_list_slice ht.isList hs pl pu .none (by simp) ?_ (by rw[ut]<;>lia)
 rw[vQ,<- hlen]
 refine⟨.ref s.heap.objs.size,_,I.laid (t':=s.toks) (o:=.lst (cutV xs lo hi)) (fun b ob q=>ue _ q) (ud _) ?_,rfl,q _ (I.hok.fresh (ud _))⟩
 exact⟨uD (wK xs lo hi) hz,_,0,(r.drop (HT.sIx xs.length 0 lo)).take (HT.sIx xs.length xs.length hi-HT.sIx xs.length 0 lo),ux _ rfl⟩
def xN:V->Bool
 |.non=>true
 |.bl _=>true
 |.int _=>true
 |.str _=>true
 |_=>false
def eqV:V->V->Bool
 |.non,.non=>true
 |.bl a,.bl b=>a == b
 |.bl a,.int b=>(if a then 1 else 0) == b
 |.int a,.bl b=>a == (if b then 1 else 0)
 |.int a,.int b=>a == b
 |.str a,.str b=>a == b
 |_,_=>false
theorem zaK{A:Around}{s:Shared}{y x:V}{u v:Value}(ry:RelV y u)(rx:RelV x v)(fy:xN y=true)(fx:xN x=true):SeqAt.EqAt A s u v (eqV y x):=by
 cases y with
 |non =>
  cases ry
  cases x with
  |non=>cases rx;exact SeqAt.EqAt.same _
  |bl b=>cases rx;exact SeqAt.EqAt.none_bool b
  |int b=>obtain⟨t,rfl⟩:=rx;exact SeqAt.EqAt.none_int b t
  |str b=>obtain⟨t,rfl⟩:=rx;exact SeqAt.EqAt.none_str b t
  |_=>exact absurd (show false=true from fx) uA
 |bl a =>
  cases ry
  cases x with
  |non=>cases rx;exact SeqAt.EqAt.bool_none a
  |bl b=>cases rx;exact SeqAt.EqAt.bool_bool a b
  |int b=>obtain⟨t,rfl⟩:=rx;exact SeqAt.EqAt.bool_int a b t
  |str b=>obtain⟨t,rfl⟩:=rx;exact SeqAt.EqAt.bool_str a b t
  |_=>exact absurd (show false=true from fx) uA
 |int a =>
  obtain⟨t',rfl⟩:=ry
  cases x with
  |non=>cases rx;exact SeqAt.EqAt.int_none a t'
  |bl b=>cases rx;exact SeqAt.EqAt.int_bool a t' b
  |int b=>obtain⟨t,rfl⟩:=rx;exact SeqAt.EqAt.int_int a t' b t
  |str b=>obtain⟨t,rfl⟩:=rx;exact SeqAt.EqAt.int_str a t' b t
  |_=>exact absurd (show false=true from fx) uA
 |str a =>
  obtain⟨t',rfl⟩:=ry
  cases x with
  |non=>cases rx;exact SeqAt.EqAt.str_none a t'
  |bl b=>cases rx;exact SeqAt.EqAt.str_bool a t' b
  |int b=>obtain⟨t,rfl⟩:=rx;exact SeqAt.EqAt.str_int a t' b t
  |str b=>obtain⟨t,rfl⟩:=rx;exact SeqAt.EqAt.str_str a t' b t
  |_=>exact absurd (show false=true from fx) uA
 |_=>exact absurd (show false=true from fy) uA
def eqU(x:V)(u:Value):Bool:=match u with
 |.none=>eqV .non x
 |.bool b=>eqV (.bl b) x
 |.int i _=>eqV (.int i) x
 |.str z _=>eqV (.str z) x
 |_=>false
theorem Wd{x y:V}{u:Value}(r:RelV y u)(f:xN y=true):eqU x u=eqV y x:=by
 cases y with
 |non=>cases r;rfl
 |bl b=>cases r;rfl
 |int i=>obtain⟨t,rfl⟩:=r;rfl
 |str z=>obtain⟨t,rfl⟩:=r;rfl
 |_=>exact absurd (show false=true from f) uA
theorem xO{x:V}:∀{xs:List V}{us:List Value},Vals xs us->xs.all xN=true->us.any (eqU x)=xs.any fun y=>eqV y x
 |_,_,.nil,_=>rfl
 |y::xs,u::us,.cons r t,f=>by
  rw[UJ,uQ]at f
  rw[uO,uO,Wd r f.1,xO t f.2]
theorem xi{A:Around}{s:Shared}{x:V}{v:Value}(rx:RelV x v)(fx:xN x=true):∀{xs:List V}{us:List Value},Vals xs us->xs.all xN=true->∀u∈us,SeqAt.EqAt A s u v (eqU x u)
 |_,_,.nil,_=>fun u hu=>by cases hu
 |y::xs,u::us,.cons r t,f=>fun u' hu=>by
  rw[UJ,uQ]at f
  rcases um.mp hu with rfl|hu
  ·rw[Wd r f.1];exact zaK r rx f.1 fx
  ·exact xi rx fx t f.2 u' hu
def inV(x:V)(xs:List V):Bool:=xs.any fun y=>eqV y x
def rIn(K:uc)(neg:Bool):R2:=fun x y H Q=>∃p xs,y=.ref p/\(SqL K H p xs\/SqT K H p xs)/\xN x=true/\xs.all xN=true/\Q (.bl (if neg then !inV x xs else inV x xs)) H
theorem Xt:OpR X (compareOp .In) (rIn X.K false):=by
 intro pins s σ H x y v u Q I rx ry h
 obtain⟨p,xs,rfl,hq,fx,fs,q⟩:=h
 cases ry
 rcases hq with hq|hq
 ·obtain⟨its,r,pl,hz⟩:=I.list hq
  refine SeqAt.in_listAt (eqU x) pl.isList (fun w hw=>xi rx fx r fs w (by simpa using hw)) ⟨.bl _,H,I,rfl,?_⟩
  rw[show its.toArray.any (eqU x)=its.any (eqU x) by simp,xO r fs]
  exact q
 ·obtain⟨its,r,pl,hz⟩:=I.tuple hq
  refine SeqAt.in_tupleAt (eqU x) pl (fun w hw=>xi rx fx r fs w (by simpa using hw)) ⟨.bl _,H,I,rfl,?_⟩
  rw[show its.toArray.any (eqU x)=its.any (eqU x) by simp,xO r fs]
  exact q
theorem jj:OpR X (compareOp .NotIn) (rIn X.K true):=by
 intro pins s σ H x y v u Q I rx ry h
 obtain⟨p,xs,rfl,hq,fx,fs,q⟩:=h
 cases ry
 rcases hq with hq|hq
 ·obtain⟨its,r,pl,hz⟩:=I.list hq
  refine SeqAt.notIn_listAt (eqU x) pl.isList (fun w hw=>xi rx fx r fs w (by simpa using hw)) ⟨.bl _,H,I,rfl,?_⟩
  rw[show its.toArray.any (eqU x)=its.any (eqU x) by simp,xO r fs]
  exact q
 ·obtain⟨its,r,pl,hz⟩:=I.tuple hq
  refine SeqAt.notIn_tupleAt (eqU x) pl (fun w hw=>xi rx fx r fs w (by simpa using hw)) ⟨.bl _,H,I,rfl,?_⟩
  rw[show its.toArray.any (eqU x)=its.any (eqU x) by simp,xO r fs]
  exact q
theorem jk:yJ X (.builtin "len") (fun xs H Q=>∃p ys,xs=[.ref p]/\(SqL X.K H p ys\/SqT X.K H p ys)/\Q (.int ys.length) H):=by
 intro pins s σ H xs us Q I r h
 obtain⟨p,ys,rfl,hq,q⟩:=h
 obtain⟨u,rfl,rx⟩:=xM r
 cases rx
 have hn:=vb
 rcases hq with hq|hq
 ·obtain⟨its,r',pl,hz⟩:=I.list hq
  have hlen:=r'.length
  exact Calls.call_len_list pl.isList (by simp only[ut]<;>lia) ⟨.int ys.length,H,I.tok _,⟨s.toks+1,by rw[ut,hlen]⟩,q⟩
 ·obtain⟨its,r',pl,hz⟩:=I.tuple hq
  have hlen:=r'.length
  exact len_tuple pl (by simp only[ut]<;>lia) ⟨.int ys.length,H,I.tok _,⟨s.toks+1,by rw[ut,hlen]⟩,q⟩
theorem jl:yJ X (.type "list") (fun xs H Q=>∃p ys,xs=[.ref p]/\(SqL X.K H p ys\/SqT X.K H p ys)/\∀l,H l=none->Q (.ref l) (upd H l (.lst ys))):=by
 intro pins s σ H xs us Q I r h
 obtain⟨p,ys,rfl,hq,q⟩:=h
 obtain⟨u,rfl,rx⟩:=xM r
 cases rx
 have fin:∀(its:List Value),Vals ys its->ys.length<=sizeLine->∀(h':Heap)(c':Nat),(∀b o',s.heap.get? b=some o'->h'.get? b=some o') ->
   h'.get? s.heap.objs.size=some { cls:=.type "list",dict:=none,data:=.seq its.toArray c',slots:=#[] }->EP X pins σ Q (.ref s.heap.objs.size) { s with heap:=h' }:=fun its r' hz h' c' kp e =>
  ⟨.ref s.heap.objs.size,_,I.laid (t':=s.toks) kp (ud _) (show ObjOk X.prog X.w _ h' _ (.lst ys)from⟨hz,its,c',r',e⟩),rfl,q _ (I.hok.fresh (ud _))⟩
 rcases hq with hq|hq
 ·obtain⟨its,r',pl,hz⟩:=I.list hq
  have hlen:=r'.length
  obtain⟨o,ho,hc,n,hd⟩:=pl.isList
  exact call_list_seq p (.inl rfl) ho hc hd (fun h' c' kp e=>fin its r' hz h' c' kp e) (by simp only[ut]<;>lia)
 ·obtain⟨its,r',pl,hz⟩:=I.tuple hq
  have hlen:=r'.length
  obtain⟨o,ho,hc,n,hd⟩:=pl
  exact call_list_seq p (.inr rfl) ho hc hd (fun h' c' kp e=>fin its r' hz h' c' kp e) (by simp only[ut]<;>lia)
theorem vR:yJ X (.type "tuple") (fun xs H Q=>∃p ys,xs=[.ref p]/\((SqL X.K H p ys/\∀l,H l=none->Q (.ref l) (upd H l (.tup ys)))\/(SqT X.K H p ys/\Q (.ref p) H))):=by
 intro pins s σ H xs us Q I r h
 obtain⟨p,ys,rfl,h⟩:=h
 obtain⟨u,rfl,rx⟩:=xM r
 cases rx
 rcases h with⟨hq,q⟩|⟨hq,q⟩
 ·obtain⟨its,r',pl,hz⟩:=I.list hq
  have hlen:=r'.length
  refine call_tuple_list pl.isList (fun h' kp=>?_) (by simp only[ut]<;>lia)
  have I1:Inv X pins σ H { s with heap:=h' }:=I.kept (t':=s.toks) kp
  have I2:Inv X pins σ (upd H h'.objs.size (.tup ys)) { s with heap:=h'.push { cls:=.type "tuple",data:=.seq its.toArray } } :=
   I1.laid (t':=s.toks) (fun b o e=>ue _ e) (ud _) (show ObjOk X.prog X.w _ _ _ (.tup ys)from⟨hz,its,r',IsTupN.new _ _⟩)
  exact⟨.ref h'.objs.size,_,I2,rfl,q _ (I1.hok.fresh (ud _))⟩
 ·obtain⟨its,r',pl,hz⟩:=I.tuple hq
  exact call_tuple_same pl ⟨.ref p,H,I,rfl,q⟩
def tyV(K:uc)(T:String)(x:V)(H:Hp):Prop:=match x with
 |.str _=>T="str"
 |.int _=>T="int"
 |.ref p=>(T="list"/\∃xs,SqL K H p xs)\/(T="tuple"/\((∃o,K.lookup p=some o/\o.cls=.type "tuple"/\o.dict=none)\/∃xs,H p=some (.tup xs))) \/
   (T="dict"/\((∃kvs,H p=some (.dK kvs))\/∃kvs,H p=some (.dT kvs)))\/(T="set"/\∃S n,H p=some (.set S n))
 |_=>False
theorem We{pins:List (Addr×Obj)}{σ:St}{H:Hp}{s:Shared}{T:String}{x:V}{v:Value}(I:Inv X pins σ H s)(r:RelV x v)(ty:tyV X.K T x H):
  s.TypeIs v T/\∀a,v=.ref a->∃ob,s.heap.get? a=some ob/\ob.dict=none:=by
 cases x with
 |str z =>
  obtain⟨t,rfl⟩:=r
  cases(show T="str"from ty)
  exact⟨typeIs_str s z t,fun _ e=>nomatch e⟩
 |int i =>
  obtain⟨t,rfl⟩:=r
  cases(show T="int"from ty)
  exact⟨typeIs_int s i t,fun _ e=>nomatch e⟩
 |ref p =>
  cases r
  rcases ty with⟨rfl,xs,hq⟩|⟨rfl,⟨o,hk,hc,hd⟩|⟨xs,hk⟩⟩|⟨rfl,hk⟩|⟨rfl,S,n,hk⟩
  ·obtain⟨its,_,pl,_⟩:=I.list hq
   refine⟨pl.isList.typeIs,fun a e=>?_⟩
   cases e
   obtain⟨o,n,e,c,hd,_⟩:=pl
   exact⟨o,e,hd⟩
  ·refine⟨⟨o,I.kIn p o hk,hc⟩,fun a e=>?_⟩
   cases e
   exact⟨o,I.kIn _ o hk,hd⟩
  ·obtain⟨_,_,_,o,ho,hc,hd,_⟩:=I.hok p _ hk
   refine⟨⟨o,ho,hc⟩,fun a e=>?_⟩
   cases e
   exact⟨o,ho,hd⟩
  ·have z:∃o,s.heap.get? p=some o/\o.ExactDict:=by
    rcases hk with⟨kvs,hk⟩|⟨kvs,hk⟩
    ·obtain⟨_,_,_,_,o,_,_,e,ex,_⟩:=I.hok p _ hk
     exact⟨o,e,ex⟩
    ·obtain⟨_,_,_,_,o,_,_,e,ex,_⟩:=I.hok p _ hk
     exact⟨o,e,ex⟩
   obtain⟨o,e,ex⟩:=z
   refine⟨⟨o,e,ex.1⟩,fun a e2=>?_⟩
   cases e2
   exact⟨o,e,ex.2.1⟩
  ·obtain⟨o,_,_,_,e,ex,_⟩:=I.hok p _ hk
   refine⟨⟨o,e,ex.1⟩,fun a e2=>?_⟩
   cases e2
   exact⟨o,e,ex.2.1⟩
 |_=>exact False.elim ty
def tBM0(K:uc)(T:String)(r:V->List V->Hp->VK->Prop)(to:TE):TE:=fun σ H Q=>to σ H fun x H1=>tyV K T x H1/\r x [] H1 Q
def tBM(K:uc)(T:String)(r:V->List V->Hp->VK->Prop)(to:TE)(t:TA):TE:=fun σ H Q=>to σ H fun x H1=>tyV K T x H1/\t σ H1 fun xs H2=>r x xs H2 Q
variable{o e:Expr}{es:List Expr}{to:TE}{t:TA}{name:Str}{apos cpos:Pos}{T id:String}{r:V->List V->Hp->VK->Prop}
theorem zaL(pa:PlainAttrs T)(slot:Slot T name id)(hty:typeOf (.builtin id)=pure (.type "method_descriptor"))(hm:MtR X id r)(ho:PE X o to)
  (hbase:attributeBase o name X.env (eval o X.env)=eval o X.env:=by rfl) (hline:(apos.endLine == cpos.line)=true:=by rfl):PE X (.Call (.Attribute o name apos) [] [] cpos) (tBM0 X.K T r to):=by
 intro pins s σ H Q I h
 refine wpAny_Call_method0_late hbase hline (thn (ho pins s σ H _ I h) fun v s1 ⟨x,H1,I1,r1,ty,q1⟩=>?_)
 obtain⟨h1,h2⟩:=We I1 r1 ty
 exact⟨T,id,pa,slot,hty,h1,h2,Calls.callWith_builtin rfl (PySem.evalArgs_none (hm pins s1 σ H1 x [] v [] Q I1 r1 .nil q1))⟩
theorem zbO(pa:PlainAttrs T)(slot:Slot T name id)(hty:typeOf (.builtin id)=pure (.type "method_descriptor"))(hm:MtR X id r)(ho:PE X o to)(ha:PA X (e::es) t)
  (hbase:attributeBase o name X.env (eval o X.env)=eval o X.env:=by rfl)
  (hfew:((backTo cpos (starEach (e::es) X.env)).all (fun x=>!x.1) && (backToKw cpos (keywordEach [] X.env)).all (fun x=>x.1.isSome)
   && decide ((e::es).length+([]:List Keyword).length+(if([]:List Keyword).isEmpty then 0 else 1) < 30))=true:=by rfl)
  (hline:(apos.endLine == cpos.line)=true:=by rfl) (hs:starEach (e::es) X.env=(false,eval e X.env)::starEach es X.env:=by rfl) (hplain:(backTo cpos (starEach es X.env)).any (·.1)=false:=by rfl) :
  PE X (.Call (.Attribute o name apos) (e::es) [] cpos) (tBM X.K T r to t):=by
 intro pins s σ H Q I h
 refine wpAny_Call_method_late hbase hfew hline rfl (thn (ho pins s σ H _ I h) fun v s1 ⟨x,H1,I1,r1,ty,q1⟩=>?_)
 obtain⟨h1,h2⟩:=We I1 r1 ty
 refine⟨T,id,pa,slot,hty,h1,h2,?_⟩
 have hA:=ha cpos pins s1 σ H1 _ I1 q1
 rw[hs]at hA ⊢
 refine Calls.callWith_builtin (by show(false || (backTo cpos (starEach es X.env)).any (·.1))=false;rw[hplain]<;>rfl) (Calls.evalArgs_plain ?_)
 exact thn hA fun us s2 ⟨vs,H2,I2,r2,q2⟩=>hm pins s2 σ H2 x vs v us Q I2 r1 r2 q2
end
def MtM(X:Cx)(id:String)(r:V->List V->Hp->VK->Prop):Prop :=
 ∀(pins:List (Addr×Obj))(s:Shared)(σ:St)(H:Hp)(x:V)(xs:List V)(v:Value)(us:List Value)(Q:VK),Inv X pins σ H s->RelV x v->Vals xs us->r x xs H Q ->
  wpAny (model X.prog X.w) X.A (call (.builtin id) (v::us)) (EP X pins σ Q) X.xe s
theorem Vals.one:∀{x:V}{us:List Value},Vals [x] us->∃u,us=[u]/\RelV x u
 |_,_,.cons r .nil=>⟨_,rfl,r⟩
theorem Vals.zero:∀{us:List Value},Vals [] us->us=[]
 |_,.nil=>rfl
theorem Vals.dropLast{xs:List V}{us:List Value}(h:Vals xs us):Vals xs.dropLast us.dropLast:=by
 induction h with
 |nil=>exact .nil
 |cons r t ih =>
  cases t with
  |nil=>exact .nil
  |cons q t'=>exact .cons r ih
theorem Vals.eraseIdx:∀{xs:List V}{us:List Value}(i:Nat),Vals xs us->Vals (xs.eraseIdx i) (us.eraseIdx i)
 |_,_,_,.nil=>.nil
 |_,_,0,.cons _ t=>t
 |_,_,i+1,.cons r t=>.cons r (Vals.eraseIdx i t)
theorem ZZ{α:Type}(l:List α):l.eraseIdx (l.length-1)=l.dropLast:=by
 induction l with
 |nil=>rfl
 |cons a r ih =>
  cases r with
  |nil=>rfl
  |cons b r =>
   have e:(a::b::r).length-1=((b::r).length-1)+1:=by
    have h1:(a::b::r).length=r.length+2:=rfl
    have h2:(b::r).length=r.length+1:=rfl
    lia
   rw[e,List.eraseIdx_cons_succ,ih]
   all_goals rfl
theorem wC{α:Type}:∀(l:List α)(i:Nat),(l.eraseIdx i).length<=l.length
 |[],_=>ud _
 |_::_,0=>Nat.le_succ _
 |_::r,i+1=>Nat.succ_le_succ (wC r i)
section
variable{X:Cx}{pins:List (Addr×Obj)}{σ:St}{H:Hp}{s:Shared}{l b:Addr}{xs ys zs:List V}
theorem Inv.lset{its its':List Value}{n:Nat}{f:Array Value->Array Value}{t':Nat}(I:Inv X pins σ H s)(hH:H l=some (.lst xs))
  (e:s.heap.get? l=some { cls:=.type "list",data:=.seq its.toArray n }) (hf:f its.toArray=its'.toArray) (hv:Vals ys its') (hz:ys.length<=sizeLine) :
  Inv X pins σ (upd H l (.lst ys)) { s with heap:=s.heap.update l (Obj.mapSeq f),toks:=t' }:=by
 have q:=PySem.IsL.update e f
 rw[hf]at q
 refine I.write (x:=l) (e:=l) (by rw[hH];exact trivial) (.inl rfl) (fun b' u hb hu=>(Heap.get?_update_other s.heap (Obj.mapSeq f) (Ne.symm hb)).trans hu) ⟨_,q⟩ ?_
 exact⟨hz,its',_,hv,q⟩
theorem Inv.lnew{its:List Value}{t':Nat}(I:Inv X pins σ H s)(hv:Vals ys its)(hz:ys.length<=sizeLine):
  Inv X pins σ (upd H s.heap.objs.size (.lst ys)) { s with heap:=s.heap.push { cls:=.type "list",data:=.seq its.toArray },toks:=t' } :=
 I.laid (fun _ _ q=>ue _ q) (ud _) ⟨hz,its,0,hv,ux _ rfl⟩
theorem Inv.fresh(I:Inv X pins σ H s):H s.heap.objs.size=none:=I.hok.fresh (ud _)
theorem Inv.lstM(I:Inv X pins σ H s)(hH:H l=some (.lst xs)):xs.length<=sizeLine/\∃(its:List Value)(n:Nat),Vals xs its/\xs.length=its.length/\s.heap.get? l=some { cls:=.type "list",data:=.seq its.toArray n }:=by
 obtain⟨z,its,n,r,e⟩:=I.hok l _ hH
 exact⟨z,its,n,r,r.length,e⟩
theorem Wf{n:Nat}(h:n<=sizeLine):Builtin.List.listTooLong n=false:=by
 unfold Builtin.List.listTooLong
 exact decide_eq_false (by lia)
end
section
variable{X:Cx}
def Yz:V->List V->Hp->VK->Prop:=fun x vs H Q=>∃l xs y,x=.ref l/\vs=[y]/\H l=some (.lst xs)/\xs.length < sizeLine/\Q .non (upd H l (.lst (xs++[y])))
theorem Xu:MtM X "list.append" Yz:=by
 intro pins s σ H x vs v us Q I rx rv h
 obtain⟨l,xs,y,rfl,rfl,hH,hz,q⟩:=h
 cases rx
 obtain⟨u,rfl,ru⟩:=rv.one
 obtain⟨z,its,n,r,hl,e⟩:=I.lstM hH
 refine call_meets F.slot_list_append ⟨_,e,rfl⟩ F.entry_list_append (F.args_list_append_2 _ _) (PySem.list_append l its.toArray n u (by rw[ut];lia)) ⟨e,?_⟩
 refine⟨.non,_,I.lset (its':=its++[u]) hH e (by simp) (r.append (.cons ru .nil)) ?_,rfl,q⟩
 rw[ub,Ui]
 lia
def YA:V->List V->Hp->VK->Prop:=fun x vs H Q=>∃l b xs zs,x=.ref l/\vs=[.ref b]/\H l=some (.lst xs)/\H b=some (.lst zs)/\xs.length+zs.length<=sizeLine/\Q .non (upd H l (.lst (xs++zs)))
theorem Xv:MtM X "list.extend" YA:=by
 intro pins s σ H x vs v us Q I rx rv h
 obtain⟨l,b,xs,zs,rfl,rfl,hH,hB,hz,q⟩:=h
 cases rx
 obtain⟨u,rfl,ru⟩:=rv.one
 cases ru
 obtain⟨z,its,n,r,hl,e⟩:=I.lstM hH
 obtain⟨z2,its2,n2,r2,hl2,e2⟩:=I.lstM hB
 have hsz:its.toArray.size+its2.toArray.size<=sizeLine:=by rw[ut,ut];lia
 have hlong:¬ (!its.toArray.isEmpty && Builtin.List.listTooLong (its.toArray.size+its2.toArray.size))=true:=by
  rw[Wf hsz,Bool.and_false]
  exact uA
 refine call_meets F.slot_list_extend ⟨_,e,rfl⟩ F.entry_list_extend (F.args_list_extend_2 _ _)
  (AutoSeq1.list_extend_list_list_0 l its.toArray n b its2.toArray n2 hlong (by rw[ut];lia) (by lia)) ⟨e,e2,?_⟩
 refine⟨.non,_,I.lset (its':=its++its2) hH e (by simp) (r.append r2) ?_,rfl,q⟩
 rw[ub]
 lia
def rPop:V->List V->Hp->VK->Prop:=fun x vs H Q=>∃l xs y,x=.ref l/\vs=[]/\H l=some (.lst xs)/\xs[xs.length-1]?=some y/\Q y (upd H l (.lst xs.dropLast))
theorem zaM:MtM X "list.pop" rPop:=by
 intro pins s σ H x vs v us Q I rx rv h
 obtain⟨l,xs,y,rfl,rfl,hH,hy,q⟩:=h
 cases rx
 have hus:=rv.zero
 subst hus
 obtain⟨z,its,n,r,hl,e⟩:=I.lstM hH
 obtain⟨u,hu,ru⟩:=r.get hy
 have hy':its.toArray[its.toArray.size-1]?=some u:=by
  show its.toArray[its.length-1]?=some u
  rw[<- Array.getElem?_toList,<- hl]
  exact hu
 refine call_meets F.slot_list_pop ⟨_,e,rfl⟩ F.entry_list_pop (F.args_list_pop_1 _) (MeetsSeq.list_pop_last l its.toArray n u hy' (by rw[ut];lia)) ⟨e,?_⟩
 refine⟨y,_,I.lset (its':=its.dropLast) hH e ?_ r.dropLast ?_,ru,q⟩
 ·show its.toArray.eraseIdxIfInBounds (its.toArray.size-1)=its.dropLast.toArray
  rw[ut,UK,ZZ]
 ·rw[List.length_dropLast]
  lia
def Wh:V->List V->Hp->VK->Prop:=fun x vs H Q=>∃l xs i k y,x=.ref l/\vs=[.int i]/\H l=some (.lst xs)/\-(2 ^ 63)<=i/\i < 2 ^ 63/\seqIndex? i xs.length=some k/\xs[k]?=some y/\Q y (upd H l (.lst (xs.eraseIdx k)))
theorem Wi:MtM X "list.pop" Wh:=by
 intro pins s σ H x vs v us Q I rx rv h
 obtain⟨l,xs,i,k,y,rfl,rfl,hH,h1,h2,hk,hy,q⟩:=h
 cases rx
 obtain⟨u,rfl,ru⟩:=rv.one
 obtain⟨t,rfl⟩:=ru
 obtain⟨z,its,n,r,hl,e⟩:=I.lstM hH
 obtain⟨w,hw,rw'⟩:=r.get hy
 refine call_meets F.slot_list_pop ⟨_,e,rfl⟩ F.entry_list_pop (F.args_list_pop_2 _ _)
  (MeetsSeq.list_pop_at l its.toArray n i t k w (fitsIndex_both h1 h2) (by rw[ut,<- hl];exact hk) (by rw[<- Array.getElem?_toList];exact hw) (by rw[ut];lia)) ⟨e,?_⟩
 refine⟨y,_,I.lset (its':=its.eraseIdx k) hH e ?_ (r.eraseIdx k) ?_,rw',q⟩
 ·show its.toArray.eraseIdxIfInBounds k=(its.eraseIdx k).toArray
  rw[UK]
 ·have:=wC xs k
  lia
def rCat:R2:=fun x y H Q=>∃l b xs zs,x=.ref l/\y=.ref b/\H l=some (.lst xs)/\H b=some (.lst zs)/\xs.length+zs.length<=sizeLine/\∀p,H p=none->Q (.ref p) (upd H p (.lst (xs++zs)))
theorem zaN:OpR X (binaryOp .Add) rCat:=by
 intro pins s σ H x y v u Q I rx ry h
 obtain⟨l,b,xs,zs,rfl,rfl,hH,hB,hz,q⟩:=h
 cases rx
 cases ry
 obtain⟨z,its,n,r,hl,e⟩:=I.lstM hH
 obtain⟨z2,its2,n2,r2,hl2,e2⟩:=I.lstM hB
 refine PySem.P.add_list e e2 ?_ (by rw[ut,ut];lia)
 have ea:its.toArray++its2.toArray=(its++its2).toArray:=by simp
 rw[ea]
 exact⟨.ref _,_,I.lnew (t':=s.toks) (r.append r2) (by rw[ub];lia),rfl,q _ I.fresh⟩
end
section
variable{prog:Program}{w:World}{A:Around}{E:Value->Shared->Prop}{s:Shared}
end
section
variable{X:Cx}
end
end L2
namespace Att
open PySem PySem.W PySem.Calls PyProof.Rows
theorem wN{P:Params}{h:Heap}:∀(ns:List Int)(vs:List Value),WellAll P h vs (ns.map WData.int)->IntsAre vs ns:=by
 intro ns
 induction ns with
 |nil =>
  intro vs w
  rw[List.map_nil]at w
  cases w
  exact .nil
 |cons n ns ih =>
  intro vs w
  rw[uu]at w
  cases w with
  |cons a b =>
   cases a
   exact .cons _ _ (ih _ b)
theorem Xw{l:OpenLaw}{n:Nat}(hn:l.most=some n){P:Params}{h:Heap}{args:List WData}{vals:List Value}
  (hpre:l.row.toRowW.claim.pre args=true) (hwl:WellAll P h vals args) :
  ∃a vs ns,vals=[Value.ref a]/\args=[WData.list (ns.map WData.int)]/\h.get? a=some { cls:=.type "list",data:=.seq vs.toArray }/\IntsAre vs ns/\ns.length<=n:=by
 have hsh:WShape.hasAll [] args [.list .int]=true:=(pre_splitW hpre).1
 have hc:l.pre.holds [] { args:=args }=true:=(pre_splitW hpre).2
 obtain⟨d,r,rfl,h1,h2⟩:=hasAllW_cons hsh
 obtain rfl:=hasAllW_nil h2
 obtain⟨xs,rfl,h3⟩:=hasW_list h1
 obtain⟨ns,rfl⟩:=items_int h3
 have hlen:ns.length<=n:=by
  unfold OpenLaw.pre at hc
  have h4:(WTm.not (.lt (.lit (.int (n:Int))) (.len (.arg 0)))).holds [] { args:=[.list (ns.map .int)] }=true:=by
   have h4:=(holds_andW hc).1
   rw[hn]at h4
   exact h4
  have h5:=condW_of h4 (w_not (w_lt w_lit (w_len_list (w_arg rfl))))
  rw[ua]at h5
  refine Nat.le_of_not_lt fun q=>?_
  have q':(n:Int) < ((ns.length:Nat):Int):=by lia
  first
   | (rw[decide_eq_true q']at h5;exact absurd h5 (by decide))
   | (simp at h5;lia)
 cases hwl with
 |cons w1 w2 =>
  cases w2
  cases w1 with
  |list ho hall=>exact⟨_,_,ns,rfl,rfl,ho,wN ns _ hall,hlen⟩
theorem Xx(l:OpenLaw)(args:List WData):l.row.toRowW.claim.post args (.bool true) args=true :=
 postW_of (r:=l.row.toRowW) (X:=(true == true))
  (show WShape.has [] (.bool true) .bool=true by first|rfl|decide|simp[WShape.has,WShape.arms,WShape.armsAll])
  (show(WTm.eq .res (.lit (.bool true))).value [] { args:=args,res:=some (.bool true),after:=args }=some (.bool (true == true))from w_eq_bool (w_res rfl) w_lit) rfl
theorem attach_call{l:OpenLaw}{n:Nat}{q:Program}{loose:List Str}{XP:(Str->Option Value)->Heap->Prop}{YP:World->Heap->Prop}{d:DefRec}
  (hn:l.most=some n) (hdf:d.params.defaults=[])
  (call:∀(w:World)(s₀ s₁:Shared)(mg mb:Str->Option Value)(fa:Addr)(o:Obj)(pm cd doc:Value)(a:Addr)(vs:List Value)(ns:List Int),
   Ground q loose [] XP w s₀ mg mb s₁.heap->YP w s₁.heap ->
   s₁.heap.get? fa=some o->o.data=.func (docDef d.name d.params d.body d.scope pm cd doc)->s₁.heap.CodeRec cd d.name->mg d.name=some (.ref fa) ->
   s₁.heap.get? a=some { cls:=.type "list",data:=.seq vs.toArray }->IntsAre vs ns->ns.length<=n->s₁.gens=#[] ->
   codeAny (model l.prog w) callerA (.call (.ref fa) ⟨[.ref a],[]⟩) (fun r s'=>r=.ok (.ret (.bool true))/\OldK s₁.heap s'.heap/\s'.os=s₁.os/\AllBare s'.gens) s₁) :
  WalkO q loose XP YP l.row.toRowW d [] (fun f vs=>PySem.call f vs):=by
 intro w s₀ s₁ mg mb G Y fa o pm cd doc dV kV ho hd hcd hD hmg hg args vals as hpre hlay hrd hwl hlo
 obtain rfl:dV=.none:=Dflts.none hD hdf
 obtain rfl:kV=.none:=Dflts.noKw hD
 obtain⟨a,vs,ns,rfl,rfl,hobj,hints,hlen⟩:=Xw hn hpre hwl
 refine enter_call (codeAny_mono (call w s₀ s₁ mg mb fa o pm cd doc a vs ns G Y ho (fd_plain hd) hcd hmg hobj hints hlen hg) fun r s' hq=>?_)
 obtain⟨rfl,h2,h3,h4⟩:=hq
 exact⟨.inl ⟨.bool true,.bool true,[],rfl,fun _=>rfl,.bool true,Xx l _,fun _=>⟨List.Pairwise.nil,fun _ hm=>(nomatch hm)⟩⟩,h2,h3,h4⟩
section
variable{prog:Program}{w:World}{A:Around}{E:Value->Shared->Prop}{s:Shared}{K:Frag}
def zcg(h:Heap)(L d:Addr):List (Addr×Obj):=(Uw h.objs.size).filterMap fun a=>if a=L\/a=d then none else(h.get? a).map fun o=>(a,o)
end
end Att
namespace L2
open PySem PySem.Spec PyProof.Rows
theorem v0:∀{vs:List Value}{ns:List Int},IntsAre vs ns->Vals (ns.map V.int) vs
 |_,_,.nil=>.nil
 |_,_,.cons n t h=>.cons ⟨t,rfl⟩ (v0 h)
end L2
/- THE LAST THEOREM (shape; LID, My.* are yours):
   My.Adr: a structure of the addresses that your layer names (classes,functions);My.Txt K t: a structure (Prop) of the equations over K;
   My.txt_mk:{K} {implicit addresses ..} (e1:nsIn K mainGlobals "law"=some (some (.ref f))) (e2:K.lookup f=some ⟨oc,od,.func (fnOf "law" "law" params body scope dV kV doc pm an cdv ct),sl⟩) (e3:codeIn K cdv "law"=true) ..:∃t,My.Txt K t
set_option maxRecDepth 100000 in
set_option maxHeartbeats 0 in
theorem PySem.Challenge.cw_LID_holds : PySem.Challenge.rw_LID.Holds := by
 w_on;o_law;k_head;(case hw=>w_witness2)
 k_fill
 refine L2.walk_of (l:=PySem.Challenge.rw_LID) (n:=63) (k:=40) (x:="script") (CX:=fun w=>..) (sp:=fun _=>My.sp_law) rfl (by decide) rfl ⟨rfl,by decide,by decide⟩ (fun w h Y=>PySem.W.kIn_of Y) ?F ?S ?C
 case F =>
  intro w mg fa h KX G hmg
  have T:∃t,My.Txt (L2.KOf KX) t:=by
   dsimp only [L2.KOf]                          -- K must stand as «<heap const> w.params» for k_is
   refine' My.txt_mk ?e1 ?e2 ?e3 ..
   (case e1 => PySem.W.k_is)                    -- in the order: a name -> its address -> its object -> its parts
   (case e2=>PySem.W.k_is)
   ..
  obtain⟨t,T⟩:=T
  have e0:=hmg.symm.trans (UV KX G T.law)
  cases e0                                       -- fa is the law's own address
  exact ⟨_, fun s u => .of_eq rfl, fun base kb nb => My.law_fn T kb nb⟩     -- if «.of_eq rfl» comes too early: refine' ⟨_, ?b, fun base kb nb => My.law_fn T kb nb⟩; exact fun s u => .of_eq rfl
 case S=>exact fun w H a ns hl hO hS=>..
 case C=>exact ..
(the tactic k_is has no namespace: write k_is) -/
namespace L2
open PySem PySem.Spec PyProof.Rows
def wQ(s:Stmt)(j:Nat):Stmt:=match s with
 |.ClassDef _ _ _ body _ _ _ _ _ _ _=>body.getD j (.Pass ⟨0,0,0,0⟩)
 |_=>.Pass ⟨0,0,0,0⟩
def z0(s:Stmt):Arguments:=match s with
 |.FunctionDef _ a _ _ _ _ _ _ _ _=>a
 |_=>{ posonlyargs:=[],args:=[],vararg:=none,kwonlyargs:=[],kw_defaults:=[],kwarg:=none,defaults:=[] }
def zF(s:Stmt):List Stmt:=match s with
 |.FunctionDef _ _ b _ _ _ _ _ _ _=>b
 |_=>[]
def zo(s:Stmt):Scope:=match s with
 |.FunctionDef _ _ _ _ _ _ sc _ _ _=>sc
 |_=>{ kind:=.function,names:=[],isGenerator:=false,isCoroutine:=false }
abbrev CX0:CXT:=fun _ _ _ _ _ _=>False
abbrev E0:XK:=fun _ _ _=>False
theorem xP{X:Cx}:yy CX0 X E0:=fun _ _ _ _ _ _ _ h=>h.elim
structure Fun(K:uc)(x qual:Str)(st:Stmt)(f:Addr)(fd:FuncData):Prop where
 ex:∃(oc:Value)(od:Option Addr)(kV doc pm:Value)(an:Option Addr)(cdv ct:Value)(osl:Array (Option Value)),
  fd=uZ x qual (z0 st) (zF st) (zo st) .none kV doc pm an cdv ct/\K.lookup f=some ⟨oc,od,.func fd,osl⟩/\Uy K cdv qual=true
 kp:uP K (.ref f)=true
section
variable{P:Program}{w:World}{K:uc}{mg:Str->Option Value}{base:Heap}
theorem Fun.ok{x qual:Str}{st:Stmt}{f:Addr}{fd:FuncData}{N ps:List Str}{k:Nat}{sp:Sp}(F:Fun K x qual st f fd)(S:FnScope N ps (zo st))(len:∀vs H Q E,sp vs H Q E->vs.length=ps.length)
  (hbody:∀(cdv:Value)(A:Around)(outer:List Env)(s:Shared)(H:Hp)(vs:List V)(Q:VK)(E:XK),Room k (A.deeper (envOfC qual (zo st) s.heap.objs.size f cdv))->sp vs H Q E ->
   ∃t,PSs (cxOf CX0 P w K mg base N qual (zo st) f cdv A outer s H E).nox (zF st) t/\t { nx:=fun _ H'=>Q .non H',rt:=Q } (yK N vs) H):FnOk P w K mg base CX0 (k+1) f fd ps sp:=by
 obtain⟨oc,od,kV,doc,pm,an,cdv,ct,osl,rfl,lk,hcd⟩:=F.ex
 refine QG lk hcd S len fun A outer s H vs Q E hr hsp=>?_
 obtain⟨t,h,q⟩:=hbody cdv A outer s H vs Q E hr hsp
 exact⟨t,h.nox,q⟩
theorem Fun.binds{x qual:Str}{st:Stmt}{f:Addr}{fd:FuncData}{ps:List Str}(F:Fun K x qual st f fd)
  (h:∀(kV doc pm:Value)(an:Option Addr)(cdv ct:Value)(us:List Value),us.length=ps.length->bindArgs (uZ x qual (z0 st) (zF st) (zo st) .none kV doc pm an cdv ct) ⟨us,[]⟩=pure (ps.zip us)):Binds K fd ps []:=by
 obtain⟨oc,od,kV,doc,pm,an,cdv,ct,osl,rfl,lk,hcd⟩:=F.ex
 exact .all (h kV doc pm an cdv ct)
theorem Wj{x qual:Str}{st:Stmt}{f:Addr}{oc:Value}{od an:Option Addr}{osl:Array (Option Value)}{kV doc pm cdv ct:Value}(l:K.lookup f=some ⟨oc,od,.func (uZ x qual (z0 st) (zF st) (zo st) .none kV doc pm an cdv ct),osl⟩)
  (c:Uy K cdv qual=true) (k:uP K (.ref f)=true):Fun K x qual st f (uZ x qual (z0 st) (zF st) (zo st) .none kV doc pm an cdv ct):=⟨⟨oc,od,kV,doc,pm,an,cdv,ct,osl,rfl,l,c⟩,k⟩
end
theorem zbP{A:Around}{k:Nat}(hr:Room k A):A.units+1 < cLine:=UY (Nat.add_le_add_left (by decide:1<=64) _) hr.units
section
variable{X:Cx}
theorem pv(i:Nat){x:Str}{pos:Pos}(hN:X.N[i]?=some x:=by rfl)(hv:Vis X.env.scope x:=by first|exact Or.inl rfl|exact Or.inr (Or.inl rfl)|exact Or.inr (Or.inr rfl))(hd:(x == ("__debug__":Str))=false:=by decide)
  (hcd:(x == ("__classdict__":Str))=false:=by decide):PE X (.Name x pos) (tVar i):=zag hN hv hd hcd
end
theorem iteF{A B:Prop}(h:B):if false=true then A else B:=by
 rw[if_neg uA]
 exact h
theorem iteT{A B:Prop}(h:A):if true=true then A else B:=by
 rw[if_pos rfl]
 exact h
theorem ite2{c A B:Prop}[Decidable c](h1:c->A)(h2:¬ c->B):if c then A else B:=by
 by_cases h:c
 ·rw[if_pos h]
  exact h1 h
 ·rw[if_neg h]
  exact h2 h
def Same(H H':Hp):Prop:=∀b o,H b=some o->H' b=some o
theorem Same.refl(H:Hp):Same H H:=fun _ _ h=>h
theorem Same.trans{H H1 H2:Hp}(a:Same H H1)(b:Same H1 H2):Same H H2:=fun c o h=>b c o (a c o h)
theorem Same.free{H H':Hp}(e:Same H H'){l:Addr}(h:H' l=Option.none):H l=Option.none:=by
 cases q:H l with
 |none=>rfl
 |some o =>
  rw[e l o q]at h
  cases h
theorem Same.seq{K:uc}{H H':Hp}{a:Addr}{xs:List V}(e:Same H H')(h:SqL K H a xs):SqL K H' a xs:=by
 rcases h with(h|⟨o,h⟩)|h
 ·exact .inl (.inl (e _ _ h))
 ·exact .inl (.inr ⟨o,e _ _ h⟩)
 ·exact .inr h
def AllIn(env:Env):List (Str×Addr)->Prop
 |[]=>True
 |p::r=>env.cells.lookup p.1=some p.2/\AllIn env r
theorem AllIn.get{env:Env}:∀{cl:List (Str×Addr)}{y:Str}{c:Addr},AllIn env cl->cl.lookup y=some c->env.cells.lookup y=some c
 |[],_,_,_,h=>by simp at h
 | (n,a)::r,y,c,⟨e,t⟩,h=>by
  rw[Ug]at h
  by_cases q:y=n
  ·subst q
   rw[beq_self_eq_true]at h
   cases h
   exact e
  ·have q':(y == n)=false:=beq_eq_false_iff_ne.mpr q
   rw[q']at h
   exact AllIn.get t h
def xQ:List Nat->St->St
 |[],σ=>σ
 |i::S,σ=>xQ S (σ.set i none)
theorem xw:∀(S:List Nat)(σ:St),(xQ S σ).length=σ.length
 |[],_=>rfl
 |i::S,σ=>by rw[xQ,xw S,List.length_set]
theorem v6:∀(S:List Nat)(σ:St){j:Nat}{v:V},(xQ S σ)[j]?=some (some v)->σ[j]?=some (some v)/\j∉S
 |[],_,_,_,h=>⟨h,by simp⟩
 |i::S,σ,j,v,h=>by
  obtain⟨h1,h2⟩:=v6 S (σ.set i none) h
  rw[List.getElem?_set]at h1
  by_cases e:i=j
  ·rw[if_pos e]at h1
   split at h1<;>cases h1
  ·rw[if_neg e]at h1
   exact⟨h1,fun z=>(um.mp z).elim (fun z=>e z.symm) h2⟩
structure LcOk(X:Cx)(scope:Scope)(cl:List (Str×Addr))(S:List Nat):Prop where
 clos:closureFor scope X.env=pure cl
 kind:scope.kind=.function
 noC:scope.names.all (fun y=>y.2 != .cell)=true
 loc:scope.names.all (fun y=>y.2 != .local || scope.names.lookup y.1 == some .local)=true
 own:X.N.zipIdx.all (fun y=>S.contains y.2 || scope.names.lookup y.1 != some .local)=true
 sub:AllIn X.env cl
 has:scope.names.all (fun p=>p.2 != .free || ((cl.lookup p.1).isSome && (X.env.kindOf p.1 == some .cell || X.env.kindOf p.1 == some .free)))=true
section
variable{X:Cx}{scope:Scope}{cl:List (Str×Addr)}{S:List Nat}
theorem LcOk.nocell(L:LcOk X scope cl S):∀y∈scope.names,y.2≠.cell:=fun y hy=>by
 have h:=UM.mp L.noC y hy
 exact bne_iff_ne.mp h
theorem LcOk.locs(L:LcOk X scope cl S):∀y∈scope.names,y.2=.local->scope.names.lookup y.1=some .local:=fun y hy e=>by
 have h:=UM.mp L.loc y hy
 rw[e]at h
 simpa using h
theorem LcOk.apart(L:LcOk X scope cl S):∀(i:Nat)(y:Str),X.N[i]?=some y->i∉S->scope.names.lookup y≠some .local:=fun i y hy hi=>by
 have h:=UM.mp L.own (y,i) (List.mem_zipIdx_iff_getElem?.mpr hy)
 have hc:S.contains i=false:=by simpa using hi
 rw[hc,uV]at h
 exact bne_iff_ne.mp h
theorem LcOk.free(L:LcOk X scope cl S){y:Str}(h:scope.names.lookup y=some .free):(∃c,cl.lookup y=some c)/\(X.env.kindOf y=some .cell\/X.env.kindOf y=some .free):=by
 have h1:=UM.mp L.has _ (u0 h)
 simp only[bne_self_eq_false,uV,uQ,Bool.or_eq_true,beq_iff_eq]at h1
 exact⟨Option.isSome_iff_exists.mp h1.1,h1.2⟩
theorem yF(names:List (Str×NameKind))(env:Env)(y:Str):
  (names.map fun(n,k)=>if(k == NameKind.free && env.scope.kind == .function && env.kindOf n == some .cell)then(n,NameKind.cell)else(n,k)).lookup y =
   (names.lookup y).map fun k=>if(k == NameKind.free && env.scope.kind == .function && env.kindOf y == some .cell)then NameKind.cell else k:=by
 induction names with
 |nil=>rfl
 |cons p r ih =>
  obtain⟨n,k⟩:=p
  rw[uu]
  by_cases q:y=n
  ·subst q
   by_cases hc:(k == NameKind.free && env.scope.kind == .function && env.kindOf y == some .cell)=true
   ·show UF y ((if(k == NameKind.free && env.scope.kind == .function && env.kindOf y == some .cell)=true then(y,NameKind.cell)else(y,k))::_)=_
    rw[if_pos hc,Ug,Ug,beq_self_eq_true]
    show some NameKind.cell=some (if _ then _ else _)
    rw[if_pos hc]
   ·show UF y ((if(k == NameKind.free && env.scope.kind == .function && env.kindOf y == some .cell)=true then(y,NameKind.cell)else(y,k))::_)=_
    rw[if_neg hc,Ug,Ug,beq_self_eq_true]
    show some k=some (if _ then _ else _)
    rw[if_neg hc]
  ·have q':(y == n)=false:=beq_eq_false_iff_ne.mpr q
   by_cases hc:(k == NameKind.free && env.scope.kind == .function && env.kindOf n == some .cell)=true
   ·show UF y ((if(k == NameKind.free && env.scope.kind == .function && env.kindOf n == some .cell)=true then(n,NameKind.cell)else(n,k))::_)=_
    rw[if_pos hc,Ug,Ug,q']
    exact ih
   ·show UF y ((if(k == NameKind.free && env.scope.kind == .function && env.kindOf n == some .cell)=true then(n,NameKind.cell)else(n,k))::_)=_
    rw[if_neg hc,Ug,Ug,q']
    exact ih
theorem LcOk.kinds(L:LcOk X scope cl S){y:Str}(h:(relabel scope X.env).names.lookup y=some .cell\/(relabel scope X.env).names.lookup y=some .free):scope.names.lookup y=some .free:=by
 have e:(relabel scope X.env).names.lookup y=(scope.names.lookup y).map fun k=>if(k == NameKind.free && X.env.scope.kind == .function && X.env.kindOf y == some .cell)then NameKind.cell else k:=yF scope.names X.env y
 rw[e]at h
 cases q:scope.names.lookup y with
 |none=>rw[q]at h;rcases h with h|h<;>cases h
 |some k =>
  have hk:k≠.cell:=L.nocell _ (u0 q)
  rw[q]at h
  by_cases hf:k=.free
  ·rw[hf]
  ·have z:(k == NameKind.free)=false:=beq_eq_false_iff_ne.mpr hf
   rw[Option.map_some,z,UR,UR,if_neg uA]at h
   rcases h with h|h
   ·exact absurd (u9.inj h) hk
   ·exact absurd (u9.inj h) hf
def cxLC(X:Cx)(scope:Scope)(cl:List (Str×Addr))(M:List Str)(C:Addr)(s₀:Shared)(H₀:Hp)(ex:List Addr)(E:Value->Shared->Prop):Cx where
 prog:=X.prog
 w:=X.w
 K:=X.K
 mg:=X.mg
 base:=X.base
 A:=X.A
 N:=X.N++M
 s₀:=s₀
 H₀:=H₀
 env:=compEnvC scope cl C X.env
 outer:=X.stack
 stack:=X.stack
 ex:=ex
 fn:=fun _=>false
 calm:=X.calm
 pn:=[]
 xe:=E
variable{pins:List (Addr×Obj)}{σ:St}{H:Hp}{s:Shared}{ex:List Addr}{M:List Str}{C:Addr}
theorem Wk{E:Value->Shared->Prop}{h1:Heap}{tk:Nat}{m:Str->Option Value}(I:Inv X pins σ H s)(L:LcOk X scope cl S)(hf:∀b∈ex,FpOk X pins H b)(hlt:∀b∈ex,b < s.heap.objs.size)
  (hk:∀b o,s.heap.get? b=some o->h1.get? b=some o) (hC:s.heap.objs.size<=C) (hns:h1.Ns C m) :
  Inv (cxLC X scope cl M C s H ex E) [] (xQ S σ++Ux M.length none) H { s with heap:=h1,toks:=tk }:=by
 refine⟨⟨I.ok.mod,L.kind,I.ok.glob,I.ok.blt,hC,fun x y c a b=>I.ok.inj x y c (L.sub.get a) (L.sub.get b),fun y hy=>(L.free (L.kinds hy)).1,(fun x c z=>nomatch z),I.ok.hd,I.ok.frames,.inl rfl,fun b hb=>⟨?_,fun x c e=>?_⟩,
   I.bs,uD I.ok.bsz I.sz,fun b o e hb=>?_,fun b hb z=>?_,I.stack,I.stkFree⟩,
  rfl,I.bare,Un.kept hk,⟨m,hns,fun i y v e1 e2 e3=>?_⟩,fun y c e=>?_,I.hok.fresh hC,fun y c e=>I.freeC y c (L.sub.get e),fun p hp=>absurd (show p∈([]:List (Addr×Obj))from hp) (by simp),I.hok.kept hk,?_⟩
 ·exact uK (uC (hlt b hb) hC)
 ·exact(hf b hb).2.2.2.2.1 x c (L.sub.get e)
 ·rcases(hf b hb).2.2.2.1 with z|z
  ·exact I.ok.noex b o e z
  ·exact absurd (uC (uy e) (uD I.ok.bsz z)) (Ut _)
 ·rcases um.mp (I.stkSub b z)with q|q
  ·exact(hf b hb).2.1 q
  ·exact(hf b hb).2.2.1 q
 ·have e1':(X.N++M)[i]?=some y:=e1
  by_cases hi:i < σ.length
  ·rw[uX (by rw[xw];exact hi)]at e2
   obtain⟨e2,hiS⟩:=v6 S σ e2
   rw[uX (by rw[<- I.len];exact hi)]at e1'
   obtain⟨m0,hn0,hl⟩:=I.loc
   have hy:scope.names.lookup y=some .free:=by
    rcases e3 with e3|e3
    ·have q:=yF scope.names X.env y
     have e3':(relabel scope X.env).names.lookup y=some .local:=e3
     cases z:scope.names.lookup y with
     |none =>
      rw[z]at q
      have q':(relabel scope X.env).names.lookup y=none:=q
      rw[e3']at q';cases q'
     |some k =>
      have hk1:k≠.local:=fun w=>L.apart i y e1' hiS (w ▸ z)
      rw[z,Option.map_some]at q
      have q':some NameKind.local=some (if(k == NameKind.free && X.env.scope.kind == .function && X.env.kindOf y == some .cell)=true then NameKind.cell else k):=e3'.symm.trans q
      have q2:=u9.inj q'
      by_cases hc:(k == NameKind.free && X.env.scope.kind == .function && X.env.kindOf y == some .cell)=true
      ·rw[if_pos hc]at q2;cases q2
      ·rw[if_neg hc]at q2;exact absurd q2.symm hk1
    ·exact L.kinds e3
   obtain⟨⟨c,hc⟩,hk2⟩:=L.free hy
   obtain⟨u,r,l⟩:=hl i y v e1' e2 (.inr hk2)
   refine⟨u,r,.inr ⟨?_,c,hc,?_⟩⟩
   ·have q:=yF scope.names X.env y
    rw[hy,Option.map_some]at q
    have q':(relabel scope X.env).names.lookup y=some (if(NameKind.free == NameKind.free && X.env.scope.kind == .function && X.env.kindOf y == some .cell)=true then NameKind.cell else NameKind.free):=q
    by_cases hc:(NameKind.free == NameKind.free && X.env.scope.kind == .function && X.env.kindOf y == some .cell)=true
    ·rw[if_pos hc]at q';exact .inl q'
    ·rw[if_neg hc]at q';exact .inr q'
   ·rcases l with⟨l1,_⟩|⟨_,c',e',z⟩
    ·rcases hk2 with w|w<;>(rw[l1]at w;cases w)
    ·have ec:c'=c:=by
      have w:=L.sub.get hc
      rw[e']at w
      exact u9.inj w
     subst ec
     obtain⟨o,ho,hd⟩:=z
     exact⟨o,hk _ _ ho,hd⟩
  ·rw[uY (by rw[xw];exact Nat.not_lt.mp hi),List.getElem?_replicate]at e2
   split at e2<;>cases e2
 ·obtain⟨v,o,ho,hd⟩:=I.cell y c (L.sub.get e)
  exact⟨v,o,hk _ _ ho,hd⟩
 ·show(xQ S σ++Ux M.length none).length=(X.N++M).length
  rw[ub,ub,UA,xw,I.len]
def PTs(X:Cx)(ifs:List Expr)(t:TT):Prop :=
 ∀(pins:List (Addr×Obj))(s:Shared)(σ:St)(H:Hp)(Q:Bool->Hp->Prop),Inv X pins σ H s->t σ H Q ->
  wpAny (model X.prog X.w) X.A (forIn ifs true fun c r=>if r=true then do let ok <- isTrue c X.env (eval c X.env);pure (ForInStep.yield ok)else pure (ForInStep.yield r)) (TP X pins σ Q) X.xe s
def tYes:TT:=fun _ H Q=>Q true H
theorem Ju{X:Cx}:PTs X [] tYes:=fun _ _ _ H _ I h=>wpAny_tests_nil ⟨H,I,h⟩
theorem Jv{X:Cx}{c:Expr}{t:TT}(h:PT X c t):PTs X [c] t:=fun pins s σ H Q I q=>wpAny_tests_one (h pins s σ H Q I q)
def lcBy(J:It)(g:TG)(tt:TT)(te:TE)(Q:VK)(W:Nat->Nat->St->List V->Hp->Prop):Prop:=∀i m τ ys H,W i m τ ys H ->
 (J.stop i H/\∀p,H p=none->Q (.ref p) (upd H p (.lst ys))) \/
 (J.go i H/\∃N:St->List V->Hp->Prop,(∀τ' ys' H',N τ' ys' H'->∃m',m' < m/\W (i+1) m' τ' ys' H')/\∀x H',J.yld i H x H'->g x τ H' fun τ2 H2=>tt τ2 H2 fun b H3 =>
  if b=true then te τ2 H3 fun y H4=>ys.length < sizeLine/\N τ2 (ys++[y]) H4 else N τ2 ys H3)
def tLC(wi:TI)(g:TG)(tt:TT)(te:TE)(n:Nat):TE:=fun σ H Q=>wi σ H fun J H1=>∃W,(∃m,W 0 m (σ++Ux n none) [] H1)/\lcBy J g tt te Q W
def tLCS(S:List Nat)(wi:TI)(g:TG)(tt:TT)(te:TE)(n:Nat):TE:=fun σ H Q=>wi σ H fun J H1=>∃W,(∃m,W 0 m (xQ S σ++Ux n none) [] H1)/\lcBy J g tt te Q W
theorem YB{tg elt iter:Expr}{ifs:List Expr}{pos:Pos}{g:TG}{tt:TT}{te:TE}{J:It}{fp:List Addr}{it:Addr}{tn:Nat->Heap->Prop}{Q:VK}{E:Value->Shared->Prop}{R:Value->Addr->Result->Shared->Prop}{Al:Addr->(Value->Shared->Prop)->Prop}
  {W:Nat->Nat->St->List V->Hp->Prop} {m0:Nat} (L:LcOk X scope cl S) (hc:X.calm=true) (I:Inv X pins σ H s) (T:Turn X.prog X.w X.K tg J fp it tn) (st:tn 0 s.heap) (hf:∀b∈fp,FpOk X pins H b)
  (hg:∀C s H ex E,PG (cxLC X scope cl M C s H ex E) tg g) (ht:∀C s H ex E,PTs (cxLC X scope cl M C s H ex E) ifs tt) (he:∀C E,Al C E->PE (cxLC X scope cl M C s H fp E) elt te)
  (hal:∀C,s.heap.objs.size < C->Al C (notedBy (model X.prog X.w) X.A (compEnvC scope cl C X.env) (fun e s'=>R (.ref s.heap.objs.size) C (.error e) s')))
  (w0:W 0 m0 (xQ S σ++Ux M.length none) [] H) (turn:lcBy J g tt te Q W)
  (hR:∀D C s' H' ys m,Inv X pins σ (upd H' D (.lst ys)) s'->FpOk X pins (upd H' D (.lst ys)) C->s'.heap.Ns C m->Q (.ref D) (upd H' D (.lst ys))->R (.ref D) C (.ok .next) s') :
  wpAny (model X.prog X.w) X.A (newList []) (fun acc s₃=>wpAny (model X.prog X.w) X.A (newFunctionEnv scope X.env.globals cl [] X.env.qual none .none (some X.env)) (fun cenv s₄ =>
   codeAny (model X.prog X.w) X.A (.compStart (.ListComp elt [⟨tg,iter,ifs,0⟩] scope pos) 0 (.ref it) acc { cenv with scope:=relabel scope X.env }) (R acc cenv.locals) s₄) E s₃) E s:=by
 refine wpAny_newObj_type (wpAny_newFunctionEnv L.nocell (by intro y hy;simp at hy) (fun h₁ hns₁ hsb₁=>?_) L.kind)
 dsimp only at hns₁ hsb₁ ⊢
 generalize hG:s.heap.push { cls:=.type "list",dict:=none,data:=.seq ([]:List Value).toArray }=G at hns₁ hsb₁ ⊢
 have hC:G.objs.size=s.heap.objs.size+1:=by rw[<- hG,Uu]
 have hDC:s.heap.objs.size≠G.objs.size:=by rw[hC];exact uK (Uf _)
 have hCle:s.heap.objs.size<=G.objs.size:=by rw[hC];exact Nat.le_succ _
 have old:∀b o,s.heap.get? b=some o->h₁.get? b=some o:=fun b o e =>
  hsb₁.extBut b o (by rw[hC];exact uK (Nat.lt_succ_of_lt (uy e))) (ue _ (hG ▸ ue _ e))
 have hacc:h₁.get? s.heap.objs.size=some { cls:=.type "list",data:=.seq ([]:List Value).toArray }:=hsb₁.extBut _ _ hDC (ue _ (hG ▸ ux _ rfl))
 have fpo:∀b∈fp,b < s.heap.objs.size:=fun b hb=>let ⟨o,e,_⟩:=T.obj 0 _ st b hb;uy e
 have st1:tn 0 h₁:=T.keep 0 _ _ st fun b _ o e=>old b o e
 have nofs:s.heap.objs.size∉frs X.stack:=fun z=>by
  rcases um.mp (I.stkSub _ z)with q|q
  ·exact absurd (q ▸ I.lt) (Ut _)
  ·exact I.nofs (ud _) q
 have nocl:∀y c,cl.lookup y=some c->c≠s.heap.objs.size:=fun y c e z=>by
  obtain⟨v,o,ho,_⟩:=I.cell y c (L.sub.get e)
  exact absurd (z ▸ uy ho) (Ut _)
 have loop:∀s₃:Shared,s₃={ s with heap:=h₁,toks:=s.toks+([]:List (Str×Value)).length } ->
   codeAny (model X.prog X.w) X.A (.compLoop (.ListComp elt [⟨tg,iter,ifs,0⟩] scope pos) 0 (.ref it) (.ref s.heap.objs.size) (compEnvC scope cl G.objs.size X.env)) (R (.ref s.heap.objs.size) G.objs.size) s₃:=by
  rintro s₃ rfl
  have hAl:=hal G.objs.size (by rw[hC];exact Uf _)
  generalize hE:notedBy (model X.prog X.w) X.A (compEnvC scope cl G.objs.size X.env) (fun e s'=>R (.ref s.heap.objs.size) G.objs.size (.error e) s')=E' at hAl ⊢
  have IY:Inv (cxLC X scope cl M G.objs.size s H fp E') [] (xQ S σ++Ux M.length none) H { s with heap:=h₁,toks:=s.toks+([]:List (Str×Value)).length }:=Wk I L hf fpo old hCle hns₁
  refine codeAny_loop rfl (fun n s'=>∃(i:Nat)(τ:St)(H':Hp)(ys:List V)(its:List Value)(k:Nat),Inv (cxLC X scope cl M G.objs.size s H fp E') [] τ H' s'/\tn i s'.heap/\(∀b∈fp,H' b=none) /\
   s'.heap.get? s.heap.objs.size=some { cls:=.type "list",data:=.seq its.toArray k }/\H' s.heap.objs.size=none/\Vals ys its/\ys.length<=sizeLine/\W i n τ ys H') (fun n s' hI=>?_) m0
   ⟨0,_,H,[],[],_,IY,st1,fun b hb=>(hf b hb).1,hacc,I.hok.fresh (ud _),.nil,uN _,w0⟩
  obtain⟨i,τ,H1,ys,its,k,I1,st1,fr1,eD,fD,rv,hz,w1⟩:=hI
  show wpAny _ X.A ((compTurn (.ListComp elt [⟨tg,iter,ifs,0⟩] scope pos) 0 (.ref it) (.ref s.heap.objs.size) (compEnvC scope cl G.objs.size X.env)).onRaise (fun x=>do noteFrame x (compEnvC scope cl G.objs.size X.env);theTreesLotGoes x)) _ _ s'
  refine wpAny_noted ?_
  rw[hE,compTurn_list]
  have I1':Inv (cxLC X scope cl M G.objs.size s H fp E') [(s.heap.objs.size,{ cls:=.type "list",data:=.seq its.toArray k })] τ H1 s':=I1.pins_of fun p hp=>by
   have e:p=(s.heap.objs.size,{ cls:=.type "list",data:=.seq its.toArray k }):=by simpa using hp
   subst e
   exact⟨eD,fD,hDC,nofs,(fun v z=>nomatch z)⟩
  have stat:∀{H':Hp},(∀b∈fp,H' b=none)->∀b∈fp,FpOk (cxLC X scope cl M G.objs.size s H fp E') [(s.heap.objs.size,{ cls:=.type "list",data:=.seq its.toArray k })] H' b:=fun hn b hb=>by
   refine⟨hn b hb,?_,?_,.inl hb,fun x c e=>(hf b hb).2.2.2.2.1 x c (L.sub.get e),fun p hp z=>?_⟩
   ·exact uK (uC (fpo b hb) hCle)
   ·intro z
    rcases um.mp (I.stkSub b z)with q|q
    ·exact(hf b hb).2.1 q
    ·exact(hf b hb).2.2.1 q
   ·have e:p=(s.heap.objs.size,{ cls:=.type "list",data:=.seq its.toArray k }):=by
     have hp':p∈[(s.heap.objs.size,({ cls:=.type "list",data:=.seq its.toArray k }:Obj))]:=hp
     simpa using hp'
    subst e
    exact absurd (z ▸ fpo b hb) (Ut _)
  refine wpAny_bind (wpAny_standAt (wpAny_bind ?_))
  rcases turn i n τ ys H1 w1 with⟨stop,q⟩|⟨go,N,hN,step⟩
  ·refine thn (T.done (cxLC X scope cl M G.objs.size s H fp E') rfl rfl rfl hc i _ s' τ H1 E' I1' (stat fr1) st1 stop) fun r s4 ⟨hr,I4⟩=>?_
   subst hr
   refine wpAny_pure ?_
   obtain⟨eD4,_,_⟩:=I4.pin (s.heap.objs.size,{ cls:=.type "list",data:=.seq its.toArray k }) (uh _ Uv)
   have base4:Un (frs X.stack) fp H H1 s.heap s4.heap:=I4.base
   have un:Un (frs X.stack) fp H (upd H1 s.heap.objs.size (.lst ys)) s.heap s4.heap:=⟨base4.keep,base4.slot,fun b o e n hx=>by rw[zi (uK (uy e))];exact base4.free b o e n hx,base4.there,
    fun b xs e=>by rw[zi (zk (base4.tups b xs e) fD)];exact base4.tups b xs e,fun b o u e=>by rw[zi (zk (base4.frzs b o u e) fD)];exact base4.frzs b o u e,
    fun b ps e=>by
     obtain⟨more,w⟩:=base4.tbls b ps e
     exact⟨more,by rw[zi (zk w fD)];exact w⟩⟩
   have hok:HOk X.prog X.w (upd H1 s.heap.objs.size (.lst ys)) s4.heap:=fun b u e=>by
    by_cases hb:b=s.heap.objs.size
    ·subst hb
     rw[zf]at e
     cases e
     exact⟨hz,its,k,rv,eD4⟩
    ·rw[zi hb]at e
     exact(I4.hok b u e).stay (fun c v _ q=>q) (fun c q=>by rw[zi (zk q fD)];exact q) fun c xs q=>by rw[zi (zk q fD)];exact q
   have IX:Inv X pins σ (upd H1 s.heap.objs.size (.lst ys)) s4:=I.call' I4.os un hok I4.bare fun b hb=>⟨(hf b hb).2.2.2.1,(hf b hb).2.1,(hf b hb).2.2.2.2.1,(hf b hb).2.2.2.2.2⟩
   have fC:H1 G.objs.size=none:=I4.free
   obtain⟨m4,n4,_⟩:=I4.loc
   exact hR _ _ s4 H1 ys m4 IX (I.fpOk hCle (by rw[zi (Ne.symm hDC)];exact fC)) n4 (q _ fD)
  ·refine thn (T.item (cxLC X scope cl M G.objs.size s H fp E') rfl rfl rfl hc i _ s' τ H1 E' I1' (stat fr1) st1 go) fun r s4 ⟨u,hr,h4⟩=>?_
   subst hr
   refine wpAny_bind (thn h4 fun _ s5 ⟨x,H5,I5,r5,y5,st5,fr5⟩=>?_)
   have I5':=I5.pinned (stat fr5) (T.obj _ _ st5)
   have kept:∀{τ6:St}{H6:Hp}{s6:Shared},Inv (cxLC X scope cl M G.objs.size s H fp E') ([(s.heap.objs.size,{ cls:=.type "list",data:=.seq its.toArray k })]++w9 fp s5.heap) τ6 H6 s6 ->
     Inv (cxLC X scope cl M G.objs.size s H fp E') [] τ6 H6 s6/\tn (i+1) s6.heap/\(∀b∈fp,H6 b=none)/\s6.heap.get? s.heap.objs.size=some { cls:=.type "list",data:=.seq its.toArray k }/\H6 s.heap.objs.size=none:=fun{τ6 H6 s6} I6=>by
    have pin:∀b∈fp,∀o,s5.heap.get? b=some o->s6.heap.get? b=some o/\H6 b=none:=fun b hb o e =>
     let w:=I6.pin (b,o) (uh _ (uh _ (xF hb e)))
     ⟨w.1,w.2.1⟩
    have pD:=I6.pin (s.heap.objs.size,{ cls:=.type "list",data:=.seq its.toArray k }) (uh _ (uk _ Uv))
    refine⟨I6.pins_of (fun p hp=>nomatch hp),T.keep _ _ _ st5 fun b hb o e=>(pin b hb o e).1,fun b hb=>?_,pD.1,pD.2.1⟩
    obtain⟨o,e,_⟩:=T.obj _ _ st5 b hb
    exact(pin b hb o e).2
   refine wpAny_bind (thn (hg _ _ _ _ _ _ s5 τ H5 x u _ I5' r5 (step x H5 y5)) fun _ s6 ⟨σ6,H6,I6,q6⟩=>?_)
   refine wpAny_bind (thn (ht _ _ _ _ _ _ s6 σ6 H6 _ I6 q6) fun ok s7 ⟨H7,I7,q7⟩=>?_)
   cases ok with
   |false =>
    have q7':N σ6 ys H7:=by simpa using q7
    obtain⟨m',hm,w7⟩:=hN _ _ _ q7'
    obtain⟨K1,K2,K3,K4,K5⟩:=kept I7
    exact wpAny_pure ⟨rfl,m',hm,i+1,σ6,H7,ys,its,k,K1,K2,K3,K4,K5,rv,hz,w7⟩
   |true =>
    have q7':te σ6 H7 fun y H4=>ys.length < sizeLine/\N σ6 (ys++[y]) H4:=by simpa using q7
    refine wpAny_bind (wpAny_bind (thn (he _ _ hAl _ s7 σ6 H7 _ I7 q7') fun y s8 ⟨v8,H8,I8,r8,hz8,n8⟩=>?_))
    obtain⟨m',hm,w8⟩:=hN _ _ _ n8
    obtain⟨K1,K2,K3,K4,K5⟩:=kept I8
    have hl:=rv.length
    refine wpAny_bind (wpAny_list_append_plain (hsz:=by rw[ut];lia) ⟨k,K4⟩ fun h9 hl9 hs9=>wpAny_pure (wpAny_pure ⟨rfl,m',hm,?_⟩))
    obtain⟨k9,e9⟩:=hl9
    have I9:Inv (cxLC X scope cl M G.objs.size s H fp E') [] σ6 H8 { s8 with heap:=h9 }:=K1.turned (t':=s8.toks) (it:=s.heap.objs.size) (fun b o hb e=>(hs9.2 b hb).trans e) K5 hDC (.inr (ud _))
     (fun y c e=>nocl y c e) fun p hp=>nomatch hp
    refine⟨i+1,σ6,H8,ys++[v8],its++[y],k9,I9,T.keep _ _ _ K2 fun b hb o e=>(hs9.2 b (uK (fpo b hb))).trans e,K3,?_,K5,rv.append (.cons r8 .nil),?_,w8⟩
    ·rw[e9]
     simp
    ·rw[ub,Ui]
     lia
 exact codeAny_compStart_list (loop _ rfl) (T.self X.A 0 _ _ _ st1 (loop _ rfl))
variable{tg elt iter:Expr}{ifs:List Expr}{pos:Pos}{wi:TI}{g:TG}{tt:TT}{te:TE}
theorem QJ(L:LcOk X scope cl S)(hc:X.calm=true)(hi:PI X tg iter wi)(hg:∀C s H ex E,PG (cxLC X scope cl M C s H ex E) tg g)(ht:∀C s H ex E,PTs (cxLC X scope cl M C s H ex E) ifs tt)(he:∀C s H ex E,PE (cxLC X scope cl M C s H ex E) elt te)
  (hs:∀x,foldedSetIterable iter X.env x=pure x:=by intro _;rfl):PE X (.ListComp elt [⟨tg,iter,ifs,0⟩] scope pos) (tLCS S wi g tt te M.length):=by
 intro pins s σ H Q I h
 rw[eval_ListComp]
 refine wpAny_comprehension_free (use:=none) rfl hs L.clos L.kind L.locs (thn (hi pins s σ H _ I h) fun v s1 h1=>thn h1 fun itv s2 h2=>?_)
 obtain⟨it,fp,tn,J,H2,rfl,I2,T,st2,f2,W,⟨m0,w0⟩,turn⟩:=h2
 refine YB (R:=fun acc C=>compPost (model X.prog X.w) X.A X.xe none (EP X pins σ Q) acc C) (Al:=fun _ _=>True) L hc I2 T st2 f2 hg ht (fun C E _=>he C _ _ _ E) (fun _ _=>trivial) w0 turn ?_
 intro D C s' H' ys m IX fC ns q
 exact⟨m,ns,fun h' sb=>⟨.ref D,_,IX.turned (t':=s'.toks) (fun b o hb e=>(sb.2 b hb).trans e) fC.1 fC.2.1 fC.2.2.2.1 fC.2.2.2.2.1 fC.2.2.2.2.2,rfl,q⟩⟩
theorem Xy{i:Nat}{y:Str}{py spos:Pos}(hN:X.N.Nodup)(hi':X.N[i]?=some y)(hy:Loc X.env.scope y)(L:LcOk X scope cl S)(hc:X.calm=true)(hi:PI X tg iter wi)(hg:∀C s H ex E,PG (cxLC X scope cl M C s H ex E) tg g)
  (ht:∀C s H ex E,PTs (cxLC X scope cl M C s H ex E) ifs tt) (he:∀C s H ex E,PE (cxLC X scope cl M C s H ex E) elt te) (hs:∀x,foldedSetIterable iter X.env x=pure x:=by intro _;rfl)
  (hsw:swapsWith (.ListComp elt [⟨tg,iter,ifs,0⟩] scope pos) (some (.Name y py)) spos.line X.env=pure true:=by rfl)
  (hf:X.fn y=true\/X.env.scope.names.lookup y=some .local:=by first|exact .inl rfl|exact .inr rfl|assumption) :
  PS X (.Assign [.Name y py] (.ListComp elt [⟨tg,iter,ifs,0⟩] scope pos) spos) (fun D σ H=>tLCS S wi g tt te M.length σ H fun v H1=>D.nx (σ.set i (some v)) H1):=by
 intro pins s σ H D I h
 rw[exec_Assign_Name_used _ _ _ _ hsw]
 refine wpAny_bind (wpAny_standAt (wpAny_bind ?_))
 show wpAny _ X.A (do let _ <- comprehension (.ListComp elt [⟨tg,iter,ifs,0⟩] scope pos) scope X.env _ (newList []) false (eval iter X.env) (some (assign (.Name y py) X.env))) _ _ s
 refine wpAny_bind (wpAny_mono (wpAny_comprehension_free (use:=some (assign (.Name y py) X.env)) (Q:=fun _ s'=>SP X pins D .next s') rfl hs L.clos L.kind L.locs
  (thn (hi pins s σ H _ I h) fun v s1 h1=>thn h1 fun itv s2 h2=>?_)) (fun _ s' hq=>wpAny_pure (wpAny_pure hq)) fun _ _ e=>e)
 obtain⟨it,fp,tn,J,H2,rfl,I2,T,st2,f2,W,⟨m0,w0⟩,turn⟩:=h2
 refine YB (R:=fun acc C=>compPost (model X.prog X.w) X.A X.xe (some (assign (.Name y py) X.env)) (fun _ s'=>SP X pins D .next s') acc C) (Al:=fun _ _=>True) L hc I2 T st2 f2 hg ht (fun C E _=>he C _ _ _ E) (fun _ _=>trivial) w0 turn ?_
 intro D' C s' H' ys m IX fC ns q
 show wpAny _ X.A (assign (.Name y py) X.env (.ref D')) _ _ s'
 refine wpAny_assign_Name (vT IX hN hi' hy (v:=.ref D') rfl (fun s'' I'' ⟨a,sb,ha⟩=>?_) hf)
 refine⟨m,ns.sameBut sb ?_,fun h' sb'=>⟨_,_,I''.turned (t':=s''.toks) (fun b o hb e=>(sb'.2 b hb).trans e) fC.1 fC.2.1 fC.2.2.2.1 fC.2.2.2.2.1 fC.2.2.2.2.2,q⟩⟩
 rcases ha with ha|ha
 ·rw[ha];exact fC.2.1
 ·exact Ne.symm (fC.2.2.2.2.1 y a ha)
end
def clOf(scope:Scope)(env:Env):List (Str×Addr):=scope.names.foldl (fun cs p=>if p.2 == .free then(match env.cells.lookup p.1 with|some a=>(p.1,a)::cs|none=>cs)else cs) []
theorem YC(env:Env):∀(names:List (Str×NameKind))(acc:List (Str×Addr)),AllIn env acc->AllIn env (names.foldl (fun cs p=>if p.2 == .free then(match env.cells.lookup p.1 with|some a=>(p.1,a)::cs|none=>cs)else cs) acc)
 |[],_,h=>h
 | (n,k)::r,acc,h=>by
  rw[List.foldl_cons]
  refine YC env r _ ?_
  by_cases hk:(k == NameKind.free)=true
  ·rw[if_pos hk]
   cases e:env.cells.lookup n with
   |none=>exact h
   |some a=>exact⟨e,h⟩
  ·rw[if_neg hk]
   exact h
section
variable{X:Cx}{scope:Scope}{M:List Str}{tg elt iter:Expr}{ifs:List Expr}{pos:Pos}{wi:TI}{g:TG}{tt:TT}{te:TE}
theorem QK{S:List Nat}(h1:closureFor scope X.env=pure (clOf scope X.env))(h2:scope.kind=.function)(h3:scope.names.all (fun y=>y.2 != .cell)=true)(h4:scope.names.all (fun y=>y.2 != .local || scope.names.lookup y.1 == some .local)=true)
  (h5:X.N.zipIdx.all (fun y=>S.contains y.2 || scope.names.lookup y.1 != some .local)=true) (h6:scope.names.all (fun p=>p.2 != .free || (((clOf scope X.env).lookup p.1).isSome && (X.env.kindOf p.1 == some .cell || X.env.kindOf p.1 == some .free)))=true) :
  LcOk X scope (clOf scope X.env) S:=⟨h1,h2,h3,h4,h5,YC X.env scope.names [] trivial,h6⟩
theorem lcOk(h1:closureFor scope X.env=pure (clOf scope X.env))(h2:scope.kind=.function)(h3:scope.names.all (fun y=>y.2 != .cell)=true)(h4:scope.names.all (fun y=>y.2 != .local || scope.names.lookup y.1 == some .local)=true)
  (h5:X.N.all (fun y=>scope.names.lookup y != some .local)=true) (h6:scope.names.all (fun p=>p.2 != .free || (((clOf scope X.env).lookup p.1).isSome && (X.env.kindOf p.1 == some .cell || X.env.kindOf p.1 == some .free)))=true) :
  LcOk X scope (clOf scope X.env) []:=QK h1 h2 h3 h4 (UM.mpr fun y hy=>by
   have hm:y.1∈X.N:=uw (List.mem_zipIdx_iff_getElem?.mp hy)
   rw[UM.mp h5 y.1 hm,Bool.or_true]) h6
theorem Jw(M:List Str)(hc:X.calm=true)(hi:PI X tg iter wi)(hg:∀C s H ex E,PG (cxLC X scope (clOf scope X.env) M C s H ex E) tg g)(ht:∀C s H ex E,PTs (cxLC X scope (clOf scope X.env) M C s H ex E) ifs tt)
  (he:∀C s H ex E,PE (cxLC X scope (clOf scope X.env) M C s H ex E) elt te) (hs:∀x,foldedSetIterable iter X.env x=pure x:=by intro _;rfl)
  (h1:closureFor scope X.env=pure (clOf scope X.env):=by with_unfolding_all rfl) (h2:scope.kind=.function:=by rfl) (h3:scope.names.all (fun y=>y.2 != .cell)=true:=by rfl) (h4:scope.names.all (fun y=>y.2 != .local || scope.names.lookup y.1 == some .local)=true:=by rfl)
  (h5:X.N.all (fun y=>scope.names.lookup y != some .local)=true:=by rfl) (h6:scope.names.all (fun p=>p.2 != .free || (((clOf scope X.env).lookup p.1).isSome && (X.env.kindOf p.1 == some .cell || X.env.kindOf p.1 == some .free)))=true:=by rfl) :
  PE X (.ListComp elt [⟨tg,iter,ifs,0⟩] scope pos) (tLC wi g tt te M.length):=QJ (lcOk h1 h2 h3 h4 h5 h6) hc hi hg ht he hs
theorem Jx(M:List Str){i:Nat}{y:Str}{py spos:Pos}(hN:X.N.Nodup)(hi':X.N[i]?=some y)(hy:Loc X.env.scope y)(hc:X.calm=true)(hi:PI X tg iter wi)(hg:∀C s H ex E,PG (cxLC X scope (clOf scope X.env) M C s H ex E) tg g)
  (ht:∀C s H ex E,PTs (cxLC X scope (clOf scope X.env) M C s H ex E) ifs tt) (he:∀C s H ex E,PE (cxLC X scope (clOf scope X.env) M C s H ex E) elt te) (hs:∀x,foldedSetIterable iter X.env x=pure x:=by intro _;rfl)
  (hsw:swapsWith (.ListComp elt [⟨tg,iter,ifs,0⟩] scope pos) (some (.Name y py)) spos.line X.env=pure true:=by rfl)
  (hf:X.fn y=true\/X.env.scope.names.lookup y=some .local:=by first|exact .inl rfl|exact .inr rfl|assumption)
  (h1:closureFor scope X.env=pure (clOf scope X.env):=by with_unfolding_all rfl) (h2:scope.kind=.function:=by rfl) (h3:scope.names.all (fun y=>y.2 != .cell)=true:=by rfl) (h4:scope.names.all (fun y=>y.2 != .local || scope.names.lookup y.1 == some .local)=true:=by rfl)
  (h5:X.N.all (fun y=>scope.names.lookup y != some .local)=true:=by rfl) (h6:scope.names.all (fun p=>p.2 != .free || (((clOf scope X.env).lookup p.1).isSome && (X.env.kindOf p.1 == some .cell || X.env.kindOf p.1 == some .free)))=true:=by rfl) :
  PS X (.Assign [.Name y py] (.ListComp elt [⟨tg,iter,ifs,0⟩] scope pos) spos) (fun D σ H=>tLC wi g tt te M.length σ H fun v H1=>D.nx (σ.set i (some v)) H1):=Xy hN hi' hy (lcOk h1 h2 h3 h4 h5 h6) hc hi hg ht he hs hsw hf
theorem Wl(S:List Nat)(M:List Str)(hc:X.calm=true)(hi:PI X tg iter wi)(hg:∀C s H ex E,PG (cxLC X scope (clOf scope X.env) M C s H ex E) tg g)(ht:∀C s H ex E,PTs (cxLC X scope (clOf scope X.env) M C s H ex E) ifs tt)
  (he:∀C s H ex E,PE (cxLC X scope (clOf scope X.env) M C s H ex E) elt te) (hs:∀x,foldedSetIterable iter X.env x=pure x:=by intro _;rfl)
  (h1:closureFor scope X.env=pure (clOf scope X.env):=by with_unfolding_all rfl) (h2:scope.kind=.function:=by rfl) (h3:scope.names.all (fun y=>y.2 != .cell)=true:=by rfl) (h4:scope.names.all (fun y=>y.2 != .local || scope.names.lookup y.1 == some .local)=true:=by rfl)
  (h5:X.N.zipIdx.all (fun y=>S.contains y.2 || scope.names.lookup y.1 != some .local)=true:=by rfl) (h6:scope.names.all (fun p=>p.2 != .free || (((clOf scope X.env).lookup p.1).isSome && (X.env.kindOf p.1 == some .cell || X.env.kindOf p.1 == some .free)))=true:=by rfl) :
  PE X (.ListComp elt [⟨tg,iter,ifs,0⟩] scope pos) (tLCS S wi g tt te M.length):=QJ (QK h1 h2 h3 h4 h5 h6) hc hi hg ht he hs
end
section
variable{g:TG}{tt:TT}{te:TE}{Q:VK}{σ:St}{H:Hp}
theorem yL{K:uc}{a:Addr}{xs:List V}(Pv:Nat->St->List V->Hp->Prop)(h0:Pv 0 σ [] H)(hl:∀i τ ys H,i<=xs.length->Pv i τ ys H->SqL K H a xs)
  (hs:∀i x τ ys H,xs[i]?=some x->Pv i τ ys H->g x τ H fun τ2 H2=>tt τ2 H2 fun b H3=>if b=true then te τ2 H3 fun y H4=>ys.length < sizeLine/\Pv (i+1) τ2 (ys++[y]) H4 else Pv (i+1) τ2 ys H3)
  (hd:∀τ ys H,Pv xs.length τ ys H->∀p,H p=none->Q (.ref p) (upd H p (.lst ys))):∃W,(∃m,W 0 m σ [] H)/\lcBy (Itl K a) g tt te Q W:=by
 refine⟨fun i m τ ys H=>m=xs.length-i/\i<=xs.length/\Pv i τ ys H,⟨xs.length,by simp,uN _,h0⟩,?_⟩
 rintro i m τ ys H ⟨rfl,hi,p⟩
 have q:=hl i τ ys H hi p
 by_cases hlt:i < xs.length
 ·refine .inr ⟨⟨xs,xs[i],q,by simp[hlt]⟩,Pv (i+1),fun τ' ys' H' p'=>⟨xs.length-(i+1),by lia,rfl,hlt,p'⟩,fun x H' y=>?_⟩
  obtain⟨e,y⟩:=y
  subst e
  exact hs i x τ ys _ (y xs q) p
 ·have e:i=xs.length:=by lia
  subst e
  exact .inl ⟨⟨xs,q,ud _⟩,hd τ ys H p⟩
theorem yG{lo:Int}{n:Nat}(Pv:Nat->St->List V->Hp->Prop)(h0:Pv 0 σ [] H)
  (hs:∀i τ ys H,i < n->Pv i τ ys H->g (.int (lo+i)) τ H fun τ2 H2=>tt τ2 H2 fun b H3=>if b=true then te τ2 H3 fun y H4=>ys.length < sizeLine/\Pv (i+1) τ2 (ys++[y]) H4 else Pv (i+1) τ2 ys H3)
  (hd:∀τ ys H,Pv n τ ys H->∀p,H p=none->Q (.ref p) (upd H p (.lst ys))):∃W,(∃m,W 0 m σ [] H)/\lcBy (Itr lo n) g tt te Q W:=by
 refine⟨fun i m τ ys H=>m=n-i/\i<=n/\Pv i τ ys H,⟨n,by simp,uN _,h0⟩,?_⟩
 rintro i m τ ys H ⟨rfl,hi,p⟩
 by_cases hlt:i < n
 ·refine .inr ⟨hlt,Pv (i+1),fun τ' ys' H' p'=>⟨n-(i+1),by lia,rfl,hlt,p'⟩,fun x H' y=>?_⟩
  obtain⟨e,y⟩:=y
  subst e y
  exact hs i τ ys _ hlt p
 ·have e:i=n:=by lia
  subst e
  exact .inl ⟨ud _,hd τ ys H p⟩
end
end L2
namespace L2
open PySem PySem.Spec PyProof.Rows Builtin Builtin.Str
section
variable{X:Cx}{tg:Expr}
theorem Z0:OpR X (binaryOp .Mult) (fun x y H Q=>∃z n,x=.str z/\y=.int n/\MulOk z n/\Q (.str (Txt.mul z n)) H):=by
 intro pins s σ H x y v u Q I rx ry h
 obtain⟨z,n,rfl,rfl,ok,q⟩:=h
 obtain⟨t,rfl⟩:=rx
 obtain⟨t',rfl⟩:=ry
 exact SB.mul ok fun t'' k=>⟨.str (Txt.mul z n),H,I.tok k,⟨t'',rfl⟩,q⟩
theorem Xz(bs:List Bool):(Uw bs.length).all (fun i=>bs.getD i false)=bs.all id:=by
 induction bs with
 |nil=>rfl
 |cons b r ih =>
  rw[uo,List.range_succ_eq_map,UJ,List.all_map,UJ]
  have e:(Uw r.length).all ((fun i=>(b::r).getD i false) ∘ Nat.succ)=(Uw r.length).all fun i=>r.getD i false:=by
   congr 1
  rw[e,ih]
  rfl
end
end L2
namespace L2
open PySem PySem.Spec PyProof.Rows
def zv:Expr->Bool
 |.Starred ..=>true
 |_=>false
theorem zJ{e:Expr}{es:List Expr}{env:Env}(h:zv e=false):starEach (e::es) env=(false,eval e env)::starEach es env:=by
 cases e<;>first
  |rfl
  |exact absurd (show true=false from h) (by decide)
theorem yj{env:Env}{pos:Pos}:∀{es:List Expr},es.all (fun e=>!zv e)=true->(backTo pos (starEach es env)).any (·.1)=false
 |[],_=>rfl
 |e::es,h=>by
  rw[UJ,uQ]at h
  have h1:zv e=false:=by simpa using h.1
  rw[zJ h1]
  show(false || (backTo pos (starEach es env)).any (·.1))=false
  rw[yj h.2]
  rfl
section
variable{X:Cx}{CX:CXT}{k:Nat}{f C:Addr}{fd:FuncData}{ps:List Str}{sp:Sp}{dvs:List V}{ds:List Value}{E:XK}{x m:Str}{p pos apos:Pos}{e o:Expr}{es:List Expr}{te ta:TE}{t:TA}{id T:String}{r:List V->Hp->VK->Prop}
theorem pa_c(ha:PE X e te)(hr:PA X es t)(h:zv e=false:=by rfl):PA X (e::es) (zR te t):=Jm ha hr (zJ h)
theorem zbQ(F:FnOk X.prog X.w X.K X.mg X.base CX k f fd ps sp)(hr:Room k X.A)(hg:Gl X x)(hm:X.mg x=some (.ref f))(hk:uP X.K (.ref f)=true)(hb:Binds X.K fd ps ds)(hd:Vals dvs ds)(hx:yy CX X E)
  (ha:PA X (e::es) t) (hdb:(x == ("__debug__":Str))=false:=by decide) (h1:zv e=false:=by rfl) (h2:es.all (fun e=>!zv e)=true:=by rfl) :
  PE X (.Call (.Name x p) (e::es) [] pos) (Zc sp dvs E t):=Jn F hr hg hm hk hb hd hx ha hdb (zJ h1) (yj h2)
theorem zaO(hc:yJ X (.builtin id) r)(hg:Gl X x)(hm:X.mg x=none)(hv:bootBuiltins x=some (.builtin id))(ha:PA X (e::es) t)(hn:x≠"__name__":=by decide)(hdb:(x == ("__debug__":Str))=false:=by decide)
  (h1:zv e=false:=by rfl) (h2:es.all (fun e=>!zv e)=true:=by rfl):PE X (.Call (.Name x p) (e::es) [] pos) (tCB r t):=X8 hc hg hm hv ha hn hdb (zJ h1) (yj h2)
theorem Jy(hc:yJ X (.type T) r)(hg:Gl X x)(hm:X.mg x=none)(hv:bootBuiltins x=some (.type T))(ha:PA X (e::es) t)(hn:x≠"__name__":=by decide)(hdb:(x == ("__debug__":Str))=false:=by decide)
  (h1:zv e=false:=by rfl) (h2:es.all (fun e=>!zv e)=true:=by rfl):PE X (.Call (.Name x p) (e::es) [] pos) (tCB r t):=Xs hc hg hm hv ha hn hdb (zJ h1) (yj h2)
end
structure jE(X:Cx)(e:Expr)(t:TE):Prop where
 out:PE X e t
structure jT(X:Cx)(e:Expr)(t:TT):Prop where
 out:PT X e t
structure jW(X:Cx)(e:Expr)(t:TT):Prop where
 out:PW X e t
structure jA(X:Cx)(es:List Expr)(t:TA):Prop where
 out:PA X es t
structure jS(X:Cx)(st:Stmt)(t:TS):Prop where
 out:PS X st t
structure jSs(X:Cx)(sts:List Stmt)(t:TS):Prop where
 out:PSs X sts t
structure jG(X:Cx)(tg:Expr)(t:TG):Prop where
 out:PG X tg t
structure jGs(X:Cx)(tg:List Expr)(t:TGs):Prop where
 out:PGs X tg t
structure jI(X:Cx)(tg iter:Expr)(t:TI):Prop where
 out:PI X tg iter t
structure jO(X:Cx)(e:Option Expr)(t:TO):Prop where
 out:PO X e t
structure jTs(X:Cx)(ifs:List Expr)(t:TT):Prop where
 out:PTs X ifs t
structure jOp(X:Cx)(f:Value->Value->Sem Value)(r:R2):Prop where
 out:OpR X f r
structure jIx(X:Cx)(r:R2):Prop where
 out:IxR X r
structure jSl(X:Cx)(r:V->Option Int->Option Int->Hp->VK->Prop):Prop where
 out:SlR X r
structure jMt(X:Cx)(id:String)(r:V->List V->Hp->VK->Prop):Prop where
 out:MtR X id r
structure jCa(X:Cx)(f:Value)(r:List V->Hp->VK->Prop):Prop where
 out:yJ X f r
section
variable{X:Cx}{a b c e o:Expr}{es rest:List Expr}{ta tb tc te to:TE}{t u:TA}{tA tB':TT}{pos p p2 apos cpos px:Pos}{x y m:Str}{op op':CmpOp}{bop:Operator}{r r':R2}
theorem jv(i:Nat)(hN:X.N[i]?=some x:=by rfl)(hv:Vis X.env.scope x:=by first|exact Or.inl rfl|exact Or.inr (Or.inl rfl)|exact Or.inr (Or.inr rfl))(hd:(x == ("__debug__":Str))=false:=by decide)
  (hcd:(x == ("__classdict__":Str))=false:=by decide):jE X (.Name x pos) (tVar i):=⟨pv i hN hv hd hcd⟩
theorem zn{i j}:jE X (.Constant (.int i) j pos) (tC (.int i)):=⟨zah⟩
theorem zT{b j}:jE X (.Constant (.bool b) j pos) (tC (.bl b)):=⟨zbC⟩
theorem zq{x j}:jE X (.Constant (.str x) j pos) (tC (.str x)):=⟨zai⟩
theorem Jz{v:V}{w:Value}(hg:Gl X x)(hm:X.mg x=some w)(r:RelV v w)(hd:(x == ("__debug__":Str))=false:=by decide):jE X (.Name x pos) (tC v):=⟨V9 hg hm r hd⟩
theorem zu(ho:jOp X (binaryOp bop) r)(ha:jE X a ta)(hb:jE X b tb):jE X (.BinOp a bop b pos) (tOp r ta tb):=⟨zbF ho.out ha.out hb.out⟩
theorem yh(ha:jE X a ta):jE X (.UnaryOp .USub a pos) (tUn (rU fun i=>.int (-i)) ta):=⟨zbG zaA ha.out⟩
theorem yu(ho:jOp X (compareOp op) r)(ha:jE X a ta)(hb:jE X b tb)(hm:behindInMarks op b=false):jE X (.Compare a [op] [b] pos) (tOp r ta tb):=⟨Jh ho.out ha.out hb.out hm⟩
theorem xx(ho:jOp X (compareOp op) r)(ha:jE X a ta)(hb:jE X b tb)(hm:behindInMarks op b=false):jT X (.Compare a [op] [b] pos) (X2 (tOp r ta tb)):=⟨Ji ho.out ha.out hb.out hm⟩
theorem zX(h:jE X e te)(he:∀whole,isTrue e X.env whole=(do let v <- whole;standAt e.pos;holding [v] (truthy v)):=by intro _;rfl):jT X e (tB te):=⟨zak h.out he⟩
theorem yc(ha:jT X a tA):jW X (.BoolOp .And [a] pos) tA:=⟨pw_and1 ha.out⟩
theorem xG(ha:jT X a tA):jW X (.BoolOp .Or [a] pos) tA:=⟨pw_or1 ha.out⟩
theorem z9(ha:jT X a tA)(hb:jW X (.BoolOp .And (b::rest) pos) tB'):jW X (.BoolOp .And (a::b::rest) pos) (tAnd tA tB'):=⟨pw_and ha.out hb.out⟩
theorem vd(ha:jT X a tA)(hb:jW X (.BoolOp .Or (b::rest) pos) tB'):jW X (.BoolOp .Or (a::b::rest) pos) (tOr tA tB'):=⟨pw_or ha.out hb.out⟩
theorem jW.pt(h:jW X e tA):jT X e tA:=⟨PW.pt h.out⟩
theorem xH(ha:jT X a tA):jT X (.UnaryOp .Not a pos) (tNot tA):=⟨zal ha.out⟩
theorem xj{op}(h:jE X a te):jE X (.BoolOp op [a] pos) te:=⟨zam h.out⟩
theorem ve(ha:jE X a ta)(hb:jE X (.BoolOp .And (b::rest) pos) tb):jE X (.BoolOp .And (a::b::rest) pos) (Qy ta tb):=⟨zan ha.out hb.out⟩
theorem YD(ha:jE X a ta)(hb:jE X (.BoolOp .Or (b::rest) pos) tb):jE X (.BoolOp .Or (a::b::rest) pos) (tOrV ta tb):=⟨zbD ha.out hb.out⟩
theorem Wm(ha:jE X a ta):jE X (.UnaryOp .Not a pos) (Qz ta):=⟨zao ha.out⟩
theorem Wn(hc:jT X c tA)(ha:jE X a ta)(hb:jE X b tb):jE X (.IfExp c a b pos) (tIf tA ta tb):=⟨XV hc.out ha.out hb.out⟩
theorem zD:jA X [] tNil:=⟨zaD⟩
theorem ja_c(ha:jE X e te)(hr:jA X es t)(h:zv e=false:=by rfl):jA X (e::es) (zR te t):=⟨pa_c ha.out hr.out h⟩
theorem zy(h:jA X es t):jE X (.List es pos) (tLst t):=⟨zaF h.out⟩
theorem zt{x1}(h:jA X es t):jE X (.Tuple es x1 pos) (tTup t):=⟨zaE h.out⟩
theorem yd(hr:jIx X r)(ha:jE X a ta)(hb:jE X b tb)(hs:jh b):jE X (.Subscript a b pos) (tOp r ta tb):=⟨zbN hr.out ha.out hb.out hs⟩
theorem yz:jO X none Yx:=⟨Jp⟩
theorem yA(h:jE X e te):jO X (some e) (QH te):=⟨Jq h.out⟩
theorem yk{r:V->Option Int->Option Int->Hp->VK->Prop}{lo hi:Option Expr}{tl th:TO}(hr:jSl X r)(he:jE X e te)(hl:jO X lo tl)(hu:jO X hi th):jE X (.Subscript e (.Slice lo hi none p2) pos) (tSl r te tl th):=⟨Wa hr.out he.out hl.out hu.out⟩
variable{CX:CXT}{k:Nat}{f C:Addr}{fd:FuncData}{ps:List Str}{sp:Sp}{dvs:List V}{ds:List Value}{E:XK}{id T:String}{rc:List V->Hp->VK->Prop}{rm:V->List V->Hp->VK->Prop}
theorem zbR(F:FnOk X.prog X.w X.K X.mg X.base CX k f fd ps sp)(hr:Room k X.A)(hg:Gl X x)(hm:X.mg x=some (.ref f))(hk:uP X.K (.ref f)=true)(hb:Binds X.K fd ps ds)(hd:Vals dvs ds)(hx:yy CX X E)
  (ha:jA X (e::es) t) (hdb:(x == ("__debug__":Str))=false:=by decide) (h1:zv e=false:=by rfl) (h2:es.all (fun e=>!zv e)=true:=by rfl) :
  jE X (.Call (.Name x p) (e::es) [] pos) (Zc sp dvs E t):=⟨zbQ F hr hg hm hk hb hd hx ha.out hdb h1 h2⟩
theorem xk(hc:jCa X (.builtin id) rc)(hg:Gl X x)(hm:X.mg x=none)(hv:bootBuiltins x=some (.builtin id))(ha:jA X (e::es) t)(hn:x≠"__name__":=by decide)(hdb:(x == ("__debug__":Str))=false:=by decide)
  (h1:zv e=false:=by rfl) (h2:es.all (fun e=>!zv e)=true:=by rfl):jE X (.Call (.Name x p) (e::es) [] pos) (tCB rc t):=⟨zaO hc.out hg hm hv ha.out hn hdb h1 h2⟩
theorem zG(hc:jCa X (.type T) rc)(hg:Gl X x)(hm:X.mg x=none)(hv:bootBuiltins x=some (.type T))(ha:jA X (e::es) t)(hn:x≠"__name__":=by decide)(hdb:(x == ("__debug__":Str))=false:=by decide)
  (h1:zv e=false:=by rfl) (h2:es.all (fun e=>!zv e)=true:=by rfl):jE X (.Call (.Name x p) (e::es) [] pos) (tCB rc t):=⟨Jy hc.out hg hm hv ha.out hn hdb h1 h2⟩
theorem vf{name:Str}(pa:PlainAttrs T)(slot:Slot T name id)(hty:typeOf (.builtin id)=pure (.type "method_descriptor"))(hm:jMt X id rm)(ho:jE X o to)
  (hbase:attributeBase o name X.env (eval o X.env)=eval o X.env:=by rfl) (hline:(apos.endLine == cpos.line)=true:=by rfl):jE X (.Call (.Attribute o name apos) [] [] cpos) (tBM0 X.K T rm to):=⟨zaL pa slot hty hm.out ho.out hbase hline⟩
theorem yf{name:Str}(pa:PlainAttrs T)(slot:Slot T name id)(hty:typeOf (.builtin id)=pure (.type "method_descriptor"))(hm:jMt X id rm)(ho:jE X o to)(ha:jA X (e::es) t)
  (hbase:attributeBase o name X.env (eval o X.env)=eval o X.env:=by rfl)
  (hfew:((backTo cpos (starEach (e::es) X.env)).all (fun x=>!x.1) && (backToKw cpos (keywordEach [] X.env)).all (fun x=>x.1.isSome)
   && decide ((e::es).length+([]:List Keyword).length+(if([]:List Keyword).isEmpty then 0 else 1) < 30))=true:=by rfl)
  (hline:(apos.endLine == cpos.line)=true:=by rfl) (h1:zv e=false:=by rfl) (h2:es.all (fun e=>!zv e)=true:=by rfl) :
  jE X (.Call (.Attribute o name apos) (e::es) [] cpos) (tBM X.K T rm to t):=⟨zbO pa slot hty hm.out ho.out ha.out hbase hfew hline (zJ h1) (yj h2)⟩
variable{st:Stmt}{sts:List Stmt}{s1 s2:TS}{tg iter elt:Expr}{g:TG}{wi:TI}{tb1:TS}{ifs:List Expr}{tt:TT}
theorem zr:jSs X [] wH:=⟨Ja⟩
theorem zg(h1:jS X st s1)(h2:jSs X sts s2):jSs X (st::sts) (tSeq s1 s2):=⟨XW h1.out h2.out⟩
theorem zh(h1:jS X st s1):jSs X [st] s1:=⟨Jb h1.out⟩
theorem zO(he:jE X e te)(hs:swapsWith e none pos.line X.env=pure false:=by rfl):jS X (.Expr e pos) (QA te):=⟨Jc he.out hs⟩
theorem zp(he:jE X e te):jS X (.Return (some e) pos) (tRet te):=⟨zap he.out⟩
theorem zw{A B:List Stmt}(hc:jT X c tA)(ha:jSs X A s1)(hb:jSs X B s2):jS X (.If c A B pos) (tIfS tA s1 s2):=⟨zbE hc.out ha.out hb.out⟩
theorem zaP{i:Nat}{pos':Pos}(hN:X.N.Nodup)(hi:X.N[i]?=some x)(hx:Loc X.env.scope x)(he:jE X e te)(hs:swapsWith e (some (.Name x pos')) pos.line X.env=pure false:=by rfl)
  (hf:X.fn x=true\/X.env.scope.names.lookup x=some .local:=by first|exact .inl rfl|exact .inr rfl|assumption):jS X (.Assign [.Name x pos'] e pos) (tAsg te (vU i)):=⟨zat hN hi hx he.out hs hf⟩
theorem yY(he:jE X e te)(hg:jG X tg g)(hs:swapsWithSole [tg] e pos.line X.env=pure false:=by rfl)(hw:swappedStores [tg] e X.env=pure none:=by rfl)(h1:(assignEach [tg] X.env).map (·.2)=[assign tg X.env]:=by rfl):jS X (.Assign [tg] e pos) (tAsg te g):=⟨zas he.out hg.out hs hw h1⟩
theorem JA{i:Nat}(hN:X.N.Nodup)(hi:X.N[i]?=some x)(hx:Loc X.env.scope x)(hf:X.fn x=true\/X.env.scope.names.lookup x=some .local:=by first|exact .inl rfl|exact .inr rfl|assumption):jG X (.Name x pos) (vU i):=⟨Jd hN hi hx hf⟩
theorem ym:jGs X [] gNil:=⟨Je⟩
theorem zA{g:TG}{gs:TGs}(h1:jG X e g)(h2:jGs X es gs)(hs:(assignEach (e::es) X.env).map (·.2)=assign e X.env::(assignEach es X.env).map (·.2):=by rfl):jGs X (e::es) (QB g gs):=⟨XX h1.out h2.out hs⟩
theorem xm{k:Nat}{gs:TGs}{n:Nat}(hc:X.calm=true)(h:jGs X es gs)(hn:(assignEach es X.env).length=n:=by rfl)(hst:(assignEach es X.env).findIdx? (·.1)=none:=by rfl):jG X (.Tuple es k pos) (gTup X.K n gs):=⟨zaq hc h.out hn hst⟩
theorem ye{l:Expr}{tl:TE}(hl:jE X l tl):jI X tg l (QC X.K tl):=⟨Jf hl.out⟩
theorem yn{l:Expr}{tl:TE}(hl:jE X l tl):jI X tg l (iTup X.K tl):=⟨zau hl.out⟩
theorem zV(hg:Gl X "range")(hm:X.mg "range"=none)(ha:jA X [a] t)(h:zv a=false:=by rfl):jI X tg (.Call (.Name "range" p) [a] [] pos) (QD t):=⟨Xm hg hm ha.out (zJ h)⟩
theorem zM(hp:PassesOwn (model X.prog X.w) X.A X.env X.xe)(hc:X.calm=true)(hi:jI X tg iter wi)(hg:jG X tg g)(hb:jSs X sts tb1)(hs:∀x,foldedSetIterable iter X.env x=pure x:=by intro _;rfl):jS X (.For tg iter sts [] pos) (tFor wi g tb1):=⟨zav hp hc hi.out hg.out hb.out hs⟩
theorem xn(hp:PassesOwn (model X.prog X.w) X.A X.env X.xe)(hc:jT X c tA)(hb:jSs X sts tb1):jS X (.While c sts [] pos) (XY tA tb1):=⟨XZ hp hc.out hb.out⟩
theorem zW:jTs X [] tYes:=⟨Ju⟩
theorem xR(h:jT X c tA):jTs X [c] tA:=⟨Jv h.out⟩
theorem yM{scope:Scope}(M:List Str)(hc:X.calm=true)(hi:jI X tg iter wi)(hg:∀C s H ex E,jG (cxLC X scope (clOf scope X.env) M C s H ex E) tg g)(ht:∀C s H ex E,jTs (cxLC X scope (clOf scope X.env) M C s H ex E) ifs tt)
  (he:∀C s H ex E,jE (cxLC X scope (clOf scope X.env) M C s H ex E) elt te) (hs:∀x,foldedSetIterable iter X.env x=pure x:=by intro _;rfl)
  (h1:closureFor scope X.env=pure (clOf scope X.env):=by with_unfolding_all rfl) (h2:scope.kind=.function:=by rfl) (h3:scope.names.all (fun y=>y.2 != .cell)=true:=by rfl) (h4:scope.names.all (fun y=>y.2 != .local || scope.names.lookup y.1 == some .local)=true:=by rfl)
  (h5:X.N.all (fun y=>scope.names.lookup y != some .local)=true:=by rfl) (h6:scope.names.all (fun p=>p.2 != .free || (((clOf scope X.env).lookup p.1).isSome && (X.env.kindOf p.1 == some .cell || X.env.kindOf p.1 == some .free)))=true:=by rfl) :
  jE X (.ListComp elt [⟨tg,iter,ifs,0⟩] scope pos) (tLC wi g tt te M.length):=⟨Jw M hc hi.out (fun C s H ex E=>(hg C s H ex E).out) (fun C s H ex E=>(ht C s H ex E).out) (fun C s H ex E=>(he C s H ex E).out) hs h1 h2 h3 h4 h5 h6⟩
theorem yg{scope:Scope}(M:List Str){i:Nat}{py spos:Pos}(hN:X.N.Nodup)(hi':X.N[i]?=some y)(hy:Loc X.env.scope y)(hc:X.calm=true)(hi:jI X tg iter wi)(hg:∀C s H ex E,jG (cxLC X scope (clOf scope X.env) M C s H ex E) tg g)
  (ht:∀C s H ex E,jTs (cxLC X scope (clOf scope X.env) M C s H ex E) ifs tt) (he:∀C s H ex E,jE (cxLC X scope (clOf scope X.env) M C s H ex E) elt te) (hs:∀x,foldedSetIterable iter X.env x=pure x:=by intro _;rfl)
  (hsw:swapsWith (.ListComp elt [⟨tg,iter,ifs,0⟩] scope pos) (some (.Name y py)) spos.line X.env=pure true:=by rfl)
  (hf:X.fn y=true\/X.env.scope.names.lookup y=some .local:=by first|exact .inl rfl|exact .inr rfl|assumption)
  (h1:closureFor scope X.env=pure (clOf scope X.env):=by with_unfolding_all rfl) (h2:scope.kind=.function:=by rfl) (h3:scope.names.all (fun y=>y.2 != .cell)=true:=by rfl) (h4:scope.names.all (fun y=>y.2 != .local || scope.names.lookup y.1 == some .local)=true:=by rfl)
  (h5:X.N.all (fun y=>scope.names.lookup y != some .local)=true:=by rfl) (h6:scope.names.all (fun p=>p.2 != .free || (((clOf scope X.env).lookup p.1).isSome && (X.env.kindOf p.1 == some .cell || X.env.kindOf p.1 == some .free)))=true:=by rfl) :
  jS X (.Assign [.Name y py] (.ListComp elt [⟨tg,iter,ifs,0⟩] scope pos) spos) (fun D σ H=>tLC wi g tt te M.length σ H fun v H1=>D.nx (σ.set i (some v)) H1) :=
 ⟨Jx M hN hi' hy hc hi.out (fun C s H ex E=>(hg C s H ex E).out) (fun C s H ex E=>(ht C s H ex E).out) (fun C s H ex E=>(he C s H ex E).out) hs hsw hf h1 h2 h3 h4 h5 h6⟩
theorem Ze{scope:Scope}(S:List Nat)(M:List Str)(hc:X.calm=true)(hi:jI X tg iter wi)(hg:∀C s H ex E,jG (cxLC X scope (clOf scope X.env) M C s H ex E) tg g)(ht:∀C s H ex E,jTs (cxLC X scope (clOf scope X.env) M C s H ex E) ifs tt)
  (he:∀C s H ex E,jE (cxLC X scope (clOf scope X.env) M C s H ex E) elt te) (hs:∀x,foldedSetIterable iter X.env x=pure x:=by intro _;rfl)
  (h1:closureFor scope X.env=pure (clOf scope X.env):=by with_unfolding_all rfl) (h2:scope.kind=.function:=by rfl) (h3:scope.names.all (fun y=>y.2 != .cell)=true:=by rfl) (h4:scope.names.all (fun y=>y.2 != .local || scope.names.lookup y.1 == some .local)=true:=by rfl)
  (h5:X.N.zipIdx.all (fun y=>S.contains y.2 || scope.names.lookup y.1 != some .local)=true:=by rfl) (h6:scope.names.all (fun p=>p.2 != .free || (((clOf scope X.env).lookup p.1).isSome && (X.env.kindOf p.1 == some .cell || X.env.kindOf p.1 == some .free)))=true:=by rfl) :
  jE X (.ListComp elt [⟨tg,iter,ifs,0⟩] scope pos) (tLCS S wi g tt te M.length):=⟨Wl S M hc hi.out (fun C s H ex E=>(hg C s H ex E).out) (fun C s H ex E=>(ht C s H ex E).out) (fun C s H ex E=>(he C s H ex E).out) hs h1 h2 h3 h4 h5 h6⟩
theorem zN:jOp X (binaryOp .Add) (rI0 fun i j=>.int (i+j)):=⟨zaw⟩
theorem yZ:jOp X (binaryOp .Sub) (rI0 fun i j=>.int (i-j)):=⟨zax⟩
theorem jm:jOp X (binaryOp .Mult) (rI CMul fun i j=>.int (i*j)):=⟨zay⟩
theorem y0:jOp X (binaryOp .FloorDiv) (rI CDiv fun i j=>.int (i / j)):=⟨Jg⟩
theorem xo:jOp X (binaryOp .Mod) (rI (fun _ j=>0 < j) fun i j=>.int (i % j)):=⟨zaz⟩
theorem zx:jOp X (compareOp .Eq) rEq:=⟨zbH⟩
theorem v7:jOp X (compareOp .NotEq) rNe:=⟨zbI⟩
theorem Zf:jOp X (compareOp .Lt) (rI0 fun i j=>.bl (decide (i < j))):=⟨zbJ⟩
theorem Wo:jOp X (compareOp .LtE) (rI0 fun i j=>.bl (decide (i<=j))):=⟨zbK⟩
theorem vg:jOp X (compareOp .Gt) (rI0 fun i j=>.bl (decide (j < i))):=⟨zbL⟩
theorem zbS:jOp X (compareOp .GtE) (rI0 fun i j=>.bl (decide (j<=i))):=⟨zbM⟩
theorem xy:jOp X (compareOp .In) (rIn X.K false):=⟨Xt⟩
theorem xS:jOp X (compareOp .NotIn) (rIn X.K true):=⟨jj⟩
theorem yq:jOp X (binaryOp .Add) (fun x y H Q=>∃i j,x=.str i/\y=.str j/\i.length+j.length<=sizeLine/\Q (.str (i++j)) H):=⟨ZP⟩
theorem vh:jOp X (binaryOp .Mult) (fun x y H Q=>∃z n,x=.str z/\y=.int n/\MulOk z n/\Q (.str (Txt.mul z n)) H):=⟨Z0⟩
theorem ya:jOp X (binaryOp .Add) rCat:=⟨zaN⟩
theorem xa:jOp X (binaryOp .Add) (Wb X.K):=⟨Jr⟩
theorem z6:jIx X (rIxL X.K):=⟨Js⟩
theorem zP:jIx X (rIxT X.K):=⟨zaI⟩
theorem Z1:jIx X rIxS:=⟨zaJ⟩
theorem YE:jSl X (rSlL X.K):=⟨Jt⟩
theorem zI:jMt X "list.append" Yz:=⟨Xu⟩
theorem vi:jMt X "list.pop" rPop:=⟨zaM⟩
theorem XA:jMt X "list.extend" YA:=⟨Xv⟩
theorem vj:jCa X (.builtin "len") (fun xs H Q=>∃p ys,xs=[.ref p]/\(SqL X.K H p ys\/SqT X.K H p ys)/\Q (.int ys.length) H):=⟨jk⟩
theorem zB:jCa X (.type "tuple") (fun xs H Q=>∃p ys,xs=[.ref p]/\((SqL X.K H p ys/\∀l,H l=none->Q (.ref l) (upd H l (.tup ys)))\/(SqT X.K H p ys/\Q (.ref p) H))):=⟨vR⟩
theorem yi:jCa X (.type "list") (fun xs H Q=>∃p ys,xs=[.ref p]/\(SqL X.K H p ys\/SqT X.K H p ys)/\∀l,H l=none->Q (.ref l) (upd H l (.lst ys))):=⟨jl⟩
end
section
variable{P:Program}{w:World}{K:uc}{mg:Str->Option Value}{base:Heap}
theorem Fun.by{x qual:Str}{st:Stmt}{f:Addr}{fd:FuncData}{N ps:List Str}{k:Nat}{sp:Sp}(F:Fun K x qual st f fd)(S:FnScope N ps (zo st))(len:∀vs H Q E,sp vs H Q E->vs.length=ps.length)
  (hbody:∀(cdv:Value)(A:Around)(outer:List Env)(s:Shared)(H:Hp)(vs:List V)(Q:VK)(E:XK),Room k (A.deeper (envOfC qual (zo st) s.heap.objs.size f cdv))->sp vs H Q E ->
   ∃t,jSs (cxOf CX0 P w K mg base N qual (zo st) f cdv A outer s H E).nox (zF st) t/\t { nx:=fun _ H'=>Q .non H',rt:=Q } (yK N vs) H):FnOk P w K mg base CX0 (k+1) f fd ps sp :=
 F.ok S len fun cdv A outer s H vs Q E hr h=>let ⟨t,b,q⟩:=hbody cdv A outer s H vs Q E hr h;⟨t,b.out,q⟩
end
end L2
namespace L2
open PySem
section
variable{M:Model}{A:Around}{E:Value->Shared->Prop}{s:Shared}{base:Heap}{env:Env}{outer:List Env}{L e T:Addr}{C:Value}{dx:Option Addr}{Q:Unit->Shared->Prop}
end
end L2
namespace L2
open PySem PySem.Spec PyProof.Rows
section
variable{P:Program}{w:World}{K:uc}{mg:Str->Option Value}{base:Heap}{N:List Str}{qual:Str}{scope:Scope}{f:Addr}{cd:Value}{A:Around}{outer:List Env}{s:Shared}{H:Hp}{E:XK}
end
end L2
namespace L2
open PySem
section
variable{M:Model}{A:Around}{E:Value->Shared->Prop}{env:Env}{nm q:Str}{C N:Addr}{bs bm:List Value}{hdct:Bool}{sn:List Str}{sub:List Value}{ab:Bool}{col:Option Bool}{dd:Option Addr}{k0 k1 k2 k3 k5:Option Value}{newId:String}
end
section
variable{prog:Program}{w:World}{A:Around}{E:Value->Shared->Prop}{h:Heap}{g:Array GenState}{d:Drawn}{t:Nat}{os:OsState}
variable{nm q:Str}{C N f:Addr}{bs bm bmB:List Value}{hdct:Bool}{sn:List Str}{sub:List Value}{ab:Bool}{col:Option Bool}{dd:Option Addr}{k0 k1 k2 k3 k5:Option Value}{B Bn newId nid initId inN:String}{bmN:List Value}
end
end L2
namespace L2
open PySem PySem.W PySem.Calls PyProof.Rows Builtin Builtin.ObjectAttr
def bmV:List Value:=[.type "ValueError",.type "Exception",.type "BaseException",.type "object"]
def zbT:List Value->Bool
 |[]=>false
 |v::r=>(v::r) == bmV || (match v with
  |.ref _=>zbT r
  |_=>false)
section
variable{prog:Program}{w:World}{A:Around}{E:Value->Shared->Prop}{K:Frag}{C e:Addr}{s:Shared}{ox:Obj}{od:Option Obj}{name:Str}{R:Result->Shared->Prop}
end
end L2
namespace L2
open PySem PySem.Spec PyProof.Rows
section
variable{X:Cx}{k:Nat}{f C:Addr}{fd:FuncData}{ps:List Str}{sp:Sp}{E:XK}{x:Str}{np cpos pos:Pos}{a:Expr}{as:List Expr}{t:TA}
end
section
variable{X:Cx}{f C R:Addr}{x m:Str}{np apos pos pos':Pos}{a o e value:Expr}{as:List Expr}{t:TA}{ta tv te:TE}
end
section
variable{X:Cx}{pins:List (Addr×Obj)}{σ:St}{H:Hp}{s:Shared}{h':Heap}{xs:List Addr}
end
abbrev Ends.behind(D:Ends)(i:Nat):Ends:={ nx:=fun σ H=>D.nx (σ.set i none) H,rt:=D.rt,bk:=fun σ H=>D.bk (σ.set i none) H,ct:=fun σ H=>D.ct (σ.set i none) H }
section
variable{X:Cx}{Ch:Addr}{x n:Str}{i:Nat}{np hpos tpos:Pos}{b0:Stmt}{suite:List Stmt}{th:Addr->Obj->TS}
variable{k:Nat}{f:Addr}{fd:FuncData}{ps:List Str}{sp:Sp}{y:Str}{p cpos epos:Pos}{a:Expr}{as:List Expr}{t:TA}
end
section
variable{X:Cx}{pins:List (Addr×Obj)}{σ:St}{H:Hp}{s:Shared}{h':Heap}
theorem Inv.turns{t':Nat}{ch:List Addr}(I:Inv X pins σ H s)(k:∀b o,b∉ch->s.heap.get? b=some o->h'.get? b=some o)(hf:∀b∈ch,FpOk X pins H b):Inv X pins σ H { s with heap:=h',toks:=t' }:=by
 have nit:∀b u,H b=some u->b∉ch:=fun b u e z=>by rw[(hf b z).1]at e;cases e
 refine I.call (g':=s.gens) (d':=s.drawn) (t':=t') (ch:=ch) ⟨fun b o q _ _ x=>k b o x q,fun b o q _ _ x=>⟨o.slots,k b o x q⟩,fun _ _ _ n _=>n,fun b o q x=>⟨o,k b o x q⟩,fun _ _ q=>q,fun _ _ _ q=>q,fun _ ps q=>⟨#[],by rw[q];simp⟩⟩
  (fun b u e=>(I.hok b u e).stay (fun c v hc q=>k c v ?_ q) (fun _ q=>q) fun _ _ q=>q) I.bare fun b hb=>?_
 ·rcases hc with z|z
  ·rw[z];exact nit b u e
  ·exact nit c _ z
 ·obtain⟨f0,f1,f2,f3,f4,f5⟩:=hf b hb
  exact⟨f3,f1,f4,f5⟩
theorem Inv.turnsLaid{t':Nat}{ch:List Addr}{a:Addr}{o:HO}(I:Inv X pins σ H s)(k:∀b o,b∉ch->s.heap.get? b=some o->h'.get? b=some o)(hf:∀b∈ch,FpOk X pins H b)(hp:s.heap.objs.size<=a)(new:ObjOk X.prog X.w (upd H a o) h' a o):
  Inv X pins σ (upd H a o) { s with heap:=h',toks:=t' }:=by
 have hn:=I.hok.fresh hp
 have nit:∀b u,H b=some u->b∉ch:=fun b u e z=>by rw[(hf b z).1]at e;cases e
 refine I.call (g':=s.gens) (d':=s.drawn) (t':=t') (ch:=ch) ⟨fun b o q _ _ x=>k b o x q,fun b o q _ _ x=>⟨o.slots,k b o x q⟩,fun b u q n _=>by rw[zi (uK (uC (uy q) hp))];exact n,fun b o q x=>⟨o,k b o x q⟩,
   fun b xs q=>by rw[zi (zk q hn)];exact q,fun b u xs q=>by rw[zi (zk q hn)];exact q,fun b ps q=>⟨#[],by rw[zi (zk q hn),q];simp⟩⟩
  (fun b u e=>?_) I.bare fun b hb=>?_
 ·by_cases hb:b=a
  ·subst hb
   rw[zf]at e
   cases e
   exact new
  ·rw[zi hb]at e
   refine(I.hok b u e).stay (fun c v hc q=>k c v ?_ q) (fun c q=>by rw[zi (zk q hn)];exact q) fun c xs q=>by rw[zi (zk q hn)];exact q
   rcases hc with z|z
   ·rw[z];exact nit b u e
   ·exact nit c _ z
 ·obtain⟨f0,f1,f2,f3,f4,f5⟩:=hf b hb
  exact⟨f3,f1,f4,f5⟩
end
section
variable{X:Cx}{elts:List Expr}{k:Nat}{tpos:Pos}
end
end L2
namespace L2
open PySem PySem.Spec PyProof.Rows Builtin Builtin.Str
section
variable{X:Cx}
theorem xU:∀{zs:List Str}{us:List Value},Vals (zs.map V.str) us->∃l:List (Str×Tok),us=strValues l/\l.map (·.1)=zs
 |[],_,.nil=>⟨[],rfl,rfl⟩
 |z::zs,_,.cons ⟨t,e⟩ r=>by
  obtain⟨l,rfl,h⟩:=xU r
  exact⟨(z,t)::l,by rw[e];rfl,by rw[uu,h]⟩
theorem Zg(sep:Str):∀(zs:List Str)(a:Nat),zs.foldl (· + ·.length+sep.length) a=a+((zs.map (·.length)).sum+zs.length*sep.length)
 |[],a=>by simp
 |z::zs,a=>by
  rw[List.foldl_cons,Zg sep zs]
  simp only[uu,uW,uo,Nat.add_mul,Nat.one_mul]
  lia
def wide(sep:Str)(zs:List Str):Nat:=(zs.map (·.length)).sum+zs.length*sep.length
def QL(K:uc):V->List V->Hp->VK->Prop:=fun x vs H Q=>∃sep p zs,x=.str sep/\vs=[.ref p]/\SqL K H p (zs.map V.str)/\wide sep zs<=sizeLine/\Q (.str (Str.join sep zs)) H
theorem JB:MtR X "str.join" (QL X.K):=by
 intro pins s σ H x vs v us Q I rx rv h
 obtain⟨sep,p,zs,rfl,rfl,hq,hw,q⟩:=h
 obtain⟨t,rfl⟩:=rx
 obtain⟨u,rfl,ru⟩:=rv.one
 cases ru
 obtain⟨its,r,pl,hz⟩:=I.list hq
 obtain⟨l,rfl,hl⟩:=xU r
 have big:tooLong ((l.map (·.1)).toArray.foldl (· + ·.length+sep.length) 0)=false:=by
  rw[hl,List.foldl_toArray,Zg]
  unfold tooLong
  rw[decide_eq_false_iff_not]
  unfold wide at hw
  lia
 have hg:=size_glued sep zs
 have hle:(glued sep zs).length<=sizeLine:=by
  rw[hg]
  unfold wide at hw
  have:(zs.length-1)*sep.length<=zs.length*sep.length:=uU _ (Nat.sub_le _ _)
  lia
 refine call_meets F.slot_str_join (typeIs_str _ _ _) F.entry_str_join (F.args_str_join_2 _ _) (meets_str_join_list sep t p l big) ⟨pl.isList,?_⟩
 rw[<- StrLaws.glued_eq_join]at q
 match l,hl with
 |[],hl=>exact⟨by rw[hl];exact hle,.str _,H,I.tok _,⟨_,rfl⟩,by rw[hl];exact q⟩
 |[(z,tz)],hl =>
  have e:glued sep zs=z:=by
   rw[<- hl]
   rfl
  rw[e]at q
  exact⟨.str z,H,I,⟨tz,rfl⟩,q⟩
 |a::b::r,hl=>exact⟨by rw[hl];exact hle,.str _,H,I.tok _,⟨_,rfl⟩,by rw[hl];exact q⟩
theorem JC:jMt X "str.join" (QL X.K):=⟨JB⟩
def rEqE(K:uc)(neg:Bool):R2:=fun x y H Q=>∃p p' xs,x=.ref p/\y=.ref p'/\SqL K H p xs/\SqL K H p' []/\Q (.bl (if neg then !xs.isEmpty else xs.isEmpty)) H
theorem zaQ(hu:X.A.units < cLine):OpR X (compareOp .Eq) (rEqE X.K false):=by
 intro pins s σ H x y v u Q I rx ry h
 obtain⟨p,p',xs,rfl,rfl,h1,h2,q⟩:=h
 cases rx
 cases ry
 obtain⟨its,r,pl,_⟩:=I.list h1
 obtain⟨its',r',pl',_⟩:=I.list h2
 cases r'
 cases r with
 |nil=>exact SeqAt.eq_listAt (e:=fun _=>true) pl.isList pl'.isList rfl hu (fun j h=>absurd h (Nat.not_lt_zero _)) ⟨.bl true,H,I,rfl,q⟩
 |cons a b=>exact SeqAt.eq_list_lengthsAt pl.isList pl'.isList rfl hu ⟨.bl false,H,I,rfl,q⟩
theorem zaR(hu:X.A.units < cLine):OpR X (compareOp .NotEq) (rEqE X.K true):=by
 intro pins s σ H x y v u Q I rx ry h
 obtain⟨p,p',xs,rfl,rfl,h1,h2,q⟩:=h
 cases rx
 cases ry
 obtain⟨its,r,pl,_⟩:=I.list h1
 obtain⟨its',r',pl',_⟩:=I.list h2
 cases r'
 cases r with
 |nil=>exact SeqAt.RcNeAt.lists (e:=fun _=>true) pl.isList pl'.isList rfl hu (fun j h=>absurd h (Nat.not_lt_zero _)) _ _ _ _ ⟨.bl false,H,I,rfl,q⟩
 |cons a b=>exact SeqAt.RcNeAt.lists_lengths pl.isList pl'.isList rfl hu _ _ _ _ ⟨.bl true,H,I,rfl,q⟩
theorem vk{k:Nat}(hr:Room k X.A):jOp X (compareOp .Eq) (rEqE X.K false):=⟨zaQ hr.units0⟩
theorem zaS{k:Nat}(hr:Room k X.A):jOp X (compareOp .NotEq) (rEqE X.K true):=⟨zaR hr.units0⟩
end
end L2
namespace L2
open PySem PySem.Spec PyProof.Rows
def Sq(k:Bool)(h:Heap)(l:Addr)(xs:Array Value):Prop:=match k with
 |true=>h.IsList l xs
 |false=>h.IsTuple l xs
def SqI(k:Bool)(h:Heap)(j l:Addr)(n:Nat):Prop:=match k with
 |true=>h.IsListIter j l n
 |false=>h.IsTupleIter j l n
def SqN(k:Bool):String:=if k then "list_iterator"else "tuple_iterator"
theorem Sq.at{k:Bool}{h h':Heap}{l:Addr}{xs:Array Value}(x:Sq k h l xs)(e:∀o,h.get? l=some o->h'.get? l=some o):Sq k h' l xs:=by
 cases k<;>obtain⟨o,ho,r⟩:=x<;>exact⟨o,e _ ho,r⟩
theorem SqI.at{k:Bool}{h h':Heap}{j l:Addr}{n:Nat}(x:SqI k h j l n)(e:∀o,h.get? j=some o->h'.get? j=some o):SqI k h' j l n:=by
 cases k<;>obtain⟨o,ho,r⟩:=x<;>exact⟨o,e _ ho,r⟩
theorem SqI.ex{k:Bool}{h:Heap}{j l:Addr}{n:Nat}(x:SqI k h j l n):∃o,h.get? j=some o/\o.cls=.type (SqN k)/\o.data=.fields #[.ref l,.int n 0]:=by
 cases k<;>exact x
theorem SqI.of{k:Bool}{h:Heap}{j l:Addr}{n:Nat}(x:∃o,h.get? j=some o/\o.cls=.type (SqN k)/\o.data=.fields #[.ref l,.int n 0]):SqI k h j l n:=by
 cases k<;>exact x
section
variable{P:Program}{w:World}{A:Around}{E:Value->Shared->Prop}{s:Shared}
theorem Wp{j l:Addr}{n:Nat}{xs:Array Value}{x:Value}{Q:Value->Shared->Prop}(hj:s.heap.IsTupleIter j l n)(hl:s.heap.IsTuple l xs)(hx:xs[n]?=some x)
  (q:∀h',h'.IsTupleIter j l (n+1)->Heap.SameBut j s.heap h'->Q x { s with heap:=h' }):wpAny (model P w) A (uL (.ref j)) Q E s:=by
 have⟨oj,hoj,cj,dj⟩:=hj
 have⟨ol,hol,_,m,dl⟩:=hl
 unfold uL
 refine wpAny_bind (wpAny_callSpecial?_slot hj.typeIs F.slot_tuple_iterator_next (wpAny_call_entry F.slot_tuple_iterator_next hj.typeIs F.entry_tuple_iterator_next ?_ (F.args_tuple_iterator_next_1 (.ref j))))
 refine wpAny_bind (m:=field (.ref j) 0) (wpAny_field hoj dj (x:=.ref l) rfl ?_)
 have nn:¬ ((Value.ref l == Value.none)=true):=uA
 show wpAny _ _ (ite ((Value.ref l == Value.none)=true) _ _) _ _ _
 rw[if_neg nn]
 refine wpAny_bind (m:=field (.ref j) 1) (wpAny_field hoj dj (x:=.int n 0) rfl ?_)
 refine wpAny_bind (m:=seqItems? (.ref l)) (wpAny_seqItems hol dl ?_)
 simp only[Ua,hx]
 refine wpAny_bind (wpAny_setField hoj dj (by simp) (wpAny_pure ⟨x,rfl,wpAny_pure (q _ ⟨_,Heap.get?_update_self _ hoj (Obj.isFreed_of_fields (Obj.data_mapFields dj _)),(Obj.cls_mapFields ..).trans cj,?_⟩ (Heap.SameBut.update ..))⟩))
 rw[Obj.data_mapFields dj]
 simp[rawInt]
theorem JD{j l:Addr}{n:Nat}{xs:Array Value}{Q:Value->Shared->Prop}(hA:A.handled=none)(hj:s.heap.IsTupleIter j l n)(hl:s.heap.IsTuple l xs)(hx:xs[n]?=none)
  (q:∀h' e,Heap.ExtBut j s.heap h'->(∃o,h'.get? e=some o/\o.cls=.type "StopIteration")->E (.ref e) { s with heap:=h' }):wpAny (model P w) A (uL (.ref j)) Q E s:=by
 have⟨oj,hoj,cj,dj⟩:=hj
 have⟨ol,hol,_,m,dl⟩:=hl
 unfold uL
 refine wpAny_bind (wpAny_callSpecial?_slot hj.typeIs F.slot_tuple_iterator_next (wpAny_call_entry F.slot_tuple_iterator_next hj.typeIs F.entry_tuple_iterator_next ?_ (F.args_tuple_iterator_next_1 (.ref j))))
 refine wpAny_bind (m:=field (.ref j) 0) (wpAny_field hoj dj (x:=.ref l) rfl ?_)
 have nn:¬ ((Value.ref l == Value.none)=true):=uA
 show wpAny _ _ (ite ((Value.ref l == Value.none)=true) _ _) _ _ _
 rw[if_neg nn]
 refine wpAny_bind (m:=field (.ref j) 1) (wpAny_field hoj dj (x:=.int n 0) rfl ?_)
 refine wpAny_bind (m:=seqItems? (.ref l)) (wpAny_seqItems hol dl ?_)
 simp only[Ua,hx]
 refine wpAny_bind (wpAny_rule (wpAny_bind (wpAny_setField hoj dj (by simp) ?_)))
 refine wpAny_bind (m:=newExc (.type "StopIteration") []) ?_
 unfold newExc newTuple
 refine wpAny_bind (wpAny_newObj_type (wpAny_bind (m:=firstArgMember _ _) (wpAny_of_eq (a:=Value.none) (by first|rfl|(simp only[firstArgMember];rfl)) (wpAny_newObj_type ?_ (by size_fits)))) (by size_fits))
 unfold raiseNew
 refine wpAny_bind (wpAny_handled ?_)
 rw[show A.in1.handled=none from hA]
 exact wpAny_bind (wpAny_pure (wpAny_throw (q _ _ (((Heap.SameBut.update ..).extBut.push _).push _) ⟨_,ux _ rfl,rfl⟩)))
theorem wR{k:Bool}{j l:Addr}{n:Nat}{xs:Array Value}{x:Value}{Q:Value->Shared->Prop}(hj:SqI k s.heap j l n)(hl:Sq k s.heap l xs)(hx:xs[n]?=some x)
  (q:∀h',SqI k h' j l (n+1)->Heap.SameBut j s.heap h'->Q x { s with heap:=h' }):wpAny (model P w) A (uL (.ref j)) Q E s:=by
 cases k with
 |true=>exact wpAny_nextOf_list_item hj hl hx q
 |false=>exact Wp hj hl hx q
theorem jn{k:Bool}{j l:Addr}{n:Nat}{xs:Array Value}{Q:Value->Shared->Prop}(hA:A.handled=none)(hj:SqI k s.heap j l n)(hl:Sq k s.heap l xs)(hx:xs[n]?=none)
  (q:∀h' e,Heap.ExtBut j s.heap h'->(∃o,h'.get? e=some o/\o.cls=.type "StopIteration")->E (.ref e) { s with heap:=h' }):wpAny (model P w) A (uL (.ref j)) Q E s:=by
 cases k with
 |true=>exact wpAny_nextOf_list_end hA hj hl hx q
 |false=>exact JD hA hj hl hx q
theorem YF{k:Bool}{l:Addr}{xs:Array Value}{Q:Value->Shared->Prop}(hl:Sq k s.heap l xs)(q:Q (.ref s.heap.objs.size) { s with heap:=s.heap.push { cls:=.type (SqN k),data:=.fields #[.ref l,.int 0 0] } }):
  wpAny (model P w) A (pyIter (.ref l)) Q E s:=by
 cases k with
 |true=>exact wpAny_pyIter_list hl q
 |false=>exact wpAny_pyIter_tuple hl q
end
abbrev za(k:Bool)(h:Heap)(l:Addr):Heap:=h.push { cls:=.type (SqN k),data:=.fields #[.ref l,.int 0 0] }
abbrev zb(k m:Bool)(h:Heap)(l r:Addr):Heap:=za m (za k h l) r
abbrev zc(k m:Bool)(h:Heap)(l r:Addr):Heap:=(zb k m h l r).push { cls:=.type "tuple",data:=.seq #[.ref h.objs.size,.ref (za k h l).objs.size] }
abbrev zd(k m:Bool)(h:Heap)(l r:Addr):Heap:=(zc k m h l r).push { cls:=.type "tuple",data:=.seq #[.none,.none] }
abbrev ze(k m:Bool)(h:Heap)(l r:Addr):Heap:=(zd k m h l r).push { cls:=.type "zip",data:=.fields #[.none,.bool false,.bool false,.ref (zb k m h l r).objs.size,.ref (zc k m h l r).objs.size] }
theorem Wq(k m:Bool)(l r:Addr)(xs ys:Array Value):Meets (Builtin.«zip.__new__» ⟨[.type "zip",.ref l,.ref r],[]⟩)
  (fun _ R s=>Sq k s.heap l xs/\Sq m s.heap r ys/\R (.ok (.ret (.ref (zd k m s.heap l r).objs.size))) { s with heap:=ze k m s.heap l r }) :=
 .of_wp fun prog w A R s h=>by
  obtain⟨hp,g,d,tk,os⟩:=s
  obtain⟨h1,h2,h⟩:=h
  have hs:=sub_zip
  have q1:Sq k (Shared.heap ⟨hp,g,d,tk,os⟩) l xs:=h1
  have q2:Sq m (Shared.heap ⟨za k hp l,g,d,tk,os⟩) r ys:=h2.at fun o e=>ue _ e
  wp_walk using YF q1,YF q2
  exact⟨_,rfl,h⟩
structure ZS(k m:Bool)(h:Heap)(B l r:Nat)(n:Nat)(f g:Value):Prop where
 z:h.get? (B+4)=some { cls:=.type "zip",data:=.fields #[f,g,.bool false,.ref (B+2),.ref (B+3)] }
 ti:IsPair h (B+2) (.ref B) (.ref (B+1))
 to:∃a b,IsPair h (B+3) a b
 i:SqI k h B l n
 j:SqI m h (B+1) r n
theorem ZS.at{k m:Bool}{h h':Heap}{B l r:Nat}{n:Nat}{f g:Value}(x:ZS k m h B l r n f g)(e:∀(b:Nat) o,B<=b->b<=B+4->h.get? b=some o->h'.get? b=some o):ZS k m h' B l r n f g where
 z:=e _ _ (by lia) (by lia) x.z
 ti:=e _ _ (by lia) (by lia) x.ti
 to:=let ⟨a,b,y⟩:=x.to;⟨a,b,e _ _ (by lia) (by lia) y⟩
 i:=x.i.at fun o=>e _ o (by lia) (by lia)
 j:=x.j.at fun o=>e _ o (by lia) (by lia)
def KeptZ(B:Nat)(h h':Heap):Prop:=∀(c:Nat) o,(c < B\/B+4 < c)->h.get? c=some o->h'.get? c=some o
section
variable{P:Program}{w:World}{A:Around}{E:Value->Shared->Prop}{s:Shared}{k m:Bool}{B l r:Nat}{n:Nat}{xs ys:Array Value}{x y f g:Value}
theorem Wr{Q:Value->Shared->Prop}(hl:Sq k s.heap l xs)(hr:Sq m s.heap r ys)
  (q:∀h',ZS k m h' s.heap.objs.size l r 0 .none (.bool false)->h'.objs.size=s.heap.objs.size+5->(∀c o,s.heap.get? c=some o->h'.get? c=some o)->Q (.ref (s.heap.objs.size+4)) { s with heap:=h' }) :
  wpAny (model P w) A (call (.type "zip") [.ref l,.ref r]) Q E s:=by
 apply callType_new F.called_zip (by decide) (F.typeCall_zip_2 _ _) (F.newCall_zip_2 _ _) (fun obj=>F.args_object_init_3 obj _ _) F.entry_zip_new (Wq k m l r xs ys)
 refine⟨hl,hr,?_⟩
 have s1:(za k s.heap l).objs.size=s.heap.objs.size+1:=Uu ..
 have s2:(zb k m s.heap l r).objs.size=s.heap.objs.size+2:=by rw[Uu,s1]
 have s3:(zc k m s.heap l r).objs.size=s.heap.objs.size+3:=by rw[Uu,s2]
 have s4:(zd k m s.heap l r).objs.size=s.heap.objs.size+4:=by rw[Uu,s3]
 have s5:(ze k m s.heap l r).objs.size=s.heap.objs.size+5:=by rw[Uu,s4]
 have up:∀{c o},(zd k m s.heap l r).get? c=some o->(ze k m s.heap l r).get? c=some o:=fun e=>ue _ e
 have p5:(ze k m s.heap l r).get? (zd k m s.heap l r).objs.size=some _:=ux _ rfl
 have p4:(ze k m s.heap l r).get? (zc k m s.heap l r).objs.size=some _:=up (ux _ rfl)
 have p3:(ze k m s.heap l r).get? (zb k m s.heap l r).objs.size=some _:=up (ue _ (ux _ rfl))
 have p2:(ze k m s.heap l r).get? (za k s.heap l).objs.size=some _:=up (ue _ (ue _ (ux _ rfl)))
 have p1:(ze k m s.heap l r).get? s.heap.objs.size=some _:=up (ue _ (ue _ (ue _ (ux _ rfl))))
 rw[s4,s2,s3]at p5
 rw[s3]at p4
 rw[s2,s1]at p3
 rw[s1]at p2
 show _/\_
 rw[s4]
 exact⟨⟨_,p5,rfl⟩,q _ ⟨p5,p3,⟨_,_,p4⟩,.of ⟨_,p1,rfl,rfl⟩,.of ⟨_,p2,rfl,rfl⟩⟩ s5 fun c o e=>up (ue _ (ue _ (ue _ (ue _ e))))⟩
theorem Ws{Q:Value->Shared->Prop}(Z:ZS k m s.heap B l r n .none g)(hl:Sq k s.heap l xs)(hr:Sq m s.heap r ys)(ll:l < B)(rl:r < B)(hx:xs[n]?=some x)(hy:ys[n]?=some y)
  (q:∀h',ZS k m h' B l r (n+1) (rawInt s.heap.objs.size) (.bool false)->IsPair h' s.heap.objs.size x y->h'.objs.size=s.heap.objs.size+1->KeptZ B s.heap h'->Q (.ref s.heap.objs.size) { s with heap:=h' }) :
  wpAny (model P w) A (Builtin.«zip.__next__» ⟨[.ref (B+4)],[]⟩) (fun fin s'=>∃v,fin=.done (.ret v)/\Q v s') E s:=by
 obtain⟨a,b,hto⟩:=Z.to
 refine wpAny_bind (m:=field (.ref (B+4)) 2) (wpAny_field Z.z rfl (x:=.bool false) rfl ?_)
 refine wpAny_bind (m:=field (.ref (B+4)) 3) (wpAny_field Z.z rfl (x:=.ref (B+2)) rfl (wpAny_bind (wpAny_seqItems Z.ti rfl ?_)))
 refine wpAny_bind (m:=uR (.ref (B+4))) ?_
 unfold uR
 refine wpAny_bind (wpAny_field Z.z rfl (x:=.none) rfl (wpAny_pure ?_))
 rw[if_pos rfl]
 refine wpAny_bind (wpAny_rule (wpAny_bind (wpAny_field Z.z rfl (x:=.ref (B+3)) rfl (wpAny_bind (wpAny_setField_rec Z.z (by simp) fun h1 z1 u1=>wpAny_bind ?_)))))
 replace z1:h1.get? (B+4)=some { cls:=.type "zip",data:=.fields #[.ellipsis,g,.bool false,.ref (B+2),.ref (B+3)] }:=z1
 have k1:∀(c:Nat) o,c≠B+4->s.heap.get? c=some o->h1.get? c=some o:=fun c o n e=>(u1.2 c n).trans e
 simp only[List.zipIdx_cons,List.zipIdx_nil,List.forIn_cons,List.forIn_nil]
 refine wpAny_bind (wpAny_bind (wpAny_onRaise (wpAny_bind (m:=uL (.ref B)) ?_)))
 refine wR (Z.i.at fun o=>k1 _ o (by lia)) (hl.at fun o=>k1 _ o (by lia)) hx fun h2 i2 u2=>wpAny_pure ?_
 have k2:∀(c:Nat) o,c≠B->h1.get? c=some o->h2.get? c=some o:=fun c o n e=>(u2.2 c n).trans e
 have to2:IsPair h2 (B+3) a b:=k2 _ _ (by lia) (k1 _ _ (by lia) hto)
 refine wpAny_bind (wpAny_seqItems to2 rfl (wpAny_bind (wpAny_updateSeq_pair to2 fun h3 to3 u3=>?_)))
 replace to3:IsPair h3 (B+3) x b:=to3
 have k3:∀(c:Nat) o,c≠B+3->h2.get? c=some o->h3.get? c=some o:=fun c o n e=>(u3.2 c n).trans e
 refine wpAny_bind (wpAny_letGo (wpAny_pure (wpAny_bind (wpAny_bind (wpAny_onRaise (wpAny_bind (m:=uL (.ref (B+1))) ?_))))))
 refine wR (Z.j.at fun o e=>k3 _ o (by lia) (k2 _ o (by lia) (k1 _ o (by lia) e))) (hr.at fun o e=>k3 _ o (by lia) (k2 _ o (by lia) (k1 _ o (by lia) e))) hy fun h4 i4 u4=>wpAny_pure ?_
 have k4:∀(c:Nat) o,c≠B+1->h3.get? c=some o->h4.get? c=some o:=fun c o n e=>(u4.2 c n).trans e
 have to4:IsPair h4 (B+3) x b:=k4 _ _ (by lia) to3
 refine wpAny_bind (wpAny_seqItems to4 rfl (wpAny_bind (wpAny_updateSeq_pair to4 fun h5 to5 u5=>?_)))
 replace to5:IsPair h5 (B+3) x y:=to5
 have k5:∀(c:Nat) o,c≠B+3->h4.get? c=some o->h5.get? c=some o:=fun c o n e=>(u5.2 c n).trans e
 refine wpAny_bind (wpAny_letGo (wpAny_pure (wpAny_pure (wpAny_bind (wpAny_seqItems to5 rfl (wpAny_bind (wpAny_newTuple ?_)))))))
 have sz:h5.objs.size=s.heap.objs.size:=by rw[u5.1,u4.1,u3.1,u2.1,u1.1]
 have z5:h5.get? (B+4)=some { cls:=.type "zip",data:=.fields #[.ellipsis,g,.bool false,.ref (B+2),.ref (B+3)] }:=k5 _ _ (by lia) (k4 _ _ (by lia) (k3 _ _ (by lia) (k2 _ _ (by lia) z1)))
 have lt4:B+4 < h5.objs.size:=uy z5
 refine wpAny_bind (m:=UT (.ref (B+4)) (.ref h5.objs.size)) ?_
 unfold UT
 refine wpAny_bind (wpAny_setField_rec (ue { cls:=.type "tuple",data:=.seq #[x,y] } z5) (by simp) fun h7 z7 u7=>?_)
 refine wpAny_setField_rec z7 (by simp) fun h8 z8 u8=>wpAny_pure ⟨.ref h5.objs.size,rfl,?_⟩
 have k8:∀(c:Nat) o,c≠B+4->h5.get? c=some o->h8.get? c=some o:=fun c o n e=>(u8.2 c n).trans ((u7.2 c n).trans (ue _ e))
 have p8:IsPair h8 h5.objs.size x y:=(u8.2 _ (Nat.ne_of_gt lt4)).trans ((u7.2 _ (Nat.ne_of_gt lt4)).trans (ux _ rfl))
 have s8:h8.objs.size=h5.objs.size+1:=by rw[u8.1,u7.1,Uu]
 rw[sz]at p8 s8 ⊢
 refine q h8 ⟨?_,k8 _ _ (by lia) (k5 _ _ (by lia) (k4 _ _ (by lia) (k3 _ _ (by lia) (k2 _ _ (by lia) (k1 _ _ (by lia) Z.ti))))),⟨x,y,k8 _ _ (by lia) to5⟩,
  i2.at fun o e=>k8 _ _ (by lia) (k5 _ _ (by lia) (k4 _ _ (by lia) (k3 _ _ (by lia) e))),i4.at fun o e=>k8 _ _ (by lia) (k5 _ _ (by lia) e)⟩ p8 s8
  fun c o hc e=>k8 _ _ (by lia) (k5 _ _ (by lia) (k4 _ _ (by lia) (k3 _ _ (by lia) (k2 _ _ (by lia) (k1 _ _ (by lia) e)))))
 rw[<- sz]
 exact z8
theorem Wt{a:Addr}{o:Obj}{Q:Option Obj->Shared->Prop}(ho:s.heap.get? a=some o)(h:Q (some o) s):wpAny (model P w) A (loadIfAlive a) Q E s:=fun Γ p _=>by
 unfold loadIfAlive
 rw[Sem.wp_loadIfAlive,ho]
 simpa using h
theorem Wu{Q:Bool->Shared->Prop}{T:Nat}{ot:Obj}{c:Bool}(hz:s.heap.get? (B+4)=some { cls:=.type "zip",data:=.fields #[rawInt T,.bool c,.bool false,.ref (B+2),.ref (B+3)] })(hT:s.heap.get? T=some ot)
  (q:∀h1,h1.get? (B+4)=some { cls:=.type "zip",data:=.fields #[rawInt T,.bool true,.bool false,.ref (B+2),.ref (B+3)] }->h1.objs.size=s.heap.objs.size->(∀(d:Nat) o,d≠B+4->s.heap.get? d=some o->h1.get? d=some o)->Q false { s with heap:=h1 }) :
  wpAny (model P w) A (uR (.ref (B+4))) Q E s:=by
 unfold uR
 refine wpAny_bind (wpAny_field hz rfl (x:=rawInt T) rfl ?_)
 refine wpAny_bind (m:=loadIfAlive ((T:Int).toNat)) (Wt (o:=ot) (by rw[Ua];exact hT) ?_)
 rw[if_neg (by simp)]
 refine wpAny_bind (wpAny_field hz rfl (x:=.bool c) rfl ?_)
 cases c with
 |true =>
  rw[if_neg (by decide)]
  exact wpAny_pure (q _ hz rfl fun d o _ e=>e)
 |false =>
  rw[if_pos (by decide)]
  exact wpAny_bind (wpAny_setField_rec hz (by simp) fun h1 z1 u1=>wpAny_pure (q h1 z1 u1.1 fun d o n e=>(u1.2 d n).trans e))
theorem JE{Q:PySem.Fin->Shared->Prop}(hA:A.handled=none)(Z:ZS k m s.heap B l r n .none g)(hl:Sq k s.heap l xs)(hr:Sq m s.heap r ys)(ll:l < B)(rl:r < B)(hx:xs[n]?=none\/ys[n]?=none)
  (q:∀h' e,KeptZ B s.heap h'->(∃o,h'.get? e=some o/\o.cls=.type "StopIteration")->E (.ref e) { s with heap:=h' }):wpAny (model P w) A (Builtin.«zip.__next__» ⟨[.ref (B+4)],[]⟩) Q E s:=by
 obtain⟨a,b,hto⟩:=Z.to
 refine wpAny_bind (m:=field (.ref (B+4)) 2) (wpAny_field Z.z rfl (x:=.bool false) rfl ?_)
 refine wpAny_bind (m:=field (.ref (B+4)) 3) (wpAny_field Z.z rfl (x:=.ref (B+2)) rfl (wpAny_bind (wpAny_seqItems Z.ti rfl ?_)))
 refine wpAny_bind (m:=uR (.ref (B+4))) ?_
 unfold uR
 refine wpAny_bind (wpAny_field Z.z rfl (x:=.none) rfl (wpAny_pure ?_))
 rw[if_pos rfl]
 refine wpAny_bind (wpAny_rule (wpAny_bind (wpAny_field Z.z rfl (x:=.ref (B+3)) rfl (wpAny_bind (wpAny_setField_rec Z.z (by simp) fun h1 z1 u1=>wpAny_bind ?_)))))
 replace z1:h1.get? (B+4)=some { cls:=.type "zip",data:=.fields #[.ellipsis,g,.bool false,.ref (B+2),.ref (B+3)] }:=z1
 have k1:∀(c:Nat) o,c≠B+4->s.heap.get? c=some o->h1.get? c=some o:=fun c o n e=>(u1.2 c n).trans e
 have nz:∀{h:Heap}{e:Nat}{v:Value}{o:Obj},h.get? (B+4)=some { cls:=.type "zip",data:=.fields #[v,g,.bool false,.ref (B+2),.ref (B+3)] }->h.get? e=some o->o.cls=.type "StopIteration"->e≠B+4:=fun h1 h2 h3 e=>by
  rw[e,h1]at h2
  cases h2
  simp at h3
 simp only[List.zipIdx_cons,List.zipIdx_nil,List.forIn_cons,List.forIn_nil]
 refine wpAny_bind (wpAny_bind (wpAny_onRaise (wpAny_bind (m:=uL (.ref B)) ?_)))
 cases e1:xs[n]? with
 |none =>
  refine jn hA (Z.i.at fun o=>k1 _ o (by lia)) (hl.at fun o=>k1 _ o (by lia)) e1 fun h2 e u2 he=>?_
  obtain⟨oe,he,ce⟩:=he
  have k2:∀(c:Nat) o,c≠B->h1.get? c=some o->h2.get? c=some o:=fun c o n e=>u2 c o n e
  have z2:=k2 _ _ (show B+4≠B by lia) z1
  refine wpAny_setField_rec z2 (by simp) fun h3 z3 u3=>q h3 e (fun c o hc x=>(u3.2 c (show(c:Nat)≠B+4 by lia)).trans (k2 _ _ (by lia) (k1 _ _ (by lia) x))) ⟨oe,(u3.2 e (nz z2 he ce)).trans he,ce⟩
 |some x =>
  have hy:ys[n]?=none:=hx.resolve_left (by rw[e1];simp)
  refine wR (Z.i.at fun o=>k1 _ o (by lia)) (hl.at fun o=>k1 _ o (by lia)) e1 fun h2 i2 u2=>wpAny_pure ?_
  have k2:∀(c:Nat) o,c≠B->h1.get? c=some o->h2.get? c=some o:=fun c o n e=>(u2.2 c n).trans e
  have to2:IsPair h2 (B+3) a b:=k2 _ _ (by lia) (k1 _ _ (by lia) hto)
  refine wpAny_bind (wpAny_seqItems to2 rfl (wpAny_bind (wpAny_updateSeq_pair to2 fun h3 to3 u3=>?_)))
  have k3:∀(c:Nat) o,c≠B+3->h2.get? c=some o->h3.get? c=some o:=fun c o n e=>(u3.2 c n).trans e
  refine wpAny_bind (wpAny_letGo (wpAny_pure (wpAny_bind (wpAny_bind (wpAny_onRaise (wpAny_bind (m:=uL (.ref (B+1))) ?_))))))
  refine jn hA (Z.j.at fun o e=>k3 _ o (by lia) (k2 _ o (by lia) (k1 _ o (by lia) e))) (hr.at fun o e=>k3 _ o (by lia) (k2 _ o (by lia) (k1 _ o (by lia) e))) hy fun h4 e u4 he=>?_
  obtain⟨oe,he,ce⟩:=he
  have k4:∀(c:Nat) o,c≠B+1->h3.get? c=some o->h4.get? c=some o:=fun c o n e=>u4 c o n e
  have z4:=k4 _ _ (show B+4≠B+1 by lia) (k3 _ _ (by lia) (k2 _ _ (by lia) z1))
  refine wpAny_setField_rec z4 (by simp) fun h5 z5 u5=>q h5 e (fun c o hc x=>(u5.2 c (show(c:Nat)≠B+4 by lia)).trans (k4 _ _ (by lia) (k3 _ _ (by lia) (k2 _ _ (by lia) (k1 _ _ (by lia) x))))) ⟨oe,(u5.2 e (nz z4 he ce)).trans he,ce⟩
theorem jo{Q:PySem.Fin->Shared->Prop}{T:Nat}{ot:Obj}{c:Bool}(hA:A.handled=none)(Z:ZS k m s.heap B l r n (rawInt T) (.bool c))(hT:s.heap.get? T=some ot)(hl:Sq k s.heap l xs)(hr:Sq m s.heap r ys)(ll:l < B)(rl:r < B)(hx:xs[n]?=none\/ys[n]?=none)
  (q:∀h' e,KeptZ B s.heap h'->(∃o,h'.get? e=some o/\o.cls=.type "StopIteration")->E (.ref e) { s with heap:=h' }):wpAny (model P w) A (Builtin.«zip.__next__» ⟨[.ref (B+4)],[]⟩) Q E s:=by
 refine wpAny_bind (m:=field (.ref (B+4)) 2) (wpAny_field Z.z rfl (x:=.bool false) rfl ?_)
 refine wpAny_bind (m:=field (.ref (B+4)) 3) (wpAny_field Z.z rfl (x:=.ref (B+2)) rfl (wpAny_bind (wpAny_seqItems Z.ti rfl ?_)))
 refine wpAny_bind (m:=uR (.ref (B+4))) (Wu Z.z hT fun h1 z1 s1 k1=>?_)
 rw[if_neg uA]
 refine wpAny_bind ?_
 rw[<- Array.forIn_toList]
 simp only[List.forIn_cons,List.forIn_nil]
 refine wpAny_bind (wpAny_bind (wpAny_holding (wpAny_bind (m:=uL (.ref B)) ?_)))
 cases e1:xs[n]? with
 |none=>exact jn hA (Z.i.at fun o=>k1 _ o (by lia)) (hl.at fun o=>k1 _ o (by lia)) e1 fun h2 e u2 he=>q h2 e (fun c o hc x=>u2 _ _ (show(c:Nat)≠B by lia) (k1 _ _ (by lia) x)) he
 |some x =>
  have hy:ys[n]?=none:=hx.resolve_left (by rw[e1];simp)
  refine wR (Z.i.at fun o=>k1 _ o (by lia)) (hl.at fun o=>k1 _ o (by lia)) e1 fun h2 i2 u2=>wpAny_pure (wpAny_pure ?_)
  have k2:∀(c:Nat) o,c≠B->h1.get? c=some o->h2.get? c=some o:=fun c o n e=>(u2.2 c n).trans e
  refine wpAny_bind (wpAny_bind (wpAny_holding (wpAny_bind (m:=uL (.ref (B+1))) ?_)))
  exact jn hA (Z.j.at fun o e=>k2 _ o (by lia) (k1 _ o (by lia) e)) (hr.at fun o e=>k2 _ o (by lia) (k1 _ o (by lia) e)) hy fun h4 e u4 he=>q h4 e (fun c o hc x=>u4 _ _ (show(c:Nat)≠B+1 by lia) (k2 _ _ (by lia) (k1 _ _ (by lia) x))) he
def ZF(B:Nat)(h:Heap)(f g:Value):Prop:=f=.none\/∃(T:Nat)(c:Bool)(o:Obj),f=rawInt T/\g=.bool c/\h.get? T=some o/\B+5 < T
theorem Wv{Q:Option Value->Shared->Prop}(hA:A.handled=none)(Z:ZS k m s.heap B l r n f g)(hf:ZF B s.heap f g)(hl:Sq k s.heap l xs)(hr:Sq m s.heap r ys)(ll:l < B)(rl:r < B)(hx:xs[n]?=none\/ys[n]?=none)
  (q:∀h',KeptZ B s.heap h'->Q none { s with heap:=h' }):wpAny (model P w) A (pyNext (.ref (B+4))) Q E s:=by
 have ty:s.TypeIs (.ref (B+4)) "zip":=⟨_,Z.z,rfl⟩
 unfold pyNext
 refine wpAny_bind (wpAny_attempt (wpAny_callSpecial?_slot ty F.slot_zip_next (wpAny_call_entry F.slot_zip_next ty F.entry_zip_next ?_ (F.args_zip_next_1 (.ref (B+4))))))
 have fin:∀h' e,KeptZ B s.heap h'->(∃o,h'.get? e=some o/\o.cls=.type "StopIteration")->wpAny (model P w) A (do
   if <- isInstance (.ref e) (.type "StopIteration")then pure none else throw (.ref e)) Q E { s with heap:=h' }:=by
  intro h' e kz ⟨o,ho,hc⟩
  exact wpAny_bind (wpAny_isInstance (T:="StopIteration") (b:=true) ⟨o,ho,hc⟩ isSubtype_stop (wpAny_pure (q _ kz)))
 rcases hf with rfl|⟨T,c,o,rfl,rfl,hT,lT⟩
 ·exact JE hA Z hl hr ll rl hx fun h' e kz he=>fin h' e kz he
 ·exact jo hA Z hT hl hr ll rl hx fun h' e kz he=>fin h' e kz he
end
section
variable{P:Program}{w:World}{A:Around}{R:Result->Shared->Prop}{h0:Heap}{k m:Bool}{B l r N:Nat}{xs ys:Array Value}{res:Value}
end
section
variable{P:Program}{w:World}{A:Around}{E:Value->Shared->Prop}{s:Shared}{k m:Bool}{B l r N:Nat}{xs ys:Array Value}
end
section
variable{X:Cx}{a b:Expr}{ta:TA}{p1 p2 pos1 pos2:Pos}
end
def SqK(k:Bool)(K:uc)(H:Hp)(a:Addr)(xs:List V):Prop:=match k with
 |true=>SqL K H a xs
 |false=>SqT K H a xs
theorem Inv.sqk{X:Cx}{pins:List (Addr×Obj)}{σ:St}{H:Hp}{s:Shared}{k:Bool}{a:Addr}{xs:List V}(I:Inv X pins σ H s)(h:SqK k X.K H a xs):∃its:List Value,Vals xs its/\Sq k s.heap a its.toArray/\xs.length<=sizeLine/\(a:Nat) < s.heap.objs.size:=by
 cases k with
 |true =>
  obtain⟨its,r,p,z⟩:=I.list h
  have⟨o,n,e,_⟩:=p
  exact⟨its,r,p.isList,z,uy e⟩
 |false =>
  obtain⟨its,r,p,z⟩:=I.tuple h
  have⟨o,e,_⟩:=p
  exact⟨its,r,p,z,uy e⟩
theorem Inv.sqk_inj{X:Cx}{pins:List (Addr×Obj)}{σ:St}{H:Hp}{s:Shared}{k:Bool}{a:Addr}{xs ys:List V}(I:Inv X pins σ H s)(h:SqK k X.K H a xs)(h':SqK k X.K H a ys):xs=ys:=by
 cases k with
 |true=>exact I.list_inj h h'
 |false=>exact I.tuple_inj h h'
def Itz(K:uc)(k m:Bool)(a b:Addr):It :=
 ⟨fun i H=>∃xs ys x y,SqK k K H a xs/\SqK m K H b ys/\xs[i]?=some x/\ys[i]?=some y,
   fun i H v H'=>∃T x y,v=.ref T/\H T=none/\H'=upd H T (.tup [x,y])/\(∀xs,SqK k K H a xs->xs[i]?=some x)/\∀ys,SqK m K H b ys->ys[i]?=some y,
   fun i H=>∃xs ys,SqK k K H a xs/\SqK m K H b ys/\(xs.length<=i\/ys.length<=i)⟩
theorem KeptZ.of{B:Nat}{h h':Heap}(z:KeptZ B h h'):∀(b:Nat) o,b∉[B,B+1,B+2,B+3,B+4]->h.get? b=some o->h'.get? b=some o:=fun b o n e=>z b o (by simp only[um,Uc,or_false,not_or]at n;lia) e
theorem YG{k m:Bool}{h:Heap}{B l r n:Nat}{f g:Value}(Z:ZS k m h B l r n f g):∀b∈[B,B+1,B+2,B+3,B+4],∃o,h.get? b=some o/\∀v,o.data≠.cell v:=by
 intro b hb
 simp only[um,Uc,or_false]at hb
 rcases hb with rfl|rfl|rfl|rfl|rfl
 ·obtain⟨o,e,_,d⟩:=Z.i.ex
  exact⟨o,e,fun v z=>by rw[d]at z;cases z⟩
 ·obtain⟨o,e,_,d⟩:=Z.j.ex
  exact⟨o,e,fun v z=>by rw[d]at z;cases z⟩
 ·exact⟨_,Z.ti,fun v z=>by cases z⟩
 ·obtain⟨x,y,e⟩:=Z.to
  exact⟨_,e,fun v z=>by cases z⟩
 ·exact⟨_,Z.z,fun v z=>by cases z⟩
theorem Ww{P:Program}{w:World}{K:uc}{elts:List Expr}{n:Nat}{pos:Pos}{k m:Bool}{a b:Addr}{B:Nat}(la:(a:Nat) < B)(lb:(b:Nat) < B):
  Turn P w K (.Tuple elts n pos) (Itz K k m a b) [B,B+1,B+2,B+3,B+4] (B+4) (fun i h=>ZS k m h B a b i .none (.bool false)) where
 mem:=by simp
 obj:=fun i h st=>YG st
 keep:=fun i h h' st kp=>st.at fun c o h1 h2 e=>kp c (by
  have:c=B\/c=B+1\/c=B+2\/c=B+3\/c=B+4:=by lia
  simpa using this) o e
 item:=by
  intro X hP hw hK hc i pins s σ H E I hf st hg
  subst hP hw hK
  obtain⟨xs,ys,x,y,h1,h2,hx,hy⟩:=hg
  obtain⟨i1,v1,q1,z1,l1⟩:=I.sqk h1
  obtain⟨i2,v2,q2,z2,l2⟩:=I.sqk h2
  obtain⟨u,eu,ru⟩:=v1.get hx
  obtain⟨v,ev,rv⟩:=v2.get hy
  have ty:s.TypeIs (.ref (B+4)) "zip":=⟨_,st.z,rfl⟩
  unfold pyNext
  refine wpAny_bind (wpAny_attempt (wpAny_callSpecial?_slot ty F.slot_zip_next (wpAny_call_entry F.slot_zip_next ty F.entry_zip_next ?_ (F.args_zip_next_1 (.ref (B+4))))))
  refine Ws st q1 q2 la lb (by simpa using eu) (by simpa using ev) fun h' z p sz kz=>wpAny_pure ⟨_,rfl,?_⟩
  have new:ObjOk X.prog X.w (upd H s.heap.objs.size (.tup [x,y])) h' s.heap.objs.size (.tup [x,y]):=⟨sN2,[u,v],.cons ru (.cons rv .nil),⟨_,p,rfl,rfl,_,rfl⟩⟩
  have I1:Inv X pins σ (upd H s.heap.objs.size (.tup [x,y])) { s with heap:=h' }:=I.turnsLaid (t':=s.toks) (ch:=[B,B+1,B+2,B+3,B+4]) kz.of hf (ud _) new
  have hn:∀c∈[B,B+1,B+2,B+3,B+4],upd H s.heap.objs.size (.tup [x,y]) c=none:=fun c hc=>by
   obtain⟨o,e,_⟩:=YG st c hc
   rw[zi (uK (uy e))]
   exact(hf c hc).1
  have hf1:∀c∈[B,B+1,B+2,B+3,B+4],FpOk X pins (upd H s.heap.objs.size (.tup [x,y])) c:=fun c hc=>⟨hn c hc,(hf c hc).2⟩
  refine wpAny_letOwnedTupleGo_zip z.z fun h3 z2 u2=>?_
  have I2:Inv X pins σ (upd H s.heap.objs.size (.tup [x,y])) { s with heap:=h3 }:=Inv.turns (s:={ s with heap:=h' }) (t':=s.toks) (ch:=[B,B+1,B+2,B+3,B+4]) I1 (fun c o hc e=>(u2.2 c fun z=>hc (by simp[z])).trans e) hf1
  refine⟨.ref s.heap.objs.size,_,I2,rfl,⟨_,x,y,rfl,I.fresh,rfl,fun zs hz=>by rw[I.sqk_inj hz h1];exact hx,fun zs hz=>by rw[I.sqk_inj hz h2];exact hy⟩,?_,hn⟩
  have up:∀(c:Nat) o,c≠B+4->h'.get? c=some o->h3.get? c=some o:=fun c o n e=>(u2.2 c n).trans e
  exact⟨z2,up _ _ (by lia) z.ti,let ⟨c,d,e⟩:=z.to;⟨c,d,up _ _ (by lia) e⟩,z.i.at fun o e=>up _ _ (by lia) e,z.j.at fun o e=>up _ _ (by lia) e⟩
 done:=by
  intro X hP hw hK hc i pins s σ H E I hf st hg
  subst hP hw hK
  obtain⟨xs,ys,h1,h2,hl⟩:=hg
  obtain⟨i1,v1,q1,z1,l1⟩:=I.sqk h1
  obtain⟨i2,v2,q2,z2,l2⟩:=I.sqk h2
  have n1:=v1.length
  have n2:=v2.length
  refine Wv (I.ok.hd hc) st (.inl rfl) q1 q2 la lb ?_ fun h' kz=>⟨rfl,I.turns (t':=s.toks) (ch:=[B,B+1,B+2,B+3,B+4]) kz.of hf⟩
  rcases hl with hl|hl
  ·exact .inl (by simp;lia)
  ·exact .inr (by simp;lia)
 self:=fun _ _ _ _ _ st h=>by
  have ty:Shared.TypeIs _ (.ref (B+4)) "zip":=⟨_,st.z,rfl⟩
  exact wpAny_pyIter_slot ty F.slot_zip_iter (wpAny_call_entry F.slot_zip_iter ty F.entry_zip_iter (wpAny_pure ⟨_,rfl,"zip",_,ty,F.slot_zip_next.lookup,h⟩) (F.args_zip_iter_1 (.ref (B+4))))
section
variable{X:Cx}{elts:List Expr}{n:Nat}{tpos:Pos}
def iZip(K:uc)(ta:TA):TI:=fun σ H R=>ta σ H fun vs H1=>∃a b k m xs ys,vs=[.ref a,.ref b]/\SqK k K H1 a xs/\SqK m K H1 b ys/\R (Itz K k m a b) H1
theorem zaT{a b:Expr}{ta:TA}{p pos:Pos}(hg:Gl X "zip")(hm:X.mg "zip"=none)(ha:PA X [a,b] ta)(h1:starEach [a,b] X.env=[(false,eval a X.env),(false,eval b X.env)]:=by rfl)(h2:starEach [b] X.env=[(false,eval b X.env)]:=by rfl):
  PI X (.Tuple elts n tpos) (.Call (.Name "zip" p) [a,b] [] pos) (iZip X.K ta):=by
 intro pins s σ H R I h
 refine Call_ (wZ I hg hm boot_zip (UD (thn (ha pos pins s σ H _ I h) fun us s1 g=>?_) (by rw[h1,h2]) (by rw[h2];rfl)))
 obtain⟨vs,H1,I1,r1,a1,b1,k,m,xs,ys,rfl,g1,g2,q⟩:=g
 obtain⟨u,u',rfl,e1,e2⟩:=X3 r1
 cases e1
 cases e2
 obtain⟨i1,v1,q1,z1,l1⟩:=I1.sqk g1
 obtain⟨i2,v2,q2,z2,l2⟩:=I1.sqk g2
 refine Wr q1 q2 fun h' Z sz kp=>?_
 have tz:=Ww (P:=X.prog) (w:=X.w) (K:=X.K) (elts:=elts) (n:=n) (pos:=tpos) (k:=k) (m:=m) l1 l2
 refine tz.self X.A 0 { s1 with heap:=h' } _ _ Z ⟨s1.heap.objs.size+4,_,_,_,H1,rfl,I1.kept (t':=s1.toks) kp,tz,Z,fun c hc=>?_,q⟩
 have hc':c=s1.heap.objs.size\/c=s1.heap.objs.size+1\/c=s1.heap.objs.size+2\/c=s1.heap.objs.size+3\/c=s1.heap.objs.size+4:=by simpa using hc
 have le:s1.heap.objs.size<=c:=by
  rcases hc' with e|e|e|e|e<;>rw[e]<;>first|exact ud _|exact Nat.le_add_right _ _
 exact I1.fpOk le (I1.hok.fresh le)
theorem Z2{a b:Expr}{t:TA}{p pos:Pos}(hg:Gl X "zip")(hm:X.mg "zip"=none)(ha:jA X [a,b] t)(h1:zv a=false:=by rfl)(h2:zv b=false:=by rfl):jI X (.Tuple elts n tpos) (.Call (.Name "zip" p) [a,b] [] pos) (iZip X.K t) :=
 ⟨zaT hg hm ha.out (by rw[zJ h1,zJ h2];rfl) (by rw[zJ h2];rfl)⟩
end
structure Ca(P:Program)(w:World)(K:uc)(mg:Str->Option Value)(base:Heap)(CX:CXT)(k:Nat)(x:Str)(ps:List Str)(sp:Sp):Prop where
 ex:∃f fd,FnOk P w K mg base CX k f fd ps sp/\Binds K fd ps []/\uP K (.ref f)=true/\mg x=some (.ref f)
structure Me(P:Program)(w:World)(K:uc)(mg:Str->Option Value)(base:Heap)(CX:CXT)(k:Nat)(C:Addr)(m:Str)(ps:List Str)(sp:Sp):Prop where
 ex:∃f fd,FnOk P w K mg base CX k f fd ps sp/\Binds K fd ps []/\Meth K C m f
structure Ma(P:Program)(w:World)(K:uc)(mg:Str->Option Value)(base:Heap)(CX:CXT)(k:Nat)(x:Str)(C:Addr)(ps:List Str)(sp:Sp):Prop where
 ex:∃f fd,Mk K C f/\FnOk P w K mg base CX k f fd ps sp/\Binds K fd ps []/\mg x=some (.ref C)
section
variable{P:Program}{w:World}{K:uc}{mg:Str->Option Value}{base:Heap}{CX:CXT}{k j:Nat}{x m:Str}{C:Addr}{ps:List Str}{sp sp':Sp}
end
section
variable{X:Cx}{CX:CXT}{k i:Nat}{C:Addr}{ps:List Str}{sp:Sp}{E:XK}{x m n f:Str}{p pos apos cpos np pos' epos hpos tpos:Pos}{e o a value:Expr}{es as:List Expr}{ta te tv to t1 t2:TE}{t:TA}
theorem zbU(F:Ca X.prog X.w X.K X.mg X.base CX k x ps sp)(hr:Room k X.A)(hg:Gl X x)(hx:yy CX X E)(ha:jA X (e::es) t)(hdb:(x == ("__debug__":Str))=false:=by decide)(h1:zv e=false:=by rfl)(h2:es.all (fun e=>!zv e)=true:=by rfl):
  jE X (.Call (.Name x p) (e::es) [] pos) (Zc sp [] E t):=let ⟨_,_,G,b,kp,mg⟩:=F.ex;zbR G hr hg mg kp b .nil hx ha hdb h1 h2
theorem Z3{pl:Sem Bool}(he:jE X o ta)(c:Cls X.K C)(F:Me X.prog X.w X.K X.mg X.base CX k C m ps sp)(hr:Room k X.A)(hx:yy CX X E)
  (ht:eval (.Call (.Attribute o m apos) [] [] pos) X.env=(do
   let ov <- eval o X.env
   standAt apos.atName
   let (f,first) <- holding [ov] (getMethod ov m pl)
   callWith pos f first (backTo pos (starEach [] X.env)) (backToKw pos (keywordEach [] X.env))):=by rfl) :
  jE X (.Call (.Attribute o m apos) [] [] pos) (QE C m sp [] E ta tNil):=let ⟨_,_,G,b,mt⟩:=F.ex;⟨X6 he.out c mt G hr b .nil hx ht⟩
theorem Wx(F:Ma X.prog X.w X.K X.mg X.base CX k x C ps sp)(hr:Room (k+1) X.A)(hg:Gl X x)(hx:yy CX X E)(ha:jA X (e::es) t)(hdb:(x == ("__debug__":Str))=false:=by decide)(h1:zv e=false:=by rfl)(h2:es.all (fun e=>!zv e)=true:=by rfl):
  jE X (.Call (.Name x p) (e::es) [] pos) (QF C sp [] E t):=let ⟨_,_,M,G,b,mg⟩:=F.ex;⟨Jo M G hr hg mg b .nil hx ha.out hdb (zJ h1) (yj h2)⟩
theorem yH(he:jE X e ta)(hb:attributeBase e f X.env (eval e X.env)=eval e X.env:=by rfl):jE X (.Attribute e f pos) (tFld X.K ta f):=⟨zaB he.out hb⟩
theorem wD(ha:jE X o ta)(hv:jE X value tv)(hs:swapsWith value (some (.Attribute o f pos')) pos.line X.env=pure false:=by rfl):jS X (.Assign [.Attribute o f pos'] value pos) (sFld X.K ta tv f):=⟨zaC ha.out hv.out hs⟩
end
end L2
namespace L2
open PySem
section
variable{X:Cx}{x:Str}{pos p q p2:Pos}
theorem jA1{e1:Expr}{t1:TE}(h1:jE X e1 t1)(s1:zv e1=false:=by rfl):jA X [e1] (zR t1 tNil):=(ja_c h1 zD s1)
theorem jA2{e1:Expr}{t1:TE}{e2:Expr}{t2:TE}(h1:jE X e1 t1)(h2:jE X e2 t2)(s1:zv e1=false:=by rfl)(s2:zv e2=false:=by rfl):jA X [e1,e2] (zR t1 (zR t2 tNil)):=(ja_c h1 (ja_c h2 zD s2) s1)
theorem jA3{e1:Expr}{t1:TE}{e2:Expr}{t2:TE}{e3:Expr}{t3:TE}(h1:jE X e1 t1)(h2:jE X e2 t2)(h3:jE X e3 t3)(s1:zv e1=false:=by rfl)(s2:zv e2=false:=by rfl)(s3:zv e3=false:=by rfl):jA X [e1,e2,e3] (zR t1 (zR t2 (zR t3 tNil))):=(ja_c h1 (ja_c h2 (ja_c h3 zD s3) s2) s1)
theorem jA4{e1:Expr}{t1:TE}{e2:Expr}{t2:TE}{e3:Expr}{t3:TE}{e4:Expr}{t4:TE}(h1:jE X e1 t1)(h2:jE X e2 t2)(h3:jE X e3 t3)(h4:jE X e4 t4)(s1:zv e1=false:=by rfl)(s2:zv e2=false:=by rfl)(s3:zv e3=false:=by rfl)(s4:zv e4=false:=by rfl):jA X [e1,e2,e3,e4] (zR t1 (zR t2 (zR t3 (zR t4 tNil)))):=(ja_c h1 (ja_c h2 (ja_c h3 (ja_c h4 zD s4) s3) s2) s1)
theorem jA5{e1:Expr}{t1:TE}{e2:Expr}{t2:TE}{e3:Expr}{t3:TE}{e4:Expr}{t4:TE}{e5:Expr}{t5:TE}(h1:jE X e1 t1)(h2:jE X e2 t2)(h3:jE X e3 t3)(h4:jE X e4 t4)(h5:jE X e5 t5)(s1:zv e1=false:=by rfl)(s2:zv e2=false:=by rfl)(s3:zv e3=false:=by rfl)(s4:zv e4=false:=by rfl)(s5:zv e5=false:=by rfl):jA X [e1,e2,e3,e4,e5] (zR t1 (zR t2 (zR t3 (zR t4 (zR t5 tNil))))):=(ja_c h1 (ja_c h2 (ja_c h3 (ja_c h4 (ja_c h5 zD s5) s4) s3) s2) s1)
theorem jA6{e1:Expr}{t1:TE}{e2:Expr}{t2:TE}{e3:Expr}{t3:TE}{e4:Expr}{t4:TE}{e5:Expr}{t5:TE}{e6:Expr}{t6:TE}(h1:jE X e1 t1)(h2:jE X e2 t2)(h3:jE X e3 t3)(h4:jE X e4 t4)(h5:jE X e5 t5)(h6:jE X e6 t6)(s1:zv e1=false:=by rfl)(s2:zv e2=false:=by rfl)(s3:zv e3=false:=by rfl)(s4:zv e4=false:=by rfl)(s5:zv e5=false:=by rfl)(s6:zv e6=false:=by rfl):jA X [e1,e2,e3,e4,e5,e6] (zR t1 (zR t2 (zR t3 (zR t4 (zR t5 (zR t6 tNil)))))):=(ja_c h1 (ja_c h2 (ja_c h3 (ja_c h4 (ja_c h5 (ja_c h6 zD s6) s5) s4) s3) s2) s1)
theorem jA7{e1:Expr}{t1:TE}{e2:Expr}{t2:TE}{e3:Expr}{t3:TE}{e4:Expr}{t4:TE}{e5:Expr}{t5:TE}{e6:Expr}{t6:TE}{e7:Expr}{t7:TE}(h1:jE X e1 t1)(h2:jE X e2 t2)(h3:jE X e3 t3)(h4:jE X e4 t4)(h5:jE X e5 t5)(h6:jE X e6 t6)(h7:jE X e7 t7)(s1:zv e1=false:=by rfl)(s2:zv e2=false:=by rfl)(s3:zv e3=false:=by rfl)(s4:zv e4=false:=by rfl)(s5:zv e5=false:=by rfl)(s6:zv e6=false:=by rfl)(s7:zv e7=false:=by rfl):jA X [e1,e2,e3,e4,e5,e6,e7] (zR t1 (zR t2 (zR t3 (zR t4 (zR t5 (zR t6 (zR t7 tNil))))))):=(ja_c h1 (ja_c h2 (ja_c h3 (ja_c h4 (ja_c h5 (ja_c h6 (ja_c h7 zD s7) s6) s5) s4) s3) s2) s1)
theorem cA{k:Nat}{ps:List Str}{sp:Sp}{e:Expr}{es:List Expr}{t:TA}(F:Ca X.prog X.w X.K X.mg X.base CX0 k x ps sp)(hr:Room k X.A)(ha:jA X (e::es) t)(hg:Gl X x:=by rfl)(hdb:(x == ("__debug__":Str))=false:=by decide)(h1:zv e=false:=by rfl)(h2:es.all (fun e=>!zv e)=true:=by rfl):jE X (.Call (.Name x p) (e::es) [] pos) (Zc sp [] E0 t):=zbU F hr hg xP ha hdb h1 h2
theorem xX{r:R2}{a b:Expr}{ta tb:TE}(hr:jIx X r)(ha:jE X a ta)(hb:jE X b tb)(hs:jh b:=by exact fun _ _=>rfl):jE X (.Subscript a b pos) (tOp r ta tb):=yd hr ha hb hs
theorem xT(i:Nat){n j}(hN:X.N[i]?=some x:=by rfl)(hv:Vis X.env.scope x:=by first|exact Or.inl rfl|exact Or.inr (Or.inl rfl)|exact Or.inr (Or.inr rfl))(hd:(x == ("__debug__":Str))=false:=by decide)(hcd:(x == ("__classdict__":Str))=false:=by decide):jE X (.Subscript (.Name x p) (.Constant (.int n) j q) pos) (tOp (rIxT X.K) (tVar i) (tC (.int n))):=yd zP (jv i hN hv hd hcd) zn (fun _ _=>rfl)
theorem xL(i:Nat){n j}(hN:X.N[i]?=some x:=by rfl)(hv:Vis X.env.scope x:=by first|exact Or.inl rfl|exact Or.inr (Or.inl rfl)|exact Or.inr (Or.inr rfl))(hd:(x == ("__debug__":Str))=false:=by decide)(hcd:(x == ("__classdict__":Str))=false:=by decide):jE X (.Subscript (.Name x p) (.Constant (.int n) j q) pos) (tOp (rIxL X.K) (tVar i) (tC (.int n))):=yd z6 (jv i hN hv hd hcd) zn (fun _ _=>rfl)
theorem sE{e:Expr}{te:TE}(i:Nat)(hN:X.N.Nodup)(he:jE X e te)(hi:X.N[i]?=some x:=by rfl)(hx:Loc X.env.scope x:=by first|exact Or.inl rfl|exact Or.inr rfl)(hs:swapsWith e (some (.Name x q)) pos.line X.env=pure false:=by rfl)(hf:X.fn x=true\/X.env.scope.names.lookup x=some .local:=by first|exact .inl rfl|exact .inr rfl|assumption):jS X (.Assign [.Name x q] e pos) (tAsg te (vU i)):=zaP hN hi hx he hs hf
theorem gN(i:Nat)(hN:X.N.Nodup)(hi:X.N[i]?=some x:=by rfl)(hx:Loc X.env.scope x:=by first|exact Or.inl rfl|exact Or.inr rfl)(hf:X.fn x=true\/X.env.scope.names.lookup x=some .local:=by first|exact .inl rfl|exact .inr rfl|assumption):jG X (.Name x pos) (vU i):=JA hN hi hx hf
theorem tN{op:CmpOp}{r:R2}{a c:Expr}{ta tb:TE}(ho:jOp X (compareOp op) r)(ha:jE X a ta)(hb:jE X c tb)(hm:behindInMarks op c=false:=by exact yO _):jT X (.Compare a [op] [c] pos) (X2 (tOp r ta tb)):=xx ho ha hb hm
theorem jL{e:Expr}{te:TE}(hm:X.mg "len"=none)(h:jE X e te)(hg:Gl X "len":=by rfl)(h1:zv e=false:=by rfl):jE X (.Call (.Name "len" p) [e] [] pos) (tCB (fun xs H Q=>∃p ys,xs=[.ref p]/\(SqL X.K H p ys\/SqT X.K H p ys)/\Q (.int ys.length) H) (zR te tNil)):=xk vj hg hm PySem.boot_len (ja_c h zD h1) (by decide) (by decide) h1 rfl
theorem aB{p q:Prop}[Decidable p](h:¬ p:=by decide):p->q:=fun c=>absurd c h
end
end L2
namespace L2
open PySem PySem.Spec PySem.Calls PyProof.Rows
section
variable{P:Program}{w:World}{A:Around}{E:Value->Shared->Prop}{s:Shared}{K:uc}
end
section
variable{X:Cx}{e C:Addr}{oe:Obj}{ex:Expr}{te:TE}{name:Str}{pos:Pos}{f:Addr}
end
section
variable{X:Cx}{Ch:Addr}{x n:Str}{i k:Nat}{np hpos tpos:Pos}{b0:Stmt}{suite:List Stmt}{th:Addr->Obj->TS}{ps:List Str}{sp:Sp}{y:Str}{p cpos epos:Pos}{a:Expr}{as:List Expr}{t:TA}
end
end L2
namespace L2
open PySem PySem.Spec PyProof.Rows
section
variable{P:Program}{w:World}{A:Around}{E:Value->Shared->Prop}
end
section
variable{X:Cx}{pos:Pos}
end
end L2
namespace L2
open PySem
theorem zK:sizeLine=16777216:=by decide
def FnIn(K:uc)(x qual:Str)(st:Stmt)(f:Addr):Prop:=∃(oc:Value)(od:Option Addr)(kV doc pm:Value)(an:Option Addr)(cdv ct:Value)(osl:Array (Option Value)),K.lookup f=some ⟨oc,od,.func (uZ x qual (z0 st) (zF st) (zo st) .none kV doc pm an cdv ct),osl⟩/\Uy K cdv qual=true/\uP K (.ref f)=true
theorem FnIn.fn{K:uc}{x qual:Str}{st:Stmt}{f:Addr}(h:FnIn K x qual st f):∃fd,Fun K x qual st f fd/\uP K (.ref f)=true:=by
 obtain⟨_,_,_,_,_,_,_,_,_,l,c,k⟩:=h
 exact⟨_,Wj l c k,k⟩
def DfIn(K:uc)(x:Str)(st:Stmt):Prop:=∃f,Ul K mainGlobals x=some (some (.ref f))/\FnIn K x x st f
def MeIn(K:uc)(C:Addr)(x qual:Str)(st:Stmt):Prop:=∃f,uT K (.ref C) x=some (some (.ref f))/\PySem.W.isFn K (.ref f)=true/\FnIn K x qual st f
theorem MeIn.me{P:Program}{w:World}{K:uc}{mg:Str->Option Value}{base:Heap}{CX:CXT}{k:Nat}{C:Addr}{x qual:Str}{st:Stmt}{ps:List Str}{sp:Sp}(h:MeIn K C x qual st)(hb:∀(kV doc pm:Value)(an:Option Addr)(cdv ct:Value)(us:List Value),us.length=ps.length->bindArgs (uZ x qual (z0 st) (zF st) (zo st) .none kV doc pm an cdv ct) ⟨us,[]⟩=pure (ps.zip us))
  (ok:∀f fd,Fun K x qual st f fd->FnOk P w K mg base CX k f fd ps sp):Me P w K mg base CX k C x ps sp:=by
 obtain⟨f,a,n,g⟩:=h
 obtain⟨fd,F,kp⟩:=g.fn
 exact⟨f,fd,ok f fd F,F.binds hb,a,n,kp⟩
theorem MeIn.ma{P:Program}{w:World}{K:uc}{mg:Str->Option Value}{base:Heap}{CX:CXT}{k:Nat}{C:Addr}{x qual:Str}{st:Stmt}{ps:List Str}{sp:Sp}(h:MeIn K C "__init__" qual st)(hb:∀(kV doc pm:Value)(an:Option Addr)(cdv ct:Value)(us:List Value),us.length=ps.length->bindArgs (uZ "__init__" qual (z0 st) (zF st) (zo st) .none kV doc pm an cdv ct) ⟨us,[]⟩=pure (ps.zip us))
  (mk:PySem.W.makesIn K C=true) (kp:uP K (.ref C)=true) (hm:mg x=some (.ref C)) (ok:∀f fd,Fun K "__init__" qual st f fd->FnOk P w K mg base CX k f fd ps sp):Ma P w K mg base CX k x C ps sp:=by
 obtain⟨f,a,n,g⟩:=h
 obtain⟨fd,F,_⟩:=g.fn
 exact⟨f,fd,⟨mk,a,n,kp⟩,ok f fd F,F.binds hb,hm⟩
theorem DfIn.ca{P:Program}{w:World}{K:uc}{mg:Str->Option Value}{base h:Heap}{CX:CXT}{k:Nat}{x:Str}{st:Stmt}{ps:List Str}{sp:Sp}(X:K.In h)(G:h.Ns mainGlobals mg)(d:DfIn K x st)(hb:∀(kV doc pm:Value)(an:Option Addr)(cdv ct:Value)(us:List Value),us.length=ps.length->bindArgs (uZ x x (z0 st) (zF st) (zo st) .none kV doc pm an cdv ct) ⟨us,[]⟩=pure (ps.zip us))
  (ok:∀f fd,Fun K x x st f fd->FnOk P w K mg base CX k f fd ps sp):Ca P w K mg base CX k x ps sp:=by
 obtain⟨f,a,g⟩:=d
 obtain⟨fd,F,kp⟩:=g.fn
 exact⟨f,fd,ok f fd F,F.binds hb,kp,UV X G a⟩
theorem DfIn.mk{K:uc}{x:Str}{st:Stmt}{f:Addr}{oc:Value}{od:Option Addr}{kV doc pm:Value}{an:Option Addr}{cdv ct:Value}{osl:Array (Option Value)}(a:Ul K mainGlobals x=some (some (.ref f)))(l:K.lookup f=some ⟨oc,od,.func (uZ x x (z0 st) (zF st) (zo st) .none kV doc pm an cdv ct),osl⟩)(c:Uy K cdv x=true)(k:uP K (.ref f)=true):DfIn K x st:=⟨f,a,oc,od,kV,doc,pm,an,cdv,ct,osl,l,c,k⟩
theorem MeIn.mk{K:uc}{C:Addr}{x qual:Str}{st:Stmt}{f:Addr}{oc:Value}{od:Option Addr}{kV doc pm:Value}{an:Option Addr}{cdv ct:Value}{osl:Array (Option Value)}(a:uT K (.ref C) x=some (some (.ref f)))(l:K.lookup f=some ⟨oc,od,.func (uZ x qual (z0 st) (zF st) (zo st) .none kV doc pm an cdv ct),osl⟩)(c:Uy K cdv qual=true)(k:uP K (.ref f)=true)(n:PySem.W.isFn K (.ref f)=true):MeIn K C x qual st:=⟨f,a,n,oc,od,kV,doc,pm,an,cdv,ct,osl,l,c,k⟩
structure OwnIn(K:uc)(x:Str)(C:Addr):Prop where
 n:Ul K mainGlobals x=some (some (.ref C))
 pg:US K C Str.empty=true
 hd:PySem.W.hasDictIn K C=true
 po:PySem.W.plainOver K C=true
 sa:uT K (.ref C) "__setattr__"=some (some (.builtin "object.__setattr__"))
 mks:PySem.W.makesIn K C=true
 kp:uP K (.ref C)=true
theorem OwnIn.cls{K:uc}{x:Str}{C:Addr}(o:OwnIn K x C):Cls K C:=⟨o.pg,o.hd,o.po,o.sa⟩
theorem usS{n:Nat}{p:List Value->Prop}(h:∀a us,us.length=n->p (a::us)):∀us:List Value,us.length=n+1->p us:=fun us=>by
 cases us with
 |nil=>exact fun e=>by cases e
 |cons a r=>exact fun e=>h a r (Nat.succ.inj e)
theorem us1{p:List Value->Prop}(h:∀a,p [a]):∀us:List Value,us.length=1->p us:=usS fun a us e=>by rw[Uo.mp e];exact h a
theorem us2{p:List Value->Prop}(h:∀a b,p [a,b]):∀us:List Value,us.length=2->p us:=usS fun a=>us1 (p:=fun l=>p (a::l)) (h a)
theorem us3{p:List Value->Prop}(h:∀a b c,p [a,b,c]):∀us:List Value,us.length=3->p us:=usS fun a=>us2 (p:=fun l=>p (a::l)) (h a)
theorem us4{p:List Value->Prop}(h:∀a b c d,p [a,b,c,d]):∀us:List Value,us.length=4->p us:=usS fun a=>us3 (p:=fun l=>p (a::l)) (h a)
theorem us5{p:List Value->Prop}(h:∀a b c d e,p [a,b,c,d,e]):∀us:List Value,us.length=5->p us:=usS fun a=>us4 (p:=fun l=>p (a::l)) (h a)
theorem us6{p:List Value->Prop}(h:∀a b c d e f,p [a,b,c,d,e,f]):∀us:List Value,us.length=6->p us:=usS fun a=>us5 (p:=fun l=>p (a::l)) (h a)
theorem us7{p:List Value->Prop}(h:∀a b c d e f g,p [a,b,c,d,e,f,g]):∀us:List Value,us.length=7->p us:=usS fun a=>us6 (p:=fun l=>p (a::l)) (h a)
theorem ex2q{α:Type}{a b:α->Prop}{w:α}(h:a w)(k:b w):∃x,a x/\b x:=⟨w,h,k⟩
end L2
namespace L2
theorem ex4q{α β:Type}{a:α->Prop}{b:β->Prop}{c:α->β->Prop}{w:α}{v:β}(h:a w)(i:b v)(k:c w v):∃x y,a x/\b y/\c x y:=⟨w,v,h,i,k⟩
end L2
namespace L2
open PySem
section
variable{a b c d e u:TS}{D:Ends}{σ:List (Option V)}{H:Hp}
theorem cut1(h:∀v:TS,u=v->(tSeq a v:TS) D σ H):(tSeq a u:TS) D σ H:=h u rfl
theorem cut2(h:∀v:TS,u=v->(tSeq a (tSeq b v):TS) D σ H):(tSeq a (tSeq b u):TS) D σ H:=h u rfl
theorem cut3(h:∀v:TS,u=v->(tSeq a (tSeq b (tSeq c v)):TS) D σ H):(tSeq a (tSeq b (tSeq c u)):TS) D σ H:=h u rfl
theorem cut4(h:∀v:TS,u=v->(tSeq a (tSeq b (tSeq c (tSeq d v))):TS) D σ H):(tSeq a (tSeq b (tSeq c (tSeq d u))):TS) D σ H:=h u rfl
theorem ixT{K:uc}{Q:VK}{p:Addr}{xs:List V}{i:Int}{v:V}(h:H p=some (.tup xs))(a:atI xs i=some v)(q:Q v H):tC (.int i) σ H fun y H2=>rIxT K (.ref p) y H2 Q:=⟨p,xs,i,v,rfl,rfl,SqT.of h,a,q⟩
theorem ixL{K:uc}{Q:VK}{p:Addr}{xs:List V}{i:Int}{v:V}(h:H p=some (.lst xs))(a:atI xs i=some v)(q:Q v H):tC (.int i) σ H fun y H2=>rIxL K (.ref p) y H2 Q:=⟨p,xs,i,v,rfl,rfl,SqL.of h,a,q⟩
theorem nxtC{E:Ends}(h:E.nx σ H):wH E σ H:=h
end
end L2
namespace GN
open PySem L2
def top(i:Nat):Stmt:=PySem.Challenge.pw_reusewise_k63_used_up_at_once.main.body.getD i (.Pass ⟨0,0,0,0⟩)
abbrev Wz:Stmt:=top 1
abbrev yP:Stmt:=top 2
abbrev xp:Stmt:=top 3
abbrev wE:Stmt:=top 4
abbrev Z4:Stmt:=wQ (top 5) 0
abbrev jp:Stmt:=top 6
abbrev WA:Stmt:=top 7
abbrev Z5:Stmt:=top 9
abbrev WB:Stmt:=top 11
abbrev xV:Stmt:=top 12
abbrev Z6:Stmt:=wQ (top 13) 0
abbrev vm:Stmt:=wQ (top 13) 1
abbrev jq:Stmt:=wQ (top 13) 2
abbrev wS:Stmt:=top 14
abbrev xW:Stmt:=top 15
abbrev jr:Stmt:=top 16
abbrev yI:Stmt:=top 17
abbrev js:Stmt:=top 18
abbrev WC:Stmt:=top 20
abbrev sNm:Stmt:=top 21
abbrev WD:Stmt:=top 22
abbrev Z7:Stmt:=top 23
abbrev WE:Stmt:=top 24
abbrev WF:Stmt:=top 25
abbrev Z8:Stmt:=top 26
abbrev sEnd:Stmt:=top 27
abbrev WG:Stmt:=top 28
abbrev Z9:Stmt:=top 29
abbrev jt:Stmt:=top 30
abbrev WH:Stmt:=top 31
abbrev Ya:Stmt:=top 32
abbrev Yb:Stmt:=top 33
abbrev sLaw:Stmt:=top 43
abbrev xY:Stmt:=top 34
abbrev WJ:Stmt:=top 35
abbrev wT:Stmt:=top 36
abbrev YH:Stmt:=top 37
abbrev Yc:Stmt:=top 41
abbrev ju:Stmt:=top 38
abbrev jw:Stmt:=top 39
abbrev YI:Stmt:=top 40
abbrev jx:Stmt:=top 42
end GN
namespace L2
open PySem PySem.Spec PyProof.Rows
def BMn(mg:Str->Option Value)(h:Heap):Prop:=∃bm ob,mg "__builtins__"=some (.ref bm)/\bm≠builtinsNs/\h.get? bm=some ob/\ob.cls=.type "module"/\ob.dict=some builtinsNs/\ob.data=.plain
theorem BMn.at{mg:Str->Option Value}{h:Heap}{P:Addr}{ps:Array Value}(B:BMn mg h)(g:h.Ns mainGlobals mg)(hP:h.get? P=some { cls:=.none,data:=.fields ps }):h.BuiltinsAt mg P/\mainGlobals≠P:=by
 obtain⟨bm,ob,b1,b2,b3,b4,b5,b6⟩:=B
 refine⟨⟨bm,ob,b1,b2,fun q=>?_,fun q=>?_,b3,b4,b5,b6⟩,fun q=>?_⟩
 ·obtain⟨o,es,ep,e,hd,_⟩:=g
  rw[q,e]at b3;cases b3;rw[hd]at b6;cases b6
 ·rw[q,hP]at b3;cases b3;cases b4
 ·obtain⟨o,es,ep,e,hd,_⟩:=g
  rw[q,hP]at e;cases e;cases hd
theorem BMn.keeps{mg:Str->Option Value}{h h':Heap}(B:BMn mg h)(k:∀b o,h.get? b=some o->h'.get? b=some o):BMn mg h' :=
 let ⟨bm,ob,b1,b2,b3,r⟩:=B;⟨bm,ob,b1,b2,k _ _ b3,r⟩
def FunO(f:Addr)(fd:FuncData):HO:=.ext fun h=>h.get? f=some { cls:=.type "function",data:=.func fd }
def CodO(c:Addr)(qual:Str):HO:=.ext fun h=>h.CodeRec (.ref c) qual
theorem WK{P:Program}{w:World}{H:Hp}{h:Heap}{f:Addr}{fd:FuncData}(e:h.get? f=some { cls:=.type "function",data:=.func fd }):ObjOk P w H h f (FunO f fd) :=
 ⟨e,⟨_,e⟩,fun _ _ p k=>k _ p⟩
theorem zaU{P:Program}{w:World}{H:Hp}{h:Heap}{c:Addr}{qual:Str}(e:h.CodeRec (.ref c) qual):ObjOk P w H h c (CodO c qual) :=
 ⟨e,(let ⟨_,oc,_,_,q,e,_⟩:=e;by cases q;exact⟨oc,e⟩),fun _ _ ⟨d,oc,vs,t,q,e,r⟩ k=>by cases q;exact⟨c,oc,vs,t,rfl,k _ e,r⟩⟩
section
variable{X:Cx}{CX:CXT}{k:Nat}{x:Str}{ps:List Str}{sp:Sp}{dvs:List V}{E:XK}{p pos:Pos}{e:Expr}{es:List Expr}{t:TA}
end
def Itv(K:uc)(a:Addr)(n:Nat):It :=
 ⟨fun i H=>i < n/\∃xs x,SqL K H a xs/\xs[n-1-i]?=some x,fun i H x H'=>H'=H/\∀xs,SqL K H a xs->xs[n-1-i]?=some x,fun i _=>n<=i⟩
theorem WL{P:Program}{w:World}{K:uc}{tg:Expr}(a it:Addr)(n:Nat):Turn P w K tg (Itv K a n) [it] it (fun i h=>i<=n/\h.IsRevIter it a ((n:Int)-1-(i:Nat))) where
 mem:=by simp
 obj:=fun i h st b hb=>by
  have e:b=it:=by simpa using hb
  subst e
  obtain⟨_,o,e,c,d⟩:=st
  exact⟨o,e,fun v z=>by rw[d]at z;cases z⟩
 keep:=fun i h h' st k=>⟨st.1,st.2.at fun o e=>k it (by simp) o e⟩
 item:=by
  intro X hP hw hK hc i pins s σ H E I hf st hg
  subst hP hw hK
  obtain⟨hi,xs,x,hq,hx⟩:=hg
  obtain⟨its,rv,p,hz⟩:=I.list hq
  obtain⟨u,hu,ru⟩:=rv.get hx
  obtain⟨f0,f1,f2,f3,f4,f5⟩:=hf it (by simp)
  obtain⟨_,st2⟩:=st
  have e1:(n:Int)-1-(i:Nat)=((n-1-i:Nat):Int):=by lia
  rw[e1]at st2
  refine wpAny_pyNext_rev_item st2 p.isList (x:=u) (by simpa using hu) fun h' st' sb=>?_
  have I1:Inv X pins σ H { s with heap:=h' }:=I.turned (t':=s.toks) (fun b o hb e=>(sb.2 b hb).trans e) f0 f1 f3 f4 f5
  obtain⟨o,e,c,d⟩:=id st'
  refine⟨u,rfl,Ys (s:={ s with heap:=h' }) e c d (by decide) ⟨x,H,I1,ru,⟨rfl,fun ys hy=>by rw[I.list_inj hy hq];exact hx⟩,⟨hi,?_⟩,fun b hb=>(hf b hb).1⟩⟩
  have e2:(n:Int)-1-((i+1:Nat):Int)=((n-1-i:Nat):Int)-1:=by lia
  rw[e2]
  exact st'
 done:=by
  intro X hP hw hK hc i pins s σ H E I hf st hg
  subst hP hw hK
  obtain⟨f0,f1,f2,f3,f4,f5⟩:=hf it (by simp)
  obtain⟨h1,st2⟩:=st
  have h2:n<=i:=hg
  have e1:(n:Int)-1-(i:Nat)=-1:=by lia
  rw[e1]at st2
  exact wpAny_pyNext_rev_end (I.ok.hd hc) st2 fun h' eb=>⟨rfl,I.turned (t':=s.toks) (fun b o hb e=>eb b o hb e) f0 f1 f3 f4 f5⟩
 self:=fun _ _ _ _ _ st h=>wpAny_pyIter_revIter st.2 h
section
variable{X:Cx}{tg:Expr}
def iRev(K:uc)(ta:TA):TI:=fun σ H R=>ta σ H fun vs H1=>∃a xs,vs=[.ref a]/\SqL K H1 a xs/\R (Itv K a xs.length) H1
theorem zaV{a:Expr}{ta:TA}{p pos:Pos}(hg:Gl X "reversed")(hm:X.mg "reversed"=none)(ha:PA X [a] ta)(hs:starEach [a] X.env=[(false,eval a X.env)]:=by rfl):PI X tg (.Call (.Name "reversed" p) [a] [] pos) (iRev X.K ta):=by
 intro pins s σ H R I h
 refine Call_ (wZ I hg hm boot_reversed (UD (thn (ha pos pins s σ H _ I h) fun us s1 ⟨vs,H1,I1,r1,q1⟩=>?_) hs rfl))
 obtain⟨l,xs,e,hq,q⟩:=q1
 subst e
 obtain⟨u,rfl,rx⟩:=xM r1
 cases rx
 obtain⟨its,rv,pl,hz⟩:=I1.list hq
 have hl:=rv.length
 refine call_reversed_list pl.isList ?_
 have hr:(s1.heap.push (revObj l ((its.toArray.size:Int)-1))).IsRevIter s1.heap.objs.size l ((its.toArray.size:Int)-1):=⟨_,ux _ rfl,rfl,rfl⟩
 refine wpAny_pyIter_revIter (s:={ s1 with heap:=s1.heap.push (revObj l ((its.toArray.size:Int)-1)) }) hr ?_
 refine⟨s1.heap.objs.size,[s1.heap.objs.size],_,_,H1,rfl,I1.kept (t':=s1.toks) fun b o e=>ue _ e,WL l _ xs.length,⟨uN _,?_⟩,fun b hb=>?_,q⟩
 ·have e:(xs.length:Int)-1-((0:Nat):Int)=(its.toArray.size:Int)-1:=by simp[hl]
  rw[e]
  exact hr
 have e:b=s1.heap.objs.size:=by simpa using hb
 subst e
 exact I1.fpOk (ud _) (I1.hok.fresh (ud _))
theorem jy{a:Expr}{t:TA}{p pos:Pos}(hg:Gl X "reversed")(hm:X.mg "reversed"=none)(ha:jA X [a] t)(h:zv a=false:=by rfl):jI X tg (.Call (.Name "reversed" p) [a] [] pos) (iRev X.K t):=⟨zaV hg hm ha.out (zJ h)⟩
end
theorem wU{K:uc}{a:Addr}{xs:List V}{g:TG}{tb:TS}{D:Ends}{σ:St}{H:Hp}(Pv:Nat->St->Hp->Prop)(h0:Pv 0 σ H)(hl:∀i σ H,i<=xs.length->Pv i σ H->SqL K H a xs)
  (hs:∀i x σ H,xs.reverse[i]?=some x->Pv i σ H->g x σ H fun σ2 H2=>tb { D with nx:=Pv (i+1),ct:=Pv (i+1),bk:=D.nx } σ2 H2) (hd:∀σ H,Pv xs.length σ H->D.nx σ H) :
  ∃W:Nat->Nat->St->Hp->Prop,(∃m,W 0 m σ H)/\∀i m σ H,W i m σ H ->
   ((Itv K a xs.length).stop i H/\D.nx σ H)\/((Itv K a xs.length).go i H/\∃N:St->Hp->Prop,(∀σ' H',N σ' H'->∃m',m' < m/\W (i+1) m' σ' H')/\∀x H',(Itv K a xs.length).yld i H x H'->g x σ H' fun σ2 H2=>tb { D with nx:=N,ct:=N,bk:=D.nx } σ2 H2):=by
 refine⟨fun i m σ H=>m=xs.length-i/\i<=xs.length/\Pv i σ H,⟨xs.length,by simp,uN _,h0⟩,?_⟩
 rintro i m σ H ⟨rfl,hi,p⟩
 have q:=hl i σ H hi p
 by_cases hlt:i < xs.length
 ·refine .inr ⟨⟨hlt,xs,xs[xs.length-1-i],q,by rw[uq]⟩,Pv (i+1),fun σ' H' p'=>⟨xs.length-(i+1),by lia,rfl,hlt,p'⟩,fun x H' y=>?_⟩
  obtain⟨e,y⟩:=y
  subst e
  refine hs i x σ _ ?_ p
  rw[List.getElem?_reverse hlt]
  exact y xs q
 ·have e:i=xs.length:=by lia
  subst e
  exact .inl ⟨ud _,hd σ H p⟩
section
variable{g:TG}{tt:TT}{te:TE}{Q:VK}{σ:St}{H:Hp}
theorem jz{K:uc}{a:Addr}{xs:List V}(Pv:Nat->St->List V->Hp->Prop)(h0:Pv 0 σ [] H)(hl:∀i τ ys H,i<=xs.length->Pv i τ ys H->SqT K H a xs)
  (hs:∀i x τ ys H,xs[i]?=some x->Pv i τ ys H->g x τ H fun τ2 H2=>tt τ2 H2 fun b H3=>if b=true then te τ2 H3 fun y H4=>ys.length < sizeLine/\Pv (i+1) τ2 (ys++[y]) H4 else Pv (i+1) τ2 ys H3)
  (hd:∀τ ys H,Pv xs.length τ ys H->∀p,H p=none->Q (.ref p) (upd H p (.lst ys))):∃W,(∃m,W 0 m σ [] H)/\lcBy (Itt K a) g tt te Q W:=by
 refine⟨fun i m τ ys H=>m=xs.length-i/\i<=xs.length/\Pv i τ ys H,⟨xs.length,by simp,uN _,h0⟩,?_⟩
 rintro i m τ ys H ⟨rfl,hi,p⟩
 have q:=hl i τ ys H hi p
 by_cases hlt:i < xs.length
 ·refine .inr ⟨⟨xs,xs[i],q,by simp[hlt]⟩,Pv (i+1),fun τ' ys' H' p'=>⟨xs.length-(i+1),by lia,rfl,hlt,p'⟩,fun x H' y=>?_⟩
  obtain⟨e,y⟩:=y
  subst e
  exact hs i x τ ys _ (y xs q) p
 ·have e:i=xs.length:=by lia
  subst e
  exact .inl ⟨⟨xs,q,ud _⟩,hd τ ys H p⟩
end
theorem old{H:Hp}{p q:Addr}{o u:HO}(hp:H p=none)(h:H q=some u):upd H p o q=some u:=by rw[zi (zk h hp)];exact h
theorem Same.new{H H1:Hp}{p:Addr}{o:HO}(s:Same H H1)(hp:H1 p=none):Same H (upd H1 p o):=fun b u q=>old hp (s b u q)
theorem Same.put{H H1:Hp}{p:Addr}{o:HO}(s:Same H H1)(hp:H p=none):Same H (upd H1 p o):=fun b u q=>by rw[zi (zk q hp)];exact s b u q
section
variable{X:Cx}
end
section
variable{X:Cx}{pos:Pos}
theorem yN(K:uc)(h:X.K=K:=by rfl):jIx X (rIxT K):=h ▸ zP
theorem WM(K:uc)(h:X.K=K:=by rfl):jOp X (binaryOp .Add) (Wb K):=h ▸ xa
theorem wV(K:uc){es:List Expr}{k:Nat}{gs:TGs}{n:Nat}(hc:X.calm=true)(g:jGs X es gs)(h:X.K=K:=by rfl)(hn:(assignEach es X.env).length=n:=by rfl)(hst:(assignEach es X.env).findIdx? (·.1)=none:=by rfl):jG X (.Tuple es k pos) (gTup K n gs):=h ▸ xm hc g hn hst
theorem Zh(K:uc)(h:X.K=K:=by rfl):jCa X (.builtin "len") (fun xs H Q=>∃p ys,xs=[.ref p]/\(SqL K H p ys\/SqT K H p ys)/\Q (.int ys.length) H):=h ▸ vj
end
def CelO(c:Addr)(v:V):HO:=.ext fun h=>∃u,RelV v u/\h.IsCell c (some u)
def Cel(H:Hp)(c:Addr)(v:V):Prop:=∃o,H c=some (.frz o (CelO c v))
theorem WN{P:Program}{w:World}{H:Hp}{h:Heap}{c:Addr}{v:V}{u:Value}{o:Obj}(e:h.get? c=some o)(d:o.data=.cell (some u))(r:RelV v u):ObjOk P w H h c (.frz o (CelO c v)) :=
 ⟨e,⟨u,r,o,e,d⟩,⟨o,e⟩,fun _ _ ⟨u,r,o,e,d⟩ k=>⟨u,r,o,k _ e,d⟩⟩
def zY(H:Hp)(as:List Addr):Hp:=fun b=>if b∈as then none else H b
def yT(H' H:Hp)(as:List Addr):Hp:=fun b=>if b∈as then H b else H' b
theorem xZ{H:Hp}{as:List Addr}{b:Addr}(h:b∈as):zY H as b=none:=if_pos h
theorem zU{H:Hp}{as:List Addr}{b:Addr}(h:b∉as):zY H as b=H b:=if_neg h
theorem x0{H' H:Hp}{as:List Addr}{b:Addr}(h:b∈as):yT H' H as b=H b:=if_pos h
theorem yo{H' H:Hp}{as:List Addr}{b:Addr}(h:b∉as):yT H' H as b=H' b:=if_neg h
abbrev lamC(mg:Str->Option Value)(qual:Str)(params:Arguments)(body:Expr)(scope:Scope)(cl:List (Str×Addr))(c:Addr)(ctv:Value):FuncData:=PySem.W.kla_fn "<lambda>" qual params body scope cl ((mg "__name__").getD .none) (.ref c) ctv
def WO(mg:Str->Option Value)(T:Addr)(qual:Str)(params:Arguments)(body:Expr)(scope:Scope)(pos:Pos)(cl:List (Str×Addr)):TE:=fun _ H Q=>∃ps,H T=some (.tbl ps)/\TriplesOk ps.toList /\
 ((codeAmong pos ps.toList=none/\∀(c f:Addr)(ctv:Value),H c=none->H f=none->f≠c->Q (.ref f) (upd (upd (upd H T (.tbl (ps ++ #[rawInt pos.line,rawInt pos.col,.ref c]))) c (CodO c qual)) f (FunO f (lamC mg qual params body scope cl c ctv)))) \/
   (∃c,codeAmong pos ps.toList=some (.ref c)/\∀(f:Addr)(ctv:Value),H f=none->Q (.ref f) (upd H f (FunO f (lamC mg qual params body scope cl c ctv)))))
theorem JF{X:Cx}{cl:List (Str×Addr)}{c T:Addr}{params:Arguments}{body:Expr}{scope:Scope}{pos:Pos}{qual:Str}(hB:BMn X.mg X.base)(hcode:X.env.code=.ref c)(hc:Uh X.K c T=true)(hq:X.env.qual ++ "<lambda>"=qual)
  (hdef:defaultsOf params X.env=([],[])) (hcl:closureFor scope X.env=pure cl):PE X (.Lambda params body scope pos) (WO X.mg T qual params body scope pos cl):=by
 intro pins s σ H Q I h
 refine PySem.W.kla_eval hdef ?_
 rw[hq]
 obtain⟨ps,hT,tr,h⟩:=h
 have gT:s.heap.get? T=some { cls:=.none,data:=.fields ps }:=I.hok T _ hT
 have hg:=I.mod.glob.keeps I.bk
 obtain⟨bAt,hgP⟩:=(hB.keeps I.bk).at hg gT
 rcases h with⟨nf,h⟩|⟨c',hit,h⟩
 ·refine PySem.W.kla_makeFunction (mg:=X.mg) hcl I.ok.glob hg hcode (PySem.W.codeHd_of_K I.kIn hc) gT tr nf hgP bAt fun c' ctv h' tk ext ge lt rec tab=>?_
  have hc0:H c'=none:=I.hok.fresh ge
  have hf0:H h'.objs.size=none:=I.hok.fresh (uD ge (Nat.le_of_lt lt))
  have nfc:h'.objs.size≠c':=Nat.ne_of_gt lt
  have ncT:T≠c':=zk hT hc0
  have nfT:T≠h'.objs.size:=zk hT hf0
  have elsewhere:∀b,b≠T->b≠c'->b≠h'.objs.size->upd (upd (upd H T (.tbl (ps ++ #[rawInt pos.line,rawInt pos.col,.ref c']))) c' (CodO c' qual)) h'.objs.size (FunO h'.objs.size (lamC X.mg qual params body scope cl c' ctv)) b=H b:=fun b h1 h2 h3=>by rw[zi h3,zi h2,zi h1]
  have hU:∀b u,H b=some u->b≠T->upd (upd (upd H T (.tbl (ps ++ #[rawInt pos.line,rawInt pos.col,.ref c']))) c' (CodO c' qual)) h'.objs.size (FunO h'.objs.size (lamC X.mg qual params body scope cl c' ctv)) b=some u:=fun b u e n=>by
   rw[elsewhere b n (zk e hc0) (zk e hf0)];exact e
  have hTb:upd (upd (upd H T (.tbl (ps ++ #[rawInt pos.line,rawInt pos.col,.ref c']))) c' (CodO c' qual)) h'.objs.size (FunO h'.objs.size (lamC X.mg qual params body scope cl c' ctv)) T=some (.tbl (ps ++ #[rawInt pos.line,rawInt pos.col,.ref c'])):=by
   rw[zi nfT,zi ncT];exact zf
  have keep:∀b o,b≠T->s.heap.get? b=some o->(h'.push (PySem.W.kla_obj "<lambda>" qual params body scope cl ((X.mg "__name__").getD .none) c' ctv)).get? b=some o:=fun b o n e=>ue _ (ext b o n e)
  have neT:∀b,H b=none->b≠T:=fun b e n=>by rw[n,hT]at e;cases e
  refine⟨.ref h'.objs.size,_,I.un (t':=tk) (H':=upd (upd (upd H T (.tbl (ps ++ #[rawInt pos.line,rawInt pos.col,.ref c']))) c' (CodO c' qual)) h'.objs.size (FunO h'.objs.size (lamC X.mg qual params body scope cl c' ctv))) ⟨fun b o e n _ _=>keep b o (neT b n) e,fun b o e n _ _=>⟨o.slots,keep b o (neT b n) e⟩,fun b o e n _=>?_,fun b o e _=>?_,fun b xs e=>hU b _ e (fun z=>by rw[z,hT]at e;cases e),fun b o xs e=>hU b _ e (fun z=>by rw[z,hT]at e;cases e),fun b qs e=>?_⟩ ?_,rfl,h c' _ ctv hc0 hf0 nfc⟩
  ·have l:=uy e
   rw[elsewhere b (neT b n) (uK (uC l ge)) (uK (Nat.lt_trans (uC l ge) lt))]
   exact n
  ·by_cases z:b=T
   ·rw[z];exact⟨_,ue _ tab⟩
   ·exact⟨o,keep b o z e⟩
  ·by_cases z:b=T
   ·subst z
    rw[hT]at e;cases e
    exact⟨_,hTb⟩
   ·exact⟨#[],by rw[hU b _ e z];simp⟩
  ·intro b u e
   by_cases z1:b=h'.objs.size
   ·subst z1
    rw[zf]at e;cases e
    exact WK (ux _ rfl)
   rw[zi z1]at e
   by_cases z2:b=c'
   ·subst z2
    rw[zf]at e;cases e
    obtain⟨d,oc,vs,t,q,e,r⟩:=rec
    exact zaU ⟨d,oc,vs,t,q,ue _ e,r⟩
   rw[zi z2]at e
   by_cases z3:b=T
   ·subst z3
    rw[zf]at e;cases e
    exact ue _ tab
   rw[zi z3]at e
   refine(I.hok b u e).stay (fun d v hd q=>keep d v ?_ q) (fun d q=>hU d _ q fun z=>by rw[z,hT]at q;cases q) fun d xs q=>hU d _ q fun z=>by rw[z,hT]at q;cases q
   rcases hd with rfl|hd
   ·exact z3
   ·intro z
    rw[z,hT]at hd;cases hd
 ·refine PySem.W.kla_makeFunctionHit (mg:=X.mg) hcl I.ok.glob hg hcode (PySem.W.codeHd_of_K I.kIn hc) gT tr hit bAt fun ctv h' tk kp sz=>?_
  have hf0:H h'.objs.size=none:=I.hok.fresh sz
  exact⟨.ref h'.objs.size,_,I.laid (t':=tk) (o:=FunO h'.objs.size (lamC X.mg qual params body scope cl c' ctv)) (fun b u e=>ue _ (kp b u e)) sz (WK (ux _ rfl)),rfl,h _ ctv hf0⟩
theorem x9{X:Cx}{cl:List (Str×Addr)}{c T:Addr}{params:Arguments}{body:Expr}{scope:Scope}{pos:Pos}{qual:Str}(hB:BMn X.mg X.base)(hcode:X.env.code=.ref c)(hc:Uh X.K c T=true)(hq:X.env.qual ++ "<lambda>"=qual)
  (hdef:defaultsOf params X.env=([],[]):=by rfl) (hcl:closureFor scope X.env=pure cl:=by with_unfolding_all rfl):jE X (.Lambda params body scope pos) (WO X.mg T qual params body scope pos cl):=⟨JF hB hcode hc hq hdef hcl⟩
structure LamScope(N ps fs:List Str)(sc:Scope):Prop where
 kind:sc.kind=.function
 co:sc.isCoroutine=false
 gen:sc.isGenerator=false
 nd:N.Nodup
 cat:N=ps++fs
 par:∀x∈ps,sc.names.lookup x=some .local
 fre:∀x∈fs,sc.names.lookup x=some .free
 nocell:∀y∈sc.names,y.2≠.cell
 has:∀y∈sc.names,y.2=.free->y.1∈fs
structure Clo(H:Hp)(cl:List (Str×Addr))(fs:List Str)(fvs:List V):Prop where
 len:fvs.length=fs.length
 all:∀p∈cl,∃v,Cel H p.2 v
 get:∀(i:Nat)(x:Str)(v:V),fs[i]?=some x->fvs[i]?=some v->∃a,cl.lookup x=some a/\Cel H a v
 has:∀x∈fs,∃a,cl.lookup x=some a
 inj:∀x y a,cl.lookup x=some a->cl.lookup y=some a->x=y
def WP(CX:CXT)(P:Program)(w:World)(K:uc)(mg:Str->Option Value)(base:Heap)(N:List Str)(qual:Str)(scope:Scope)(f:Addr)(cd:Value)(cl:List (Str×Addr))(A:Around)(outer:List Env)(s:Shared)(H:Hp)(E:XK):Cx where
 prog:=P
 w:=w
 K:=K
 mg:=mg
 base:=base
 A:=A.deeper (PySem.W.envX qual scope s.heap.objs.size f cd cl)
 N:=N
 s₀:=s
 H₀:=zY H (cl.map (·.2))
 env:=PySem.W.envX qual scope s.heap.objs.size f cd cl
 outer:=outer
 stack:=PySem.W.envX qual scope s.heap.objs.size f cd cl::outer
 ex:=[]
 calm:=true
 fn:=fun _=>false
 pn:=[]
 xe:=fun e s'=>wpAny (model P w) (A.deeper (PySem.W.envX qual scope s.heap.objs.size f cd cl)) (leaving (PySem.W.envX qual scope s.heap.objs.size f cd cl) e) (fun _ s''=>CX outer H s E e s'') (fun e' s''=>CX outer H s E e' s'') s'
theorem vo{x:Str}{v:Value}:∀{P:List Str}{vs:List Value}{i:Nat},P.Nodup->P[i]?=some x->vs[i]?=some v->(P.zip vs).reverse.lookup x=some v
 |[],_,_,_,h,_=>by simp at h
 |_::_,[],_,_,_,h=>by simp at h
 |p::P,w::vs,0,nd,h1,h2=>by
  simp at h1 h2;subst h1;subst h2
  have hn:∀y∈(P.zip vs).reverse,y.1≠p:=fun y hy z=>(uS.mp nd).1 (z ▸ (UO (List.mem_reverse.mp hy)).1)
  rw[List.zip_cons_cons,List.reverse_cons,List.lookup_append]
  have:(P.zip vs).reverse.lookup p=none:=List.lookup_eq_none_iff.mpr fun y hy=>by simpa using fun z=>hn y hy z.symm
  rw[this]
  simp
 |p::P,w::vs,i+1,nd,h1,h2=>by
  rw[List.zip_cons_cons,List.reverse_cons,List.lookup_append,vo (i:=i) (uS.mp nd).2 (by simpa using h1) (by simpa using h2)]
  rfl
section
variable{P:Program}{w:World}{H H':Hp}{h h':Heap}{as:List Addr}
theorem zS(hc:∀a∈as,∃v,Cel H a v){b:Addr}{u:HO}(e:H b=some u)(n:∀o c v,u≠.frz o (CelO c v)):zY H as b=some u:=by
 rw[zU]
 ·exact e
 ·intro z
  obtain⟨v,o,q⟩:=hc b z
  rw[e]at q
  exact n _ _ _ (u9.inj q)
theorem YJ(hc:∀a∈as,∃v,Cel H a v)(x:HOk P w H h):HOk P w (zY H as) h:=fun b u e=>by
 have nb:b∉as:=fun z=>by rw[xZ z]at e;cases e
 rw[zU nb]at e
 exact(x b u e).stay (fun _ _ _ q=>q) (fun d q=>zS hc q (by intro _ _ _ z;cases z)) fun d xs q=>zS hc q (by intro _ _ _ z;cases z)
theorem JG(hn:∀a∈as,H' a=none)(hk:∀a∈as,∀u,H a=some u->∃v o,u=.frz o (CelO a v)/\h.get? a=some o/\h'.get? a=some o)(x:HOk P w H h)(x':HOk P w H' h'):HOk P w (yT H' H as) h':=fun b u e=>by
 have up:∀d z,H' d=some z->yT H' H as d=some z:=fun d z q=>by
  rw[yo]
  ·exact q
  ·intro y;rw[hn d y]at q;cases q
 by_cases nb:b∈as
 ·rw[x0 nb]at e
  obtain⟨v,o,rfl,e1,e2⟩:=hk b nb u e
  obtain⟨_,⟨u',r,o',e3,d⟩,_⟩:=x b _ e
  rw[e1]at e3;cases e3
  exact WN e2 d r
 ·rw[yo nb]at e
  exact(x' b u e).stay (fun _ _ _ q=>q) (fun d q=>up d _ q) fun d xs q=>up d _ q
theorem JH{fs:List Addr}(hc:∀a∈as,∃v,Cel H a v)(u:Un fs [] (zY H as) H' h h')(hn:∀a∈as,H' a=none):Un fs [] H (yT H' H as) h h':=by
 have no:∀b,H b=none->b∉as:=fun b n z=>by
  obtain⟨v,o,q⟩:=hc b z
  rw[n]at q;cases q
 have mk:∀b,H b=none->zY H as b=none:=fun b n=>by rw[zU (no b n)];exact n
 have up:∀d z,H' d=some z->yT H' H as d=some z:=fun d z q=>by
  rw[yo]
  ·exact q
  ·intro y;rw[hn d y]at q;cases q
 refine⟨fun b o e n hb hx=>u.keep b o e (mk b n) hb hx,fun b o e n hb hx=>u.slot b o e (mk b n) hb hx,fun b o e n hx=>?_,u.there,fun b xs e=>up _ _ (u.tups b xs (zS hc e (by intro _ _ _ z;cases z))),fun b o x e=>?_,fun b ps e=>?_⟩
 ·rw[yo (no b n)]
  exact u.free b o e (mk b n) hx
 ·by_cases z:b∈as
  ·rw[x0 z];exact e
  ·rw[yo z]
   exact u.frzs b o x (by rw[zU z];exact e)
 ·obtain⟨more,q⟩:=u.tbls b ps (zS hc e (by intro _ _ _ z;cases z))
  exact⟨more,up _ _ q⟩
end
theorem wc{CX:CXT}{P:Program}{w:World}{K:uc}{mg:Str->Option Value}{base:Heap}{k:Nat}{f c:Addr}{name qual:Str}{params:Arguments}{body:Expr}{scope:Scope}{cl:List (Str×Addr)}{pm ct:Value}
  {N ps fs:List Str} {sp:Sp} (S:LamScope N ps fs scope) (len:∀vs H Q E,sp vs H Q E->vs.length=ps.length)
  (hbody:∀(A:Around)(outer:List Env)(s:Shared)(H:Hp)(vs:List V)(Q:VK)(E:XK),Room k (A.deeper (PySem.W.envX qual scope s.heap.objs.size f (.ref c) cl))->sp vs H Q E ->
   H f=some (FunO f (PySem.W.kla_fn name qual params body scope cl pm (.ref c) ct))/\H c=some (CodO c qual)/\∃fvs,Clo H cl fs fvs /\
   ∃t,jE (WP CX P w K mg base N qual scope f (.ref c) cl A outer s H E) body t/\t (vs.map some++fvs.map some) (zY H (cl.map (·.2))) fun v H'=>(∀a∈cl.map (·.2),H' a=none)->Q v (yT H' H (cl.map (·.2)))) :
  FnOk P w K mg base CX (k+1) f (PySem.W.kla_fn name qual params body scope cl pm (.ref c) ct) ps sp:=by
 refine⟨len,fun A outer s H args us vs Q E hr e0 hb r hsp=>?_⟩
 have hl:=len _ _ _ _ hsp
 have lim:s.heap.NoLimit:=e0.mod.nolimit.keeps fun b o e=>(e0.bs b o e).1
 obtain⟨hf,hc,fvs,C,t,ht,hq⟩:=hbody A outer s H vs Q E (hr.deeper _) hsp
 have of:=(e0.hok f _ hf).1
 have oc:=(e0.hok c _ hc).1
 have hcA:∀a∈cl.map (·.2),∃v,Cel H a v:=fun a ha=>by
  obtain⟨p,hp,rfl⟩:=uG.mp ha
  exact C.all p hp
 have hcl:∀x a,cl.lookup x=some a->a∈cl.map (·.2):=fun x a e=>uG.mpr ⟨(x,a),u0 e,rfl⟩
 refine PySem.W.kla_callFunE hr.depth of rfl S.co S.gen rfl oc (hb _ _ _ _ ?_)
 refine wpAny_newFunctionEnv S.nocell (fun y hy=>S.par _ (UO hy).1) (fun h₁ hns hsb=>?_) S.kind
 have hk₁:∀b o,s.heap.get? b=some o->h₁.get? b=some o:=fun b o e=>hsb.extBut b o (uK (uy e)) (ue _ e)
 refine⟨lim.keeps hk₁,PySem.W.kla_codeExpr ?_⟩
 have isc:∀x a,cl.lookup x=some a->∃v,Cel H a v:=fun x a e=>hcA a (hcl x a e)
 have cget:∀a v,Cel H a v->∃u,RelV v u/\s.heap.IsCell a (some u):=fun a v ⟨o,q⟩=>(e0.hok a _ q).2.1
 have I:Inv (WP CX P w K mg base N qual scope f (.ref c) cl A outer s H E) [] (vs.map some++fvs.map some) (zY H (cl.map (·.2))) { s with heap:=h₁,toks:=s.toks+(ps.zip us).length }:=by
  have noA:∀b:Addr,b∉(WP CX P w K mg base N qual scope f (.ref c) cl A outer s H E).ex:=fun b z=>absurd (show b∈([]:List Addr)from z) (by simp)
  have mnone:∀b,H b=none->zY H (cl.map (·.2)) b=none:=fun b e=>by
   unfold zY
   split
   ·rfl
   ·exact e
  refine⟨⟨e0.mod,S.kind,rfl,rfl,ud _,fun y z a h1 h2=>C.inj y z a h1 h2,fun y hy=>?_,fun y a z=>absurd (show false=true from z) (by decide),fun _=>hr.hd,Around.frames_deeper e0.frames,.inr ⟨rfl,rfl⟩,fun b z=>absurd z (noA b),fun b o e=>⟨(e0.bs b o e).1,mnone _ (e0.bs b o e).2⟩,e0.bsz,fun b _ _=>noA b,fun b z=>absurd z (noA b),e0.funs,fun b hb=>mnone _ (e0.frf b hb)⟩,
   rfl,e0.bare,Un.kept hk₁,⟨_,hns,fun i y v h1 h2 h3=>?_⟩,fun y a h=>?_,mnone _ (e0.hok.fresh (ud _)),fun y a h=>xZ (hcl y a h),fun p hp=>absurd (show p∈([]:List (Addr×Obj))from hp) (by simp),YJ hcA (e0.hok.kept hk₁),?_⟩
  ·have hy:scope.names.lookup y=some .cell\/scope.names.lookup y=some .free:=hy
   rcases hy with hy|hy
   ·exact absurd rfl (S.nocell _ (u0 hy))
   ·exact C.has y (S.has _ (u0 hy) rfl)
  ·have h1:(ps++fs)[i]?=some y:=by rw[<- S.cat];exact h1
   have ndP:ps.Nodup:=by have:=S.nd;rw[S.cat]at this;exact(List.nodup_append.mp this).1
   by_cases hi:i < vs.length
   ·rw[uX (by simpa using hi),ug]at h2
    rw[uX (by lia)]at h1
    cases e:vs[i]? with
    |none=>rw[e]at h2;cases h2
    |some a =>
     rw[e]at h2;cases h2
     obtain⟨u,hu,rv⟩:=r.get e
     exact⟨u,rv,.inl ⟨S.par y (uw h1),vo ndP h1 hu⟩⟩
   ·rw[uY (by simpa using hi),ug]at h2
    rw[uY (by lia)]at h1
    rw[ua,hl]at h2
    cases e:fvs[i-ps.length]? with
    |none=>rw[e]at h2;cases h2
    |some a =>
     rw[e]at h2;cases h2
     obtain⟨ca,g1,g2⟩:=C.get _ _ _ h1 e
     obtain⟨u,rv,q⟩:=cget _ _ g2
     exact⟨u,rv,.inr ⟨.inr (S.fre y (uw h1)),ca,g1,q.keeps hk₁⟩⟩
  ·obtain⟨v,q⟩:=isc y a h
   obtain⟨u,_,q⟩:=cget _ _ q
   exact⟨_,q.keeps hk₁⟩
  ·show _=N.length
   rw[S.cat,ub,ub,ua,ua,C.len,hl]
 refine wpAny_mono (ht.out [] _ _ _ _ I hq) (fun u s' hs=>?_) fun e s' hs=>hs
 obtain⟨v,H',J,rv,q⟩:=hs
 have hn:∀a∈cl.map (·.2),H' a=none:=fun a ha=>by
  obtain⟨v,o,q⟩:=hcA a ha
  obtain⟨e1,_⟩:=e0.hok a _ q
  exact J.base.free a o e1 (xZ ha) (by exact fun z=>absurd (show a∈([]:List Addr)from z) (by simp))
 refine⟨v,_,J.os,J.bare,JH hcA J.base hn,JG hn (fun a ha u e=>?_) e0.hok J.hok,rv,q hn⟩
 obtain⟨v',o,q'⟩:=hcA a ha
 rw[q']at e;cases e
 obtain⟨e1,_⟩:=e0.hok a _ q'
 refine⟨v',o,rfl,e1,J.base.keep a o e1 (xZ ha) (fun z=>?_) (fun z=>absurd (show a∈([]:List Addr)from z) (by simp))⟩
 rw[e0.frf a z]at q'
 cases q'
structure EndsR where
 nx:St->Hp->Prop
 rt:St->V->Hp->Prop
abbrev TR:=EndsR->St->Hp->Prop
def SPR(X:Cx)(D:EndsR)(f:Flow)(s':Shared):Prop :=
 match f with
 |.next=>∃σ' H',Inv X [] σ' H' s'/\D.nx σ' H'
 |.ret u=>∃v σ' H',Inv X [] σ' H' s'/\RelV v u/\D.rt σ' v H'
 |_=>False
structure jR(X:Cx)(st:List Stmt)(t:TR):Prop where
 out:∀(s:Shared)(σ:St)(H:Hp)(D:EndsR),Inv X [] σ H s->t D σ H->wpAny (model X.prog X.w) X.A (execs st X.env) (SPR X D) X.xe s
section
variable{X:Cx}{st:Stmt}{rest A:List Stmt}{t:TS}{u tA:TR}{e c:Expr}{te:TE}{tc:TT}{pos:Pos}
theorem zaW:jR X [] (fun D σ H=>D.nx σ H):=⟨fun _ σ H _ I h=>wpAny_execs_nil ⟨σ,H,I,h⟩⟩
theorem jB(h1:jS X st t)(h2:jR X rest u):jR X (st::rest) (fun D σ H=>t { nx:=u D,rt:=fun _ _=>False } σ H):=⟨by
 intro s σ H D I h
 refine wpAny_execs_cons (thn (h1.out [] s σ H { nx:=u D,rt:=fun _ _=>False } I h) fun f s1 q=>?_)
 cases f with
 |next =>
  obtain⟨σ',H',I',q⟩:=q
  exact h2.out s1 σ' H' D I' q
 |ret v =>
  obtain⟨_,_,_,_,_,q⟩:=q
  exact False.elim q
 |brk =>
  obtain⟨_,_,_,q⟩:=q
  exact False.elim q
 |cont =>
  obtain⟨_,_,_,q⟩:=q
  exact False.elim q⟩
theorem Yd(he:jE X e te):jR X [.Return (some e) pos] (fun D σ H=>te σ H (D.rt σ)):=⟨by
 intro s σ H D I h
 refine wpAny_execs_cons (wpAny_Return_some (thn (he.out [] s σ H _ I h) fun v s1 ⟨x,H1,I1,r1,q1⟩=>?_))
 exact⟨x,σ,H1,I1,r1,q1⟩⟩
theorem QM(hc:jT X c tc)(hA:jR X A tA)(hR:jR X rest u):jR X (.If c A [] pos::rest) (fun D σ H=>tc σ H fun b H1=>if b=true then tA { D with nx:=u D } σ H1 else u D σ H1):=⟨by
 intro s σ H D I h
 refine wpAny_execs_cons (wpAny_If (thn (hc.out [] s σ H _ I h) fun b s1 ⟨H1,I1,q1⟩=>?_))
 cases b with
 |true =>
  rw[if_pos rfl]at q1
  refine thn (hA.out s1 σ H1 { D with nx:=u D } I1 q1) fun f s2 q=>?_
  cases f with
  |next =>
   obtain⟨σ',H',I',q⟩:=q
   exact hR.out s2 σ' H' D I' q
  |ret v=>exact q
  |brk=>exact q
  |cont=>exact q
 |false =>
  rw[if_neg (by decide)]at q1
  exact wpAny_execs_nil (hR.out s1 σ H1 D I1 q1)⟩
end
structure Pub(H H3:Hp)(cvs:List (Addr×V)):Prop where
 old:∀b,b∉cvs.map (·.1)->H3 b=H b
 non:∀p∈cvs,H p.1=none
 cel:∀p∈cvs,Cel H3 p.1 p.2
def CellsAt(X:Cx)(σ:St)(cvs:List (Addr×V)):Prop:=∀p∈cvs,∃(i:Nat)(x:Str),X.N[i]?=some x/\σ[i]?=some (some p.2)/\X.env.cells.lookup x=some p.1/\(X.env.scope.names.lookup x=some .cell\/X.env.scope.names.lookup x=some .free)
theorem CellsAt.cell{X:Cx}{pins:List (Addr×Obj)}{σ:St}{H:Hp}{s:Shared}{cvs:List (Addr×V)}(I:Inv X pins σ H s)(h:CellsAt X σ cvs):∀p∈cvs,∃o u,s.heap.get? p.1=some o/\o.data=.cell (some u)/\RelV p.2 u:=fun p hp=>by
 obtain⟨i,x,e1,e2,e3,e4⟩:=h p hp
 obtain⟨m,_,l⟩:=I.loc
 obtain⟨u,r,l⟩:=l i x _ e1 e2 (.inr e4)
 rcases l with⟨k,_⟩|⟨_,c,q,o,e,d⟩
 ·have k:X.env.scope.names.lookup x=some .local:=k
  rcases e4 with e4|e4<;>rw[e4]at k<;>cases k
 ·rw[e3]at q;cases q
  exact⟨o,u,e,d,r⟩
def pubH(h:Heap)(H:Hp)(cvs:List (Addr×V)):Hp:=fun b=>match cvs.find? (fun p=>p.1 == b)with
 |some p=>some (.frz ((h.get? b).getD { cls:=.none,data:=.plain }) (CelO b p.2))
 |none=>H b
theorem Ye{h:Heap}{H:Hp}{cvs:List (Addr×V)}{b:Addr}(hb:b∈cvs.map (·.1)):∃v,(b,v)∈cvs/\pubH h H cvs b=some (.frz ((h.get? b).getD { cls:=.none,data:=.plain }) (CelO b v)):=by
 obtain⟨p,hp,rfl⟩:=uG.mp hb
 cases e:cvs.find? (fun q=>q.1 == p.1)with
 |none=>exact absurd (List.find?_eq_none.mp e p hp) (by simp)
 |some q =>
  have h1:=List.find?_some e
  have h2:=List.mem_of_find?_eq_some e
  have h3:q.1=p.1:=by simpa using h1
  refine⟨q.2,by rw[<- h3];exact h2,?_⟩
  unfold pubH
  rw[e]
theorem yB{h:Heap}{H:Hp}{cvs:List (Addr×V)}{b:Addr}(hb:b∉cvs.map (·.1)):pubH h H cvs b=H b:=by
 unfold pubH
 rw[List.find?_eq_none.mpr fun p hp=>by simpa using fun z:p.1=b=>hb (uG.mpr ⟨p,hp,z⟩)]
section
variable{X:Cx}{pins:List (Addr×Obj)}{σ:St}{H:Hp}{s:Shared}{cvs:List (Addr×V)}
theorem JI(I:Inv X pins σ H s)(h:CellsAt X σ cvs)(hN:X.N.Nodup){b:Addr}{v v':V}(h1:(b,v)∈cvs)(h2:(b,v')∈cvs):v=v':=by
 obtain⟨i,x,e1,e2,e3,_⟩:=h _ h1
 obtain⟨j,y,g1,g2,g3,_⟩:=h _ h2
 have:=I.ok.inj x y b e3 g3
 subst this
 have:i=j:=(List.getElem?_inj (uf.mp e1).1 hN).mp (e1.trans g1.symm)
 subst this
 rw[e2]at g2
 cases g2
 rfl
theorem WQ(I:Inv X pins σ H s)(h:CellsAt X σ cvs)(hN:X.N.Nodup):Pub H (pubH s.heap H cvs) cvs :=
 ⟨fun b hb=>yB hb,fun p hp=>let ⟨_,x,_,_,e3,_⟩:=h p hp;I.freeC x _ e3,fun p hp=>by
  obtain⟨v,hv,e⟩:=Ye (h:=s.heap) (H:=H) (uG.mpr ⟨p,hp,rfl⟩)
  have:=JI I h hN (b:=p.1) (v:=v) (v':=p.2) hv hp
  subst this
  exact⟨_,e⟩⟩
theorem WR(I:Inv X pins σ H s)(h:CellsAt X σ cvs):HOk X.prog X.w (pubH s.heap H cvs) s.heap:=fun b u e=>by
 have up:∀d z,H d=some z->pubH s.heap H cvs d=some z:=fun d z q=>by
  rw[yB]
  ·exact q
  ·intro y
   obtain⟨p,hp,rfl⟩:=uG.mp y
   obtain⟨_,x,_,_,e3,_⟩:=h p hp
   rw[I.freeC x _ e3]at q;cases q
 by_cases hb:b∈cvs.map (·.1)
 ·obtain⟨v,hv,e'⟩:=Ye (h:=s.heap) (H:=H) hb
  rw[e']at e;cases e
  obtain⟨o,u,e1,e2,r⟩:=h.cell I _ hv
  have e1:s.heap.get? b=some o:=e1
  rw[e1]
  exact WN e1 e2 r
 ·rw[yB hb]at e
  exact(I.hok b u e).stay (fun _ _ _ q=>q) (fun d q=>up d _ q) fun d xs q=>up d _ q
end
theorem zaX{CX:CXT}{P:Program}{w:World}{K:uc}{mg:Str->Option Value}{base:Heap}{k:Nat}{f:Addr}{name qual:Str}{params:Arguments}{body:List Stmt}{scope:Scope}{dV kV doc pm cdv ct oc:Value}{an od:Option Addr}
  {osl:Array (Option Value)} {N ps:List Str} {sp:Sp} (lk:K.lookup f=some ⟨oc,od,.func (uZ name qual params body scope dV kV doc pm an cdv ct),osl⟩) (hcd:Uy K cdv qual=true) (S:FnScope N ps scope)
  (len:∀vs H Q E,sp vs H Q E->vs.length=ps.length)
  (hbody:∀(A:Around)(outer:List Env)(s:Shared)(H:Hp)(vs:List V)(Q:VK)(E:XK),Room k (A.deeper (envOfC qual scope s.heap.objs.size f cdv))->sp vs H Q E->(∀b,s.heap.objs.size<=b->H b=none) ->
   ∃t,jR (cxOf CX P w K mg base N qual scope f cdv A outer s H E) body t/\t { nx:=fun _ H'=>Q .non H',rt:=fun σ v H'=>∃cvs,CellsAt (cxOf CX P w K mg base N qual scope f cdv A outer s H E) σ cvs/\∀H3,Pub H' H3 cvs->Q v H3 } (yK N vs) H) :
  FnOk P w K mg base CX (k+1) f (uZ name qual params body scope dV kV doc pm an cdv ct) ps sp:=by
 refine⟨len,fun A outer s H args us vs Q E hr e0 hb r hsp=>?_⟩
 have hl:=len _ _ _ _ hsp
 have KX:K.In s.heap:=e0.mod.kin.keeps fun b o e=>(e0.bs b o e).1
 have lim:s.heap.NoLimit:=e0.mod.nolimit.keeps fun b o e=>(e0.bs b o e).1
 have hkind:∀y∈ps.zip us,scope.names.lookup y.1=some .local\/(scope.names.lookup y.1=some .cell/\((cellsFrom (s.heap.objs.size+1) scope.names []).lookup y.1).isSome=true):=fun⟨n,v⟩ hy=>by
  rcases S.par n (UO hy).1 with q|q
  ·exact .inl q
  ·exact .inr ⟨q,PySem.W.cellsFrom_some _ _ _ (.inl q)⟩
 refine codeAny_call_function hr.depth (KX _ _ lk) rfl S.co S.gen rfl (PySem.W.codeRec_of KX hcd) (hb _ _ _ _ ?_)
 refine wpAny_newFunctionEnv_cells S.kind hkind fun env he s1 x=>?_
 subst he
 refine⟨lim.keeps x.toInCall.keep,codeAny_func ?_⟩
 obtain⟨t,ht,hq⟩:=hbody A outer s H vs Q E (hr.deeper _) hsp fun b hb=>e0.hok.fresh hb
 have I:Inv (cxOf CX P w K mg base N qual scope f cdv A outer s H E) [] (yK N vs) H s1:=vZ S hr.hd e0 hl r x
 refine wpAny_mono (ht.out s1 (yK N vs) H _ I hq) (fun fl s' hs=>?_) fun e s' hs=>hs
 cases fl with
 |ret u =>
  obtain⟨v,σ',H',J,rv,cvs,hc,q⟩:=hs
  have pb:=WQ J hc S.nd
  have q:=q _ pb
  have ab:∀b,b∈cvs.map (·.1)->s.heap.objs.size<=b:=fun b hb=>by
   obtain⟨p,hp,rfl⟩:=uG.mp hb
   obtain⟨_,x,_,_,e3,_⟩:=hc p hp
   exact J.ok.cab x _ rfl e3
  have no:∀b o,H' b=some o->b∉cvs.map (·.1):=fun b o e hb=>by
   obtain⟨p,hp,rfl⟩:=uG.mp hb
   rw[pb.non p hp]at e;cases e
  have un:Un (frs outer) [] H H' s.heap s'.heap:=J.base
  refine⟨v,_,J.os,J.bare,⟨un.keep,un.slot,fun b o e n hx=>?_,un.there,fun b xs e=>?_,fun b o xs e=>?_,fun b p e=>?_⟩,WR J hc,rv,q⟩
  ·rw[pb.old b fun z=>absurd (uC (uy e) (ab b z)) (Ut _)]
   exact un.free b o e n hx
  ·have e':=un.tups b xs e
   rw[pb.old b (no b _ e')];exact e'
  ·have e':=un.frzs b o xs e
   rw[pb.old b (no b _ e')];exact e'
  ·obtain⟨more,e'⟩:=un.tbls b p e
   exact⟨more,by rw[pb.old b (no b _ e')];exact e'⟩
 |next =>
  obtain⟨σ',H',J,q⟩:=hs
  exact⟨.non,H',J.os,J.bare,J.base,J.hok,rfl,q⟩
 |brk=>exact False.elim hs
 |cont=>exact False.elim hs
def zaY(X:Cx)(sp:Sp)(E:XK)(t:TA):TE:=fun σ H Q=>t σ H fun vs H1=>∃cvs,CellsAt X σ cvs/\∀H3,Pub H1 H3 cvs->sp vs H3 (fun r H4=>(∀p∈cvs,Cel H4 p.1 p.2)->Q r (zY H4 (cvs.map (·.1)))) E
theorem WS{X:Cx}{k:Nat}{ps:List Str}{sp:Sp}{E:XK}{x:Str}{p pos:Pos}{e:Expr}{es:List Expr}{t:TA}(F:Ca X.prog X.w X.K X.mg X.base CX0 k x ps sp)(hr:Room k X.A)(hN:X.N.Nodup)(hg:Gl X x)(hfn:∀x,X.fn x=true)(ha:jA X (e::es) t)
  (hdb:(x == ("__debug__":Str))=false:=by decide) (h1:zv e=false:=by rfl) (h2:es.all (fun e=>!zv e)=true:=by rfl) :
  jE X (.Call (.Name x p) (e::es) [] pos) (zaY X sp E t):=⟨by
 obtain⟨f,fd,F,hb,hk,hm⟩:=F.ex
 intro pins s σ H Q I h
 refine wpAny_Call_Name_kw (wP I hg hm ?_ hdb)
 refine UX (h₀:=X.base) I.ok.mod.kin hk (thn (ha.out pos pins s σ H _ I h) fun us s1 ⟨vs,H1,I1,r,cvs,hc,q⟩=>⟨I1.kIn,?_⟩) (zJ h1) (yj h2)
 have pb:=WQ I1 hc hN
 have ok3:=WR I1 hc
 have q:=q _ pb
 have hl:us.length=ps.length:=by rw[<- r.length];exact F.len _ _ _ _ q
 have nas:∀b o,H1 b=some o->b∉cvs.map (·.1):=fun b o e hb=>by
  obtain⟨p,hp,rfl⟩:=uG.mp hb
  rw[pb.non p hp]at e;cases e
 have e0:Env0 X.prog X.w X.K X.mg X.base X.A X.stack s1 (pubH s1.heap H1 cvs):=by
  have z:=I1.env0
  refine⟨z.frames,z.mod,fun b o e=>⟨(z.bs b o e).1,?_⟩,z.bsz,z.funs,fun b hb=>?_,ok3,z.bare⟩
  ·rw[yB]
   ·exact(z.bs b o e).2
   ·intro hb
    obtain⟨p,hp,rfl⟩:=uG.mp hb
    obtain⟨_,y,_,_,e3,_⟩:=hc p hp
    exact absurd (uC (uy e) (uD I1.ok.bsz (I1.ok.cab y _ (hfn y) e3))) (Ut _)
  ·rw[yB]
   ·exact z.frf b hb
   ·intro hb'
    obtain⟨p,hp,rfl⟩:=uG.mp hb'
    obtain⟨_,y,_,_,e3,_⟩:=hc p hp
    rcases um.mp (I1.stkSub _ hb)with q|q
    ·exact I1.cne y _ e3 q
    ·obtain⟨_,o,ho,_⟩:=I1.ok.funs.mem q
     exact absurd (uC (uy ho) (I1.ok.cab y _ (hfn y) e3)) (Ut _)
 refine wpAny_call (codeAny_mono (F.run X.A X.stack s1 _ ⟨us,[]⟩ us vs _ E hr e0 (by have:=hb s1 us I1.kIn (by simpa using hl);simpa using this) r q) fun r s' hq=>?_)
 cases r with
 |error e=>exact False.elim hq
 |ok fl =>
  cases fl with
  |next=>exact False.elim hq
  |brk=>exact False.elim hq
  |cont=>exact False.elim hq
  |ret u =>
   refine I1.after ?_
   obtain⟨v,H4,os,bare,un,hok,rv,q⟩:=hq
   have cel4:∀b,b∈cvs.map (·.1)->∃o v,s1.heap.get? b=some o/\s'.heap.get? b=some o/\H4 b=some (.frz o (CelO b v)):=fun b hb=>by
    obtain⟨v,hv,e⟩:=Ye (h:=s1.heap) (H:=H1) hb
    have e4:=un.frzs b _ _ e
    exact⟨_,v,(ok3 b _ e).1,(hok b _ e4).1,e4⟩
   have hcA:∀a∈cvs.map (·.1),∃v,Cel H4 a v:=fun a ha=>let ⟨o,v,_,_,e⟩:=cel4 a ha;⟨v,o,e⟩
   have up:∀b o,H1 b=some o->pubH s1.heap H1 cvs b=some o:=fun b o e=>by rw[yB (nas b o e)];exact e
   refine⟨v,_,os,bare,⟨fun b o e n hb hx=>?_,fun b o e n hb hx=>?_,fun b o e n hx=>?_,un.there,fun b xs e=>?_,fun b o xs e=>?_,fun b p e=>?_⟩,YJ hcA hok,rv,q fun p hp=>let ⟨o,e⟩:=pb.cel p hp;⟨o,un.frzs _ _ _ e⟩⟩
   ·by_cases hb':b∈cvs.map (·.1)
    ·obtain⟨o',_,e1,e2,_⟩:=cel4 b hb'
     rw[e]at e1;cases e1
     exact e2
    ·exact un.keep b o e (by rw[yB hb'];exact n) hb hx
   ·by_cases hb':b∈cvs.map (·.1)
    ·obtain⟨o',_,e1,e2,_⟩:=cel4 b hb'
     rw[e]at e1;cases e1
     exact⟨o.slots,e2⟩
    ·exact un.slot b o e (by rw[yB hb'];exact n) hb hx
   ·by_cases hb':b∈cvs.map (·.1)
    ·exact xZ hb'
    ·rw[zU hb']
     exact un.free b o e (by rw[yB hb'];exact n) hx
   ·rw[zU (nas b _ e)]
    exact un.tups b xs (up _ _ e)
   ·rw[zU (nas b _ e)]
    exact un.frzs b o xs (up _ _ e)
   ·obtain⟨more,e'⟩:=un.tbls b p (up _ _ e)
    exact⟨more,by rw[zU (nas b _ e)];exact e'⟩⟩
def WT(P:Program)(w:World)(K:uc)(mg:Str->Option Value)(base:Heap)(k:Nat)(E:XK)(i:Nat)(t:TA):TE:=fun σ H Q=>∃f,σ[i]?=some (some (.ref f)) /\
 (((∃fd,H f=some (FunO f fd))/\t σ H fun vs H1=>∃fd ps sp,FnOk P w K mg base CX0 k f fd ps sp/\Binds K fd ps []/\H1 f=some (FunO f fd)/\sp vs H1 Q E) \/
   (uP K (.ref f)=true/\t σ H fun vs H1=>∃fd ps sp,FnOk P w K mg base CX0 k f fd ps sp/\Binds K fd ps []/\sp vs H1 Q E))
theorem Zi{X:Cx}{k:Nat}{E:XK}{i:Nat}{x:Str}{p pos:Pos}{e:Expr}{es:List Expr}{t:TA}(hr:Room k X.A)(hn:jE X (.Name x p) (tVar i))(hx:yy CX0 X E)(ha:jA X (e::es) t)(h1:zv e=false:=by rfl)(h2:es.all (fun e=>!zv e)=true:=by rfl):
  jE X (.Call (.Name x p) (e::es) [] pos) (WT X.prog X.w X.K X.mg X.base k E i t):=⟨by
 intro pins s σ H Q I h
 obtain⟨f,hf,h⟩:=h
 refine wpAny_Call_Name_kw (thn (hn.out pins s σ H (fun v H1=>v=.ref f/\H1=H) I ⟨_,hf,rfl,rfl⟩) fun u s0 ⟨v,H0,I0,r0,e1,e2⟩=>?_)
 subst e1;subst e2
 cases r0
 rcases h with⟨⟨fd,hF⟩,h⟩|⟨hk,h⟩
 ·refine PySem.W.callWith_F ⟨_,_,_,_,(I0.hok f _ hF).1⟩ (thn (ha.out pos pins s0 σ H0 _ I0 h) fun us s1 ⟨vs,H1,I1,r,fd,ps,sp,F,hb,hF1,q⟩=>⟨⟨_,_,_,_,(I1.hok f _ hF1).1⟩,?_⟩) (zJ h1) (yj h2)
  exact jf F hr hb .nil hx I1 r (by rw[Uq];exact q)
 ·refine UX (h₀:=X.base) I0.ok.mod.kin hk (thn (ha.out pos pins s0 σ H0 _ I0 h) fun us s1 ⟨vs,H1,I1,r,fd,ps,sp,F,hb,q⟩=>⟨I1.kIn,?_⟩) (zJ h1) (yj h2)
  exact jf F hr hb .nil hx I1 r (by rw[Uq];exact q)⟩
structure FunC(K:uc)(x:Str)(st:Stmt)(c f:Addr)(fd:FuncData):Prop where
 ex:∃(oc:Value)(od:Option Addr)(kV doc pm:Value)(an:Option Addr)(ct:Value)(osl:Array (Option Value)),fd=uZ x x (z0 st) (zF st) (zo st) .none kV doc pm an (.ref c) ct/\K.lookup f=some ⟨oc,od,.func fd,osl⟩/\Uy K (.ref c) x=true
section
variable{P:Program}{w:World}{K:uc}{mg:Str->Option Value}{base h:Heap}{x:Str}{st:Stmt}{c f:Addr}{fd:FuncData}{N ps:List Str}{k:Nat}{sp:Sp}
theorem FunC.by(F:FunC K x st c f fd)(S:FnScope N ps (zo st))(len:∀vs H Q E,sp vs H Q E->vs.length=ps.length)
  (hbody:∀(A:Around)(outer:List Env)(s:Shared)(H:Hp)(vs:List V)(Q:VK)(E:XK),Room k (A.deeper (envOfC x (zo st) s.heap.objs.size f (.ref c)))->sp vs H Q E ->
   ∃t,jSs (cxOf CX0 P w K mg base N x (zo st) f (.ref c) A outer s H E).nox (zF st) t/\t { nx:=fun _ H'=>Q .non H',rt:=Q } (yK N vs) H):FnOk P w K mg base CX0 (k+1) f fd ps sp:=by
 obtain⟨oc,od,kV,doc,pm,an,ct,osl,rfl,lk,hcd⟩:=F.ex
 refine QG lk hcd S len fun A outer s H vs Q E hr hsp=>?_
 obtain⟨t,h,q⟩:=hbody A outer s H vs Q E hr hsp
 exact⟨t,h.out.nox,q⟩
theorem FunC.byR(F:FunC K x st c f fd)(S:FnScope N ps (zo st))(len:∀vs H Q E,sp vs H Q E->vs.length=ps.length)
  (hbody:∀(A:Around)(outer:List Env)(s:Shared)(H:Hp)(vs:List V)(Q:VK)(E:XK),Room k (A.deeper (envOfC x (zo st) s.heap.objs.size f (.ref c)))->sp vs H Q E->(∀b,s.heap.objs.size<=b->H b=none) ->
   ∃t,jR (cxOf CX0 P w K mg base N x (zo st) f (.ref c) A outer s H E) (zF st) t/\t { nx:=fun _ H'=>Q .non H',rt:=fun σ v H'=>∃cvs,CellsAt (cxOf CX0 P w K mg base N x (zo st) f (.ref c) A outer s H E) σ cvs/\∀H3,Pub H' H3 cvs->Q v H3 } (yK N vs) H) :
  FnOk P w K mg base CX0 (k+1) f fd ps sp:=by
 obtain⟨oc,od,kV,doc,pm,an,ct,osl,rfl,lk,hcd⟩:=F.ex
 exact zaX lk hcd S len hbody
def DcIn(K:uc)(x:Str)(st:Stmt)(c:Addr):Prop:=∃f,Ul K mainGlobals x=some (some (.ref f))/\∃(oc:Value)(od:Option Addr)(kV doc pm:Value)(an:Option Addr)(ct:Value)(osl:Array (Option Value)),K.lookup f=some ⟨oc,od,.func (uZ x x (z0 st) (zF st) (zo st) .none kV doc pm an (.ref c) ct),osl⟩/\Uy K (.ref c) x=true/\uP K (.ref f)=true
theorem DcIn.mk{oc:Value}{od:Option Addr}{kV doc pm:Value}{an:Option Addr}{ct:Value}{osl:Array (Option Value)}(a:Ul K mainGlobals x=some (some (.ref f)))(l:K.lookup f=some ⟨oc,od,.func (uZ x x (z0 st) (zF st) (zo st) .none kV doc pm an (.ref c) ct),osl⟩)(cc:Uy K (.ref c) x=true)(k:uP K (.ref f)=true):DcIn K x st c:=⟨f,a,oc,od,kV,doc,pm,an,ct,osl,l,cc,k⟩
theorem DcIn.ca(X:K.In h)(G:h.Ns mainGlobals mg)(d:DcIn K x st c)(hb:∀(kV doc pm:Value)(an:Option Addr)(ct:Value)(us:List Value),us.length=ps.length->bindArgs (uZ x x (z0 st) (zF st) (zo st) .none kV doc pm an (.ref c) ct) ⟨us,[]⟩=pure (ps.zip us))
  (ok:∀f fd,FunC K x st c f fd->FnOk P w K mg base CX0 k f fd ps sp):Ca P w K mg base CX0 k x ps sp:=by
 obtain⟨f,a,oc,od,kV,doc,pm,an,ct,osl,l,cc,kp⟩:=d
 exact⟨f,_,ok f _ ⟨oc,od,kV,doc,pm,an,ct,osl,rfl,l,cc⟩,.all fun us hl=>hb kV doc pm an ct us hl,kp,UV X G a⟩
end
def TbG(T:Addr)(ls:List (Pos×Str))(H:Hp):Prop:=∃ps,H T=some (.tbl ps)/\TriplesOk ps.toList/\∀p∈ls,codeAmong p.1 ps.toList=none\/∃c,codeAmong p.1 ps.toList=some (.ref c)/\H c=some (CodO c p.2)
theorem XB{a b:Int}{c:Value}(l:List Value)(h:TriplesOk l):TriplesOk (l++[rawInt a,rawInt b,c]):=by
 fun_induction TriplesOk l with
 |case1=>trivial
 |case2 i t j u v rest ih=>exact ih h
 |case3=>exact False.elim h
theorem Zj{pos p':Pos}{c:Value}(l:List Value)(h:TriplesOk l)(n:¬ (p'.line=pos.line/\p'.col=pos.col)):codeAmong pos (l++[rawInt p'.line,rawInt p'.col,c])=codeAmong pos l:=by
 fun_induction TriplesOk l with
 |case1 =>
  show(if((p'.line:Nat):Int) == (pos.line:Nat) && ((p'.col:Nat):Int) == (pos.col:Nat)then some c else codeAmong pos [])=_
  rw[if_neg]
  simp
  intro e e'
  exact n ⟨by lia,by lia⟩
 |case2 i t j u v rest ih =>
  show(if i == (pos.line:Nat) && j == (pos.col:Nat)then some v else codeAmong pos (rest++_))=if i == (pos.line:Nat) && j == (pos.col:Nat)then some v else codeAmong pos rest
  rw[ih h]
 |case3=>exact False.elim h
theorem XC{pos p':Pos}(l:List Value)(n:p'.line=pos.line/\p'.col=pos.col):codeAmong pos l=codeAmong p' l:=by
 fun_induction codeAmong pos l with
 |case1 line _ col _ c rest h=>rw[codeAmong,n.1,n.2,if_pos h]
 |case2 line _ col _ c rest h ih=>rw[codeAmong,n.1,n.2,if_neg h];exact ih
 |case3 l h =>
  unfold codeAmong
  split
  ·exact absurd rfl (h _ _ _ _ _ _)
  ·rfl
theorem TbG.keep{T:Addr}{ls:List (Pos×Str)}{H H':Hp}(h:TbG T ls H)(kt:∀ps,H T=some (.tbl ps)->H' T=some (.tbl ps))(kc:∀c q,H c=some (CodO c q)->H' c=some (CodO c q)):TbG T ls H':=by
 obtain⟨ps,e,t,h⟩:=h
 exact⟨ps,kt _ e,t,fun p hp=>(h p hp).imp_right fun⟨c,a,b⟩=>⟨c,a,kc _ _ b⟩⟩
theorem TbG.empty{T:Addr}{ls:List (Pos×Str)}{H:Hp}(h:H T=some (.tbl #[])):TbG T ls H:=⟨#[],h,trivial,fun p _=>.inl rfl⟩
theorem yU{mg:Str->Option Value}{T:Addr}{ls:List (Pos×Str)}{qual:Str}{params:Arguments}{body:Expr}{scope:Scope}{pos:Pos}{cl:List (Str×Addr)}{σ:St}{H:Hp}{Q:VK}(h:TbG T ls H)(hm:(pos,qual)∈ls)(hu:∀p∈ls,(pos.line=p.1.line/\pos.col=p.1.col)->p.2=qual)
  (q:∀H' f c ct,(∀b u,b≠T->H b=some u->H' b=some u)->TbG T ls H'->H f=none->f≠T->c≠T->H' f=some (FunO f (lamC mg qual params body scope cl c ct))->H' c=some (CodO c qual)->Q (.ref f) H'):WO mg T qual params body scope pos cl σ H Q:=by
 obtain⟨ps,hT,tr,ha⟩:=h
 refine⟨ps,hT,tr,?_⟩
 rcases ha _ hm with hn|⟨c,hs,hc⟩
 ·refine .inl ⟨hn,fun c f ct h1 h2 h3=>?_⟩
  have n1:T≠c:=zk hT h1
  have n2:T≠f:=zk hT h2
  have kp:∀b u,b≠T->H b=some u->upd (upd (upd H T (.tbl (ps ++ #[rawInt pos.line,rawInt pos.col,.ref c]))) c (CodO c qual)) f (FunO f (lamC mg qual params body scope cl c ct)) b=some u:=fun b u n e=>by rw[zi (zk e h2),zi (zk e h1),zi n];exact e
  have e2:upd (upd (upd H T (.tbl (ps ++ #[rawInt pos.line,rawInt pos.col,.ref c]))) c (CodO c qual)) f (FunO f (lamC mg qual params body scope cl c ct)) c=some (CodO c qual):=by rw[zi h3.symm];exact zf
  refine q _ f c ct kp ⟨_,by rw[zi n2,zi n1];exact zf,?_,fun p hp=>?_⟩ h2 n2.symm n1.symm zf e2
  ·rw[Array.toList_append]
   exact XB _ tr
  ·rw[Array.toList_append]
   by_cases z:pos.line=p.1.line/\pos.col=p.1.col
   ·refine .inr ⟨c,?_,by rw[e2,hu p hp z]⟩
    rw[XC _ z]
    exact codeAmong_snoc _ tr hn
   ·rw[show(#[rawInt pos.line,rawInt pos.col,Value.ref c]:Array Value).toList=[rawInt pos.line,rawInt pos.col,.ref c]from rfl,Zj _ tr z]
    refine(ha p hp).imp_right fun⟨d,a,b⟩=>⟨d,a,kp _ _ (fun w=>?_) b⟩
    rw[w,hT]at b
    cases b
 ·refine .inr ⟨c,hs,fun f ct h2=>?_⟩
  have kp:∀b u,H b=some u->upd H f (FunO f (lamC mg qual params body scope cl c ct)) b=some u:=fun b u e=>by rw[zi (zk e h2)];exact e
  refine q _ f c ct (fun b u _ e=>kp b u e) ⟨ps,kp _ _ hT,tr,fun p hp=>(ha p hp).imp_right fun⟨d,a,b⟩=>⟨d,a,kp _ _ b⟩⟩ h2 (zk hT h2).symm (fun w=>?_) zf (kp _ _ hc)
  rw[w,hT]at hc
  cases hc
section
variable{X:Cx}
end
end L2
namespace GN
open PySem L2
inductive All2{α β:Type}(F:α->β->Prop):List α->List β->Prop
 |nil:All2 F [] []
 |cons {a b l m}:F a b->All2 F l m->All2 F (a::l) (b::m)
section
variable{α β:Type}{F G:α->β->Prop}{l:List α}{m:List β}
theorem All2.imp(h:All2 F l m)(f:∀a b,F a b->G a b):All2 G l m:=by
 induction h with
 |nil=>exact .nil
 |cons a _ ih=>exact .cons (f _ _ a) ih
theorem All2.len(h:All2 F l m):l.length=m.length:=by
 induction h with
 |nil=>rfl
 |cons _ _ ih=>rw[uo,uo,ih]
theorem All2.app{l':List α}{m':List β}(h:All2 F l m)(g:All2 F l' m'):All2 F (l++l') (m++m'):=by
 induction h with
 |nil=>exact g
 |cons a _ ih=>exact .cons a ih
theorem All2.get(h:All2 F l m):∀{i:Nat}{b:β},m[i]?=some b->∃a,l[i]?=some a/\F a b:=by
 induction h with
 |nil=>intro i b e;simp at e
 |cons a _ ih =>
  intro i b e
  cases i with
  |zero=>simp at e;subst e;exact(ex2q rfl (a))
  |succ i=>simp at e;obtain⟨x,h1,h2⟩:=ih e;exact⟨x,by simpa using h1,h2⟩
end
theorem iteN{b:Bool}{A B:Prop}(e:b=false)(h:B):if b=true then A else B:=by rw[if_neg (by rw[e];decide)];exact h
def KM(M:Addr->Prop)(H H':Hp):Prop:=∀b u,¬ M b->H b=some u->H' b=some u
def Kz(M R:Addr->Prop)(H H':Hp):Prop:=∀b u,H b=some u->¬ M b->(∀xs,u=.lst xs->R b)->H' b=some u
def KO(M:Addr->Prop)(H H':Hp):Prop:=∀b u,H b=some u->(∀xs,u=.lst xs->M b)->H' b=some u
theorem KM.refl{M:Addr->Prop}{H:Hp}:KM M H H:=fun _ _ _ h=>h
theorem KM.trans{M:Addr->Prop}{H H1 H2:Hp}(a:KM M H H1)(b:KM M H1 H2):KM M H H2:=fun c u n h=>b c u n (a c u n h)
theorem KM.of{M:Addr->Prop}{H H1:Hp}(a:Same H H1):KM M H H1:=fun c u _ h=>a c u h
theorem KM.free{M:Addr->Prop}{H H1:Hp}{b:Addr}(a:KM M H H1)(n:¬ M b)(h:H1 b=none):H b=none:=by
 cases e:H b with
 |none=>rfl
 |some u=>rw[a b u n e]at h;cases h
theorem KM.put{M:Addr->Prop}{H H1:Hp}{p:Addr}{o:HO}(a:KM M H H1)(h:H p=none):KM M H (upd H1 p o):=fun b u n e=>by rw[zi (zk e h)];exact a b u n e
def CanC(P:Program)(w:World)(K:uc)(mg:Str->Option Value)(base:Heap)(k:Nat)(H:Hp)(f:Addr)(vs:List V)(Q:VK)(E:XK):Prop :=
 ∃fd ps sp,FnOk P w K mg base CX0 k f fd ps sp/\Binds K fd ps []/\sp vs H Q E/\(H f=some (FunO f fd)\/uP K (.ref f)=true)
def Chn{T S:Type}(pre post:T->S):S->List T->S->Prop
 |s,[],s'=>s=s'
 |s,t::ts,s'=>pre t=s/\Chn pre post (post t) ts s'
structure WoD(P:Program)(w:World)(K:uc)(mg:Str->Option Value)(base:Heap)(k:Nat) where
 Tk:Type
 M:Addr->Prop
 fb:Addr
 wt:Tk->Nat
 kids:Tk->List Tk
 wk:∀t,((kids t).map wt).sum+2<=wt t
 IT:Hp->(Addr->Prop)->Tk->V->Prop
 IR:Hp->(Addr->Prop)->Tk->V->Prop
 IF:Hp->(Addr->Prop)->Tk->V->Prop
 S:Type
 pre:Tk->S
 mid:Tk->S
 post:Tk->S
 chn:∀t,Chn pre post (mid t) (kids t) (post t)
 Ok:S->Hp->Prop
 itk:∀{H H' R R' t v s},IT H R t v->Ok s H->Kz M R H H'->(∀b,R b->R' b)->IT H' R' t v
 irk:∀{H H' R R' t v s},IR H R t v->Ok s H->Kz M R H H'->(∀b,R b->R' b)->IR H' R' t v
 ifk:∀{H H' R R' t v s},IF H R t v->Ok s H->Kz M R H H'->(∀b,R b->R' b)->IF H' R' t v
 okk:∀{H H' s},Ok s H->KO M H H'->Ok s H'
 okM:∀{H b s},Ok s H->M b->H b≠none
 beg:∀{H R t v Q},IT H R t v->Ok (pre t) H->(∀b,R b->H b≠none)->(∀b,R b->¬ M b) ->
  (∀H' q l fl vs R',KM M H H'->Ok (mid t) H'->H' q=some (.tup [.ref l,.ref fl])->H l=none->H' l=some (.lst vs)->(∀b,R b->R' b)->(∀b,R' b->R b\/H b=none)->(∀b,R' b->H' b≠none)->R' l->All2 (IT H' R') (kids t) vs->IF H' R' t (.ref fl)->Q (.ref q) H') ->
  CanC P w K mg base k H fb [v] Q E0
 fin:∀{H R t fl rl rs Q},IF H R t (.ref fl)->Ok (post t) H->(∀b,R b->H b≠none)->(∀b,R b->¬ M b)->R rl->H rl=some (.lst rs)->All2 (IR H R) (kids t) rs ->
  (∀H' v R',KM M H H'->Ok (post t) H'->(∀b,R b->R' b)->(∀b,R' b->R b\/H b=none)->(∀b,R' b->H' b≠none)->IR H' R' t v->Q v H') ->
  CanC P w K mg base k H fl [.ref rl] Q E0
structure Bn(K:uc)(cB:Addr):Prop where
 cl:Cls K cB
 b1:NoAttr K cB "within"
 b2:NoAttr K cB "finish"
 b3:NoAttr K cB "results"
def BO(cB dx wa fl ra:Addr):HO:=.ins cB dx [("within",.ref wa),("finish",.ref fl),("results",.ref ra)]
def YK(cB:Addr):Sp:=fun vs H Q _=>∃(x dx wa fl:Addr),vs=[.ref x,.ref wa,.ref fl]/\H x=some (.ins cB dx [])/\∀H' ra,(∀b u,b≠x->H b=some u->H' b=some u)->H ra=none->H' ra=some (.lst [])->H' x=some (BO cB dx wa fl ra)->Q .non H'
def WU:Sp:=fun vs H Q _=>∃(p:Addr)(v:V)(xs:List V),vs=[.ref p]/\H p=some (.lst (v::xs))/\Q v H
section
variable{P:Program}{w:World}{K:uc}{mg:Str->Option Value}{base:Heap}{f cB:Addr}{fd:FuncData}
theorem JJ:FnScope lS19 lS19 (zo Z4):=.ok
theorem WV(F:Fun K "__init__" "Begun.__init__" Z4 f fd)(N:Bn K cB):FnOk P w K mg base CX0 1 f fd lS19 (YK cB):=by
 refine F.by JJ (fun vs H Q E h=>?_) (fun cdv A outer s H vs Q E hr h=>?_)
 ·obtain⟨x,dx,wa,fl,rfl,_⟩:=h
  rfl
 obtain⟨x,dx,wa,fl,rfl,hx,q⟩:=h
 refine⟨_,(zg (wD (jv 0) (jv 1)) (zg (wD (jv 0) (jv 2)) (zh (wD (jv 0) (zy zD))))),?_⟩
 refine(ex2q rfl (ex2q rfl ⟨x,cB,dx,(ex2q rfl ⟨hx,N.cl,N.b1,by show 0 < 1000;decide,?_⟩)⟩))
 refine(ex2q rfl (ex2q rfl ⟨x,cB,dx,(ex2q rfl ⟨zf,N.cl,N.b2,by show 1 < 1000;decide,?_⟩)⟩))
 refine⟨sN0,fun ra hra=>?_⟩
 have nx:ra≠x:=fun z=>by
  rw[z,zf]at hra
  cases hra
 have hra':H ra=none:=by
  rw[zi nx,zi nx]at hra
  exact hra
 refine(ex2q rfl ⟨x,cB,dx,(ex2q rfl ⟨by rw[zi nx.symm];exact zf,N.cl,N.b3,by show 2 < 1000;decide,?_⟩)⟩)
 refine q _ ra (fun b u n e=>?_) hra' (by rw[zi nx];exact zf) zf
 rw[zi n,zi (zk e hra'),zi n,zi n]
 exact e
theorem zaZ:FnScope ["results"] ["results"] (zo WA):=.ok
theorem JK(F:Fun K "only_one" "only_one" WA f fd):FnOk P w K mg base CX0 1 f fd ["results"] WU:=by
 refine F.by zaZ (fun vs H Q E h=>?_) (fun cdv A outer s H vs Q E hr h=>?_)
 ·obtain⟨p,v,xs,rfl,_⟩:=h
  rfl
 obtain⟨p,v,xs,rfl,hp,q⟩:=h
 exact⟨_,(zh (zp (xL 0))),(ex2q rfl (ixL hp aI0 (q)))⟩
end
structure En(Tk:Type) where
 bo:Addr
 dx:Addr
 wa:Addr
 ra:Addr
 fl:Addr
 tk:Option Tk
 ts:List Tk
 rs:List V
section
variable{P:Program}{w:World}{K:uc}{mg:Str->Option Value}{base:Heap}{k:Nat}(D:WoD P w K mg base k)(cB fo:Addr)(root:D.Tk)
structure EnOk(H:Hp)(R:Addr->Prop)(e:En D.Tk):Prop where
 o:H e.bo=some (BO cB e.dx e.wa e.fl e.ra)
 nb:¬ D.M e.bo
 w:∃ws,H e.wa=some (.lst ws)/\All2 (D.IT H R) e.ts ws
 Rw:R e.wa
 r:H e.ra=some (.lst e.rs)
 nr:¬ R e.ra
 nM:¬ D.M e.ra
 le:e.rs.length<=e.ts.length
 rr:All2 (D.IR H R) (e.ts.take e.rs.length) e.rs
 fin:match e.tk with
  |none=>e.fl=fo/\e.ts=[root]
  |some t=>D.IF H R t (.ref e.fl)/\e.ts=D.kids t
inductive Lnk:List (En D.Tk)->Prop
 |bot {e:En D.Tk}:e.tk=none->Lnk [e]
 |up {e e':En D.Tk} {es:List (En D.Tk)} {t:D.Tk}:Lnk (e'::es)->e.tk=some t->e'.ts[e'.rs.length]?=some t->Lnk (e::e'::es)
def mlow:List (En D.Tk)->Nat
 |[]=>0
 |e::es=>1+((e.ts.drop (e.rs.length+1)).map D.wt).sum+mlow es
def mall:List (En D.Tk)->Nat
 |[]=>0
 |e::es=>1+((e.ts.drop e.rs.length).map D.wt).sum+mlow D es
theorem Zk:∀es:List (En D.Tk),es.length<=mlow D es
 |[]=>ud _
 |e::es=>by
  unfold mlow
  have:=Zk es
  rw[uo]
  lia
theorem WW(es:List (En D.Tk)):es.length<=mall D es:=by
 cases es with
 |nil=>exact ud _
 |cons e es =>
  unfold mall
  have:=Zk D es
  rw[uo]
  lia
theorem WX:∀ts:List D.Tk,ts.length<=(ts.map D.wt).sum
 |[]=>ud _
 |t::ts=>by
  have:=WX ts
  have:=D.wk t
  rw[uo,uu,uW]
  lia
def eEnd(e:En D.Tk):D.S:=match e.tk with
 |none=>D.post root
 |some t=>D.post t
def StkL:D.S->List (En D.Tk)->Prop
 |_,[]=>True
 |s,e::es=>Chn D.pre D.post s (e.ts.drop (e.rs.length+1)) (eEnd D root e)/\StkL (eEnd D root e) es
def Stk:D.S->List (En D.Tk)->Prop
 |_,[]=>True
 |s,e::es=>Chn D.pre D.post s (e.ts.drop e.rs.length) (eEnd D root e)/\StkL D root (eEnd D root e) es
variable{D cB fo root}
theorem EnOk.keep{H H':Hp}{R R':Addr->Prop}{e:En D.Tk}{s:D.S}(h:EnOk D cB fo root H R e)(ok:D.Ok s H)(z:Kz D.M R H H')(rM:∀b,R b->¬ D.M b)(sub:∀b,R b->R' b)(hr:H' e.ra=some (.lst e.rs))(nr:¬ R' e.ra):EnOk D cB fo root H' R' e:=by
 obtain⟨o,nb,⟨ws,w1,w2⟩,Rw,r,nr',nM,le,rr,fin⟩:=h
 refine⟨z _ _ o nb (by intro xs q;unfold BO at q;cases q),nb,⟨ws,z _ _ w1 (rM _ Rw) (fun _ _=>Rw),w2.imp fun a b q=>D.itk q ok z sub⟩,sub _ Rw,hr,nr,nM,le,rr.imp fun a b q=>D.irk q ok z sub,?_⟩
 cases q:e.tk with
 |none=>rw[q]at fin;exact fin
 |some t=>rw[q]at fin;exact⟨D.ifk fin.1 ok z sub,fin.2⟩
end
end GN
namespace L2
open PySem PySem.Spec PyProof.Rows
section
variable(P:Program)(w:World)
end
section
variable{P:Program}{w:World}{H H':Hp}{h h':Heap}{a:Addr}{o:HO}
end
section
variable{P:Program}{w:World}{H:Hp}{h h':Heap}{x e:Addr}{o':HO}
end
section
variable{fs fs' ex ex':List Addr}{H H1 H2:Hp}{h h1 h2 h':Heap}{a x e:Addr}{o:HO}
end
section
variable{X:Cx}{pins:List (Addr×Obj)}{σ:List (Option V)}{H H':Hp}{s:Shared}{h':Heap}
end
section
variable{X:Cx}
variable{a b:Expr}{ta tb:TE}{pos:Pos}
variable{tA tB':TT}{rest:List Expr}
end
section
variable{X:Cx}{pins:List (Addr×Obj)}{σ:St}{H:Hp}{s:Shared}{a:Addr}{xs ys:List V}
end
section
variable{X:Cx}{pins:List (Addr×Obj)}{σ:St}{H:Hp}{s:Shared}{E:Value->Shared->Prop}
end
section
variable{X:Cx}{st:Stmt}{rest:List Stmt}{t u:TS}{e:Expr}{te:TE}{pos:Pos}
end
section
variable{X:Cx}{pos:Pos}
end
section
variable{X:Cx}{tg:Expr}
end
section
variable{X:Cx}{a b c:Expr}{ta tb tc:TE}{pos:Pos}
end
section
variable{prog:Program}{w:World}{A:Around}{E:Value->Shared->Prop}{s:Shared}{K:uc}{x dx C f:Addr}{mA:Str->Option Value}{name:Str}{v:Value}
end
section
variable{P:Program}{w:World}{H H':Hp}{h h':Heap}{a C dx:Addr}{fs fs':List (Str×V)}
end
section
variable{X:Cx}{pins:List (Addr×Obj)}{σ:St}{H:Hp}{s:Shared}{a C dx:Addr}{fs:List (Str×V)}{f:Str}{v:V}{A:Around}{E:Value->Shared->Prop}
end
section
variable{X:Cx}{o e value:Expr}{f:Str}{pos pos' tpos:Pos}{ta tv:TE}
end
section
variable{X:Cx}{pins:List (Addr×Obj)}{σ:St}{H:Hp}{s:Shared}{A:Around}{E:Value->Shared->Prop}{Q:Value->Shared->Prop}{c:Value}{b:Bool}
end
section
variable{X:Cx}{e:Expr}{es:List Expr}{te:TE}{t:TA}{pos:Pos}
end
section
variable{X:Cx}{pins:List (Addr×Obj)}{σ:St}{H:Hp}{s s':Shared}
end
section
variable{X:Cx}{CX:CXT}{k:Nat}{f C:Addr}{fd:FuncData}{ps:List Str}{sp:Sp}{dvs:List V}{ds:List Value}{E:XK}{x m:Str}{p pos apos:Pos}{e o:Expr}{es:List Expr}{ta:TE}{t:TA}
end
section
variable{X:Cx}{CX:CXT}{k:Nat}{f C:Addr}{fd:FuncData}{ps ks:List Str}{sp:Sp}{E:XK}{x m:Str}{p pos apos kpos:Pos}{e o:Expr}{es:List Expr}{kws:List Keyword}{te ta:TE}{t tk:TA}{nm:Option Str}
variable{g:List Value->List Value->List Value}{gV:List V->List V->List V}
end
section
variable{X:Cx}{x:Str}{p pos:Pos}{e:Expr}{es:List Expr}{t:TA}{id T:String}{r:List V->Hp->VK->Prop}
end
section
variable{κ:Type}[DecidableEq κ]
def valV(kvs:List (κ×V))(k:κ):Option V:=(kvs.find? fun kv=>decide (kv.1=k)).map (·.2)
def putK(kvs:List (κ×V))(k:κ)(v:V):List (κ×V) :=
 if(kvs.any fun kv=>decide (kv.1=k))=true then kvs.map (fun kv=>if kv.1=k then(kv.1,v)else kv)else kvs++[(k,v)]
theorem wd{p:κ×V}{r:List (κ×V)}{k:κ}(e:p.1=k):valV (p::r) k=some p.2:=by simp[valV,UP,e]
theorem we{p:κ×V}{r:List (κ×V)}{k:κ}(e:¬ p.1=k):valV (p::r) k=valV r k:=by simp[valV,UP,e]
theorem vq(k:κ):∀kvs:List (κ×V),(kvs.any fun kv=>decide (kv.1=k))=(valV kvs k).isSome
 |[]=>rfl
 |p::r=>by
  rw[uO]
  by_cases e:p.1=k
  ·simp only[wd e,decide_eq_true e,UE,Option.isSome_some]
  ·rw[we e,decide_eq_false e,uV];exact vq k r
theorem wL(kvs:List (κ×V))(k:κ)(v:V):(putK kvs k v).length<=kvs.length+1:=by
 unfold putK
 split
 ·rw[ua];lia
 ·rw[ub,uo,List.length_nil];lia
theorem RelO.isSome_eq{o:Option V}{u:Option Value}(r:RelO o u):o.isSome=u.isSome:=by
 cases o with
 |none=>cases u with
  |none=>rfl
  |some _=>exact(show False from r).elim
 |some _=>cases u with
  |none=>exact(show False from r).elim
  |some _=>rfl
theorem KV.val{kvs:List (κ×V)}{vs:List (κ×Value)}(r:KV kvs vs)(k:κ):RelO (valV kvs k) (valueAt vs k):=by
 unfold KV at r
 induction r with
 |nil=>exact True.intro
 |@cons p q ps qs h t ih =>
  obtain⟨h1,h2⟩:=h
  by_cases e:p.1=k
  ·have e':q.1=k:=h1.symm.trans e
   have b:valueAt (q::qs) k=some q.2:=by simp[valueAt,UP,e']
   rw[wd e,b];exact h2
  ·have e':¬ q.1=k:=fun z=>e (h1.trans z)
   have b:valueAt (q::qs) k=valueAt qs k:=by simp[valueAt,UP,e']
   rw[we e,b];exact ih
theorem KV.any{kvs:List (κ×V)}{vs:List (κ×Value)}(r:KV kvs vs)(k:κ):(kvs.any fun kv=>decide (kv.1=k))=vs.any fun kv=>decide (kv.1=k):=by
 unfold KV at r
 induction r with
 |nil=>rfl
 |cons h t ih=>rw[uO,uO,ih,h.1]
theorem KV.repl{kvs:List (κ×V)}{vs:List (κ×Value)}(r:KV kvs vs)(k:κ){y:V}{u:Value}(ry:RelV y u):
  KV (kvs.map fun kv=>if kv.1=k then(kv.1,y)else kv) (vs.map fun kv=>if kv.1=k then(kv.1,u)else kv):=by
 unfold KV at r ⊢
 induction r with
 |nil=>exact .nil
 |@cons p q ps qs h t ih =>
  rw[uu,uu]
  refine .cons ?_ ih
  obtain⟨h1,h2⟩:=h
  by_cases e:p.1=k
  ·rw[if_pos e,if_pos (h1.symm.trans e)];exact⟨h1,ry⟩
  ·rw[if_neg e,if_neg (fun z=>e (h1.trans z))];exact⟨h1,h2⟩
theorem KV.put{kvs:List (κ×V)}{vs:List (κ×Value)}(r:KV kvs vs)(k:κ){y:V}{u:Value}(ry:RelV y u):KV (putK kvs k y) (stored vs k u):=by
 unfold putK stored
 rw[r.any k]
 by_cases e:(vs.any fun kv=>decide (kv.1=k))=true
 ·rw[if_pos e,if_pos e];exact r.repl k ry
 ·rw[if_neg e,if_neg e];exact Paired.snoc r ⟨rfl,ry⟩
theorem KV.length{kvs:List (κ×V)}{vs:List (κ×Value)}(r:KV kvs vs):kvs.length=vs.length:=Paired.length r
end
theorem WY{P:Program}{w:World}{k:Key}{u:Value}(r:RelV (kV k) u):(zZ P w).is k u=true:=by
 cases k with
 |inl i=>obtain⟨t,e⟩:=(show ∃t,u=Value.int i t from r);subst e;exact j8 P w i t
 |inr x=>obtain⟨t,e⟩:=(show ∃t,u=Value.str x t from r);subst e;exact j9 P w x t
theorem v9{P:Program}{w:World}:∀{ks:List Key}{us:List Value},Vals (ks.map kV) us->ItemsAre (zZ P w) ks us
 |[],_,r=>by rw[List.map_nil]at r;cases r;exact .nil
 |k::ks,_,r=>by
  rw[uu]at r
  cases r with
  |cons h t=>exact .cons (WY h) (v9 t)
abbrev KT(H:Hp):List (List Key×V)->List (List Key×Addr×Value)->Prop:=Paired fun p q=>p.1=q.1/\H q.2.1=some (.tup (p.1.map kV))/\RelV p.2 q.2.2
theorem KT.val{H:Hp}{kvs:List (List Key×V)}{xs:List (List Key×Addr×Value)}(r:KT H kvs xs)(k:List Key):RelO (valV kvs k) ((atKey xs k).map (·.2)):=by
 induction r with
 |nil=>exact True.intro
 |@cons p q ps qs h t ih =>
  obtain⟨h1,_,h2⟩:=h
  by_cases e:p.1=k
  ·have e':q.1=k:=h1.symm.trans e
   have b:atKey (q::qs) k=some q.2:=by simp[atKey,UP,e']
   rw[wd e,b];exact h2
  ·have e':¬ q.1=k:=fun z=>e (h1.trans z)
   have b:atKey (q::qs) k=atKey qs k:=by simp[atKey,UP,e']
   rw[we e,b];exact ih
theorem KT.repl{H:Hp}{kvs:List (List Key×V)}{xs:List (List Key×Addr×Value)}(r:KT H kvs xs)(k:List Key){y:V}{u:Value}(ry:RelV y u):
  KT H (kvs.map fun kv=>if kv.1=k then(kv.1,y)else kv) (xs.map (putAt k u)):=by
 induction r with
 |nil=>exact .nil
 |@cons p q ps qs h t ih =>
  rw[uu,uu]
  refine .cons ?_ ih
  obtain⟨h1,h2,h3⟩:=h
  unfold putAt
  by_cases e:p.1=k
  ·rw[if_pos e,if_pos (h1.symm.trans e)];exact⟨h1,h2,ry⟩
  ·rw[if_neg e,if_neg (fun z=>e (h1.trans z))];exact⟨h1,h2,h3⟩
theorem KT.put{H:Hp}{kvs:List (List Key×V)}{xs:List (List Key×Addr×Value)}(r:KT H kvs xs)(k:List Key){b:Addr}{y:V}{u:Value}(hb:H b=some (.tup (k.map kV)))(ry:RelV y u):
  KT H (putK kvs k y) (storedH xs k b u):=by
 have e:(kvs.any fun kv=>decide (kv.1=k))=(atKey xs k).isSome:=by
  rw[vq,(r.val k).isSome_eq,Option.isSome_map]
 unfold putK storedH
 rw[e]
 by_cases q:(atKey xs k).isSome=true
 ·rw[if_pos q,if_pos q];exact r.repl k ry
 ·rw[if_neg q,if_neg q];exact Paired.snoc r ⟨rfl,hb,ry⟩
theorem KT.keeps{H H':Hp}{kvs:List (List Key×V)}{xs:List (List Key×Addr×Value)}(r:KT H kvs xs)(ht:∀b ys,H b=some (.tup ys)->H' b=some (.tup ys)):KT H' kvs xs :=
 Paired.mapP r fun _ _ z=>⟨z.1,ht _ _ z.2.1,z.2.2⟩
section
variable{P:Program}{w:World}{H:Hp}{h:Heap}{a:Addr}
theorem QN{u:HO}(ok:HOk P w H h)(e:Rd H a u):ObjOk P w H h a u:=e.ok ok
theorem QO{kvs:List (Key×V)}(ok:HOk P w H h)(e:Rd H a (.dK kvs)):kvs.length<=sizeLine/\(a == sysModules)=false/\∃vs,KV kvs vs/\h.DictOf (zZ P w) a vs :=
 show ObjOk P w H h a (.dK kvs)from QN ok e
theorem QP{kvs:List (Key×V)}(ok:HOk P w H h)(e:H a=some (.dK kvs)):kvs.length<=sizeLine/\(a == sysModules)=false/\∃vs,KV kvs vs/\h.DictOf (zZ P w) a vs:=QO ok (.inl e)
theorem Yf{ks:List Key}(ok:HOk P w H h)(e:H a=some (.tup (ks.map kV))):(tupleKind (zZ P w)).is h ks a:=by
 obtain⟨_,its,r,o,h1,h2,_,n,h3⟩:=(show ObjOk P w H h a (.tup (ks.map kV))from ok a _ e)
 exact⟨o,its.toArray,n,h1,h2,h3,by simpa using v9 r⟩
theorem QQ{kvs:List (List Key×V)}(ok:HOk P w H h)(e:Rd H a (.dT kvs)):kvs.length<=sizeLine/\(a == sysModules)=false /\
  ∃xs,KT H kvs xs/\h.DictOfH (tupleKind (zZ P w)) a xs:=by
 obtain⟨z,y,xs,r,o,es,ep,h1,h2,h3,h4,h5⟩:=(show ObjOk P w H h a (.dT kvs)from QN ok e)
 refine⟨z,y,xs,r,o,es,ep,h1,h2,h3,h4,fun x hx=>?_,h5⟩
 have all:∀{l:List (List Key×V)}{m:List (List Key×Addr×Value)},KT H l m->∀x∈m,(tupleKind (zZ P w)).is h x.1 x.2.1:=by
  intro l m q
  induction q with
  |nil=>intro x hx;exact nomatch hx
  |@cons p q ps qs hq t ih =>
   intro x hx
   rcases um.mp hx with e|hx
   ·subst e
    exact Yf ok (by rw[<- hq.1];exact hq.2.1)
   ·exact ih x hx
 exact all r x hx
theorem zbV{kvs:List (List Key×V)}(ok:HOk P w H h)(e:H a=some (.dT kvs)):kvs.length<=sizeLine/\(a == sysModules)=false /\
  ∃xs,KT H kvs xs/\h.DictOfH (tupleKind (zZ P w)) a xs:=QQ ok (.inl e)
end
def DGet(H:Hp)(a:Addr)(y:V)(r:Option V):Prop :=
 (∃kvs k,Rd H a (.dK kvs)/\y=kV k/\r=valV kvs k)\/∃kvs k b,Rd H a (.dT kvs)/\y=.ref b/\H b=some (.tup (k.map kV))/\r=valV kvs k
def DPut(H:Hp)(a:Addr)(y v:V)(H':Hp):Prop :=
 (∃kvs k,H a=some (.dK kvs)/\y=kV k/\kvs.length < sizeLine/\H'=upd H a (.dK (putK kvs k v))) \/
 ∃kvs k b,H a=some (.dT kvs)/\y=.ref b/\H b=some (.tup (k.map kV))/\kvs.length < sizeLine/\H'=upd H a (.dT (putK kvs k v))
theorem DGet.k{H:Hp}{a:Addr}{kvs:List (Key×V)}{k:Key}(e:H a=some (.dK kvs)):DGet H a (kV k) (valV kvs k):=.inl ⟨kvs,k,.inl e,rfl,rfl⟩
theorem DPut.k{H:Hp}{a:Addr}{kvs:List (Key×V)}{k:Key}{v:V}(e:H a=some (.dK kvs))(hl:kvs.length < sizeLine):DPut H a (kV k) v (upd H a (.dK (putK kvs k v))):=.inl ⟨kvs,k,e,rfl,hl,rfl⟩
section
variable{X:Cx}{pins:List (Addr×Obj)}{σ:St}{H:Hp}{s:Shared}{a:Addr}{y v:V}{u r:Value}{o:Option V}{A:Around}{E:Value->Shared->Prop}
theorem Inv.big(I:Inv X pins σ H s):sysModules < s.heap.objs.size:=by
 have h:mainGlobals < s.heap.objs.size:=(I.mod.glob.keeps I.bk).lt
 exact Nat.lt_trans (by decide) h
theorem d_in{Q:Value->Shared->Prop}(hu:A.units+1 < cLine)(I:Inv X pins σ H s)(g:DGet H a y o)(ry:RelV y u)(h:∀s',Inv X pins σ H s'->Q (.bool o.isSome) s'):
  wpAny (model X.prog X.w) A (compareOp .In u (.ref a)) Q E s:=by
 rcases g with⟨kvs,k,e,ey,l⟩|⟨kvs,k,b,e,ey,eb,l⟩
 ·subst ey
  obtain⟨z,hd,vs,rel,dd⟩:=QO I.hok e
  refine wpAny_in_of (WY ry) hd dd.mapOf ?_
  rw[<- (rel.val k).isSome_eq,<- l]
  exact h _ (I.tok _)
 ·subst ey
  cases(show u=Value.ref b from ry)
  obtain⟨z,hd,xs,rel,dd⟩:=QQ I.hok e
  refine wpAny_in_heap (tupleKind_room_in1 hu) (Yf I.hok eb) hd dd ?_
  have q:=(rel.val k).isSome_eq
  rw[Option.isSome_map]at q
  rw[<- q,<- l]
  exact h _ (I.tok _)
theorem YL{h':Heap}{t':Nat}{ob:HO}(I:Inv X pins σ H s)(mu:Mut (H a))(hs:Heap.SameBut a s.heap h')(he:∃q,h'.get? a=some q)(new:ObjOk X.prog X.w (upd H a ob) h' a ob):
  Inv X pins σ (upd H a ob) { s with heap:=h',toks:=t' } :=
 I.write (x:=a) (e:=a) mu (.inl rfl) (fun b q hb z=>(hs.2 b hb).trans z) he new
theorem za0{P:Program}{w:World}{H':Hp}{h':Heap}{kvs:List (Key×V)}{vs:List (Key×Value)}(z:kvs.length<=sizeLine)(hd:(a == sysModules)=false)(rel:KV kvs vs)(dd:h'.DictOf (zZ P w) a vs):
  ObjOk P w H' h' a (.dK kvs):=⟨z,hd,vs,rel,dd⟩
theorem XD{H':Hp}{Q:Unit->Shared->Prop}(hu:A.units+1 < cLine)(I:Inv X pins σ H s)(g:DPut H a y v H')(ry:RelV y u)(rv:RelV v r)(h:∀s',Inv X pins σ H' s'->Q () s'):
  wpAny (model X.prog X.w) A (setItem (.ref a) u r) Q E s:=by
 rcases g with⟨kvs,k,e,ey,l,eH⟩|⟨kvs,k,b,e,ey,eb,l,eH⟩
 ·subst ey eH
  obtain⟨z,hd,vs,rel,dd⟩:=QP I.hok e
  have hz:vs.length<=sizeLine:=by rw[<- rel.length];exact z
  have hl:(putK kvs k v).length<=sizeLine:=by have:=wL kvs k v;lia
  refine wpAny_setItem_pairs (hsz:=hz) (WY ry) dd fun h' dd' hs=>h _ ?_
  have he:∃q,h'.get? a=some q:=let ⟨q,_,_,hq,_⟩:=dd';⟨q,hq⟩
  exact YL I (by rw[e];exact True.intro) hs he (za0 hl hd (rel.put k rv) dd')
 ·subst ey eH
  cases(show u=Value.ref b from ry)
  obtain⟨z,hd,xs,rel,dd⟩:=zbV I.hok e
  have hz:xs.length<=sizeLine:=by rw[<- Paired.length rel];exact z
  have hl:(putK kvs k v).length<=sizeLine:=by have:=wL kvs k v;lia
  refine wpAny_setItem_heap (hsz:=hz) (tupleKind_room_in1 hu) (Yf I.hok eb) dd fun h' dd' hs=>h _ ?_
  obtain⟨q,es,ep,hq,h2,h3,h4,_,h5⟩:=dd'
  refine YL I (by rw[e];exact True.intro) hs ⟨q,hq⟩ ⟨hl,hd,_,(rel.put k eb rv).keeps fun c ys ec=>?_,q,es,ep,hq,h2,h3,h4,h5⟩
  rw[zi (xh ec e (fun z=>nomatch z))]
  exact ec
end
section
variable{X:Cx}{pins:List (Addr×Obj)}{σ:St}{H:Hp}{s:Shared}{a:Addr}{kvs:List (Key×V)}{k:Key}{u:Value}{A:Around}{E:Value->Shared->Prop}
end
def tDIn(ty td:TE):TE:=fun σ H Q=>ty σ H fun y H1=>td σ H1 fun x H2=>∃a o,x=.ref a/\DGet H2 a y o/\Q (.bl o.isSome) H2
def QR(td ty tv:TE):TS:=fun D σ H=>tv σ H fun v H1=>td σ H1 fun x H2=>ty σ H2 fun y H3=>∃a H4,x=.ref a/\DPut H3 a y v H4/\D.nx σ H4
section
variable{X:Cx}{o i e value:Expr}{pos pos' tpos:Pos}{td ty tv:TE}
theorem za1(hu:X.A.units+1 < cLine)(hi:PE X i ty)(ho:PE X o td):PC X .In i o (tDIn ty td):=by
 intro pins s σ H Q I h
 refine thn (hi pins s σ H _ I h) fun iv s1 ⟨y,H1,I1,ry,q1⟩=>thn (ho pins s1 σ H1 _ I1 q1) fun u s2 ⟨x,H2,I2,rx,a,ov,ex,g,q2⟩=>?_
 subst ex
 obtain rfl:u=Value.ref a:=rx
 exact d_in hu I2 g ry fun s3 I3=>⟨.bl ov.isSome,H2,I3,rfl,q2⟩
theorem JL(hu:X.A.units+1 < cLine)(ho:PE X o td)(hi:PE X i ty)(hv:PE X value tv)(hs:swapsWith value (some (.Subscript o i pos')) pos.line X.env=pure false):
  PS X (.Assign [.Subscript o i pos'] value pos) (QR td ty tv):=by
 intro pins s σ H D I h
 refine wpAny_Assign_Subscript (thn (hv pins s σ H _ I h) fun r s1 ⟨v,H1,I1,rv,q1⟩=>thn (ho pins s1 σ H1 _ I1 q1) fun u s2 ⟨x,H2,I2,rx,q2⟩=>thn (hi pins s2 σ H2 _ I2 q2) fun iv s3 ⟨y,H3,I3,ry,a,H4,ex,g,q3⟩=>?_) hs
 subst ex
 obtain rfl:u=Value.ref a:=rx
 exact XD hu I3 g ry rv fun s4 I4=>⟨σ,H4,I4,q3⟩
end
theorem WZ{P:Program}{w:World}{H:Hp}(h:Heap)(hb:sysModules < h.objs.size):ObjOk P w H (h.push { cls:=.type "dict",data:=.dict #[] }) h.objs.size (.dK []) :=
 ⟨uN _,beq_eq_false_iff_ne.mpr (Ne.symm (uK hb)),[],.nil,Heap.DictOf.new h⟩
def W0:TE:=fun _ H Q=>∀p,H p=none->Q (.ref p) (upd H p (.dK []))
section
variable{X:Cx}{pos:Pos}
theorem W9:PE X (.Dict [] [] pos) W0:=fun pins s σ H Q I h =>
 wpAny_Dict_empty ⟨.ref s.heap.objs.size,_,I.laid (a:=s.heap.objs.size) (o:=.dK []) (t':=s.toks) (fun _ _ q=>ue _ q) (ud _) (WZ s.heap I.big),rfl,h _ (I.hok.fresh (ud _))⟩
end
structure M2(X:Cx)(o:Expr)(m:Str)(apos:Pos)(e f:Expr)(cpos:Pos):Prop where
 base:attributeBase o m X.env (eval o X.env)=eval o X.env
 few:((backTo cpos (starEach [e,f] X.env)).all (fun x=>!x.1) && (backToKw cpos (keywordEach [] X.env)).all (fun x=>x.1.isSome)
  && decide (([e,f]:List Expr).length+([]:List Keyword).length+(if([]:List Keyword).isEmpty then 0 else 1) < 30))=true
 line:(apos.endLine == cpos.line)=true
 trees:backTo cpos (starEach [e,f] X.env)=[(false,eval e X.env),(false,eval f X.env)]
section
variable{X:Cx}{pins:List (Addr×Obj)}{σ:St}{H:Hp}{s:Shared}{a:Addr}{y d:V}{u r:Value}{o:Option V}{A:Around}{E:Value->Shared->Prop}
end
section
variable{X:Cx}{o e f:Expr}{apos cpos:Pos}{td ty tx:TE}
end
section
variable{X:Cx}{pins:List (Addr×Obj)}{σ:St}{H:Hp}{s:Shared}{a:Addr}{kvs:List (Key×V)}{A:Around}{E:Value->Shared->Prop}
end
section
variable{X:Cx}{pins:List (Addr×Obj)}{σ:St}{H:Hp}{s:Shared}{a:Addr}{y:V}{u:Value}{A:Around}{E:Value->Shared->Prop}
end
end L2
namespace Att
open PySem PySem.W PySem.Calls PyProof.Rows
section
variable{prog:Program}{w:World}{A:Around}{E:Value->Shared->Prop}{s:Shared}{K:Frag}
end
end Att
namespace L2
open PySem PySem.Spec PyProof.Rows
section
variable{P:Program}{w:World}{K:uc}{mg:Str->Option Value}{base:Heap}
end
section
variable{X:Cx}
end
section
variable{κ:Type}[DecidableEq κ]
end
section
variable{X:Cx}{pos:Pos}
theorem Zl:jE X (.Dict [] [] pos) W0:=⟨W9⟩
end
theorem SqK.l{K:uc}{H:Hp}{a:Addr}{xs:List V}(h:H a=some (.lst xs)):SqK true K H a xs:=SqL.of h
theorem SqK.t{K:uc}{H:Hp}{a:Addr}{xs:List V}(h:H a=some (.tup xs)):SqK false K H a xs:=SqT.of h
def lay(H:Hp):List (Addr×HO)->Hp
 |[]=>H
 |p::r=>upd (lay H r) p.1 p.2
section
variable{X:Cx}{pins:List (Addr×Obj)}{σ:St}{H:Hp}{s:Shared}{h':Heap}
end
theorem zbW{P:Program}{w:World}{k:Key}{u:Value}(h:(zZ P w).is k u=true):RelV (kV k) u:=by
 rw[ZM]at h
 rcases zQ h with⟨i,t,rfl,rfl⟩|⟨x,t,rfl,rfl⟩
 ·exact⟨t,rfl⟩
 ·exact⟨t,rfl⟩
section
variable{X:Cx}
theorem YM{o i value:Expr}{td ty tv:TE}{pos pos':Pos}{k:Nat}(hr:Room k X.A)(ho:jE X o td)(hi:jE X i ty)(hv:jE X value tv)(hs:swapsWith value (some (.Subscript o i pos')) pos.line X.env=pure false:=by rfl):
  jS X (.Assign [.Subscript o i pos'] value pos) (QR td ty tv):=⟨JL (by have:=hr.units;lia) ho.out hi.out hv.out hs⟩
theorem KV.get{kvs:List (Key×V)}{ws:List (Key×Value)}(r:KV kvs ws){j:Nat}{k:Key}{x:Value}(h:ws[j]?=some (k,x)):∃y,kvs[j]?=some (k,y)/\RelV y x:=by
 unfold KV at r
 induction r generalizing j with
 |nil=>simp at h
 |@cons p q ps qs hh t ih =>
  cases j with
  |zero =>
   simp at h
   subst h
   obtain⟨p1,p2⟩:=p
   have e:p1=k:=hh.1
   subst e
   exact⟨p2,rfl,hh.2⟩
  |succ j =>
   obtain⟨y,h1,h2⟩:=ih (j:=j) (by simpa using h)
   exact⟨y,by simpa using h1,h2⟩
end
end L2
namespace K11
open PySem
def sg(c:Nat):Str:=⟨#[c]⟩
theorem vt(a:Array Nat):∀(k:Nat)(acc:Array Nat),((Ux k a).foldl (· ++ ·) acc).size=acc.size+k*a.size
 |0,acc=>by simp
 |k+1,acc=>by
  rw[List.replicate_succ,List.foldl_cons,vt a k,Array.size_append,Nat.add_mul]
  lia
theorem JM{z:Str}{n:Int}(hz:z.length=1):(Txt.mul z n).length<=n.toNat:=by
 unfold Txt.mul
 split
 ·simp[Str.empty,Str.length]
 ·rename_i h
  split
  ·rw[hz];lia
  ·show((Ux n.toNat z.cps).foldl (· ++ ·) #[]).size<=n.toNat
   have e:z.cps.size=1:=hz
   rw[vt,e]
   simp
theorem za2{z:Str}{n:Int}(hz:z.length=1)(h0:0<=n)(h1:n<=1000):MulOk z n:=by
 have hs:sizeLine=16777216:=by decide
 refine⟨?_,fun a b=>?_,fun a b=>?_⟩
 ·have e1:decide (n < -(2 ^ 63:Int))=false:=decide_eq_false (by lia)
  have e2:decide (n ≥ 2 ^ 63)=false:=decide_eq_false (by lia)
  rw[e1,e2];rfl
 ·rw[hz]
  have:(1:Int)<=(2 ^ 63-1) / n:=Int.le_ediv_of_mul_le (by lia) (by lia)
  intro c
  have c':(1:Int) > (2 ^ 63-1) / n:=c
  lia
 ·rw[hz]
  unfold Builtin.Str.tooLong
  exact decide_eq_false (by rw[hs];lia)
end K11
namespace K11
open PySem PySem.Spec PyProof.Rows Builtin Builtin.Str
abbrev cl(z:Str):List Nat:=z.cps.toList
theorem xb(z:Str):(cl z).length=z.length:=by simp[Str.length]
theorem yb(x y:Str):cl (x++y)=cl x++cl y:=by
 show(x.cps++y.cps).toList=_
 simp
theorem jC{sep x y:Str}{r:List Str}:cl (Str.join sep (x::y::r))=cl x++(cl sep++cl (Str.join sep (y::r))):=by
 show cl (x++sep++Str.join sep (y::r))=_
 rw[yb,yb,Um]
end K11
namespace L2
open PySem
section
variable{X:Cx}{o i:Expr}{to ti:TE}{pos:Pos}
theorem xz(ho:jE X o to)(hi:jE X i ti)(ha:∀v,assign (.Subscript o i pos) X.env v=(do
   let ov <- holding [v] (eval o X.env)
   let iv <- holding [v,ov] (eval i X.env)
   standAt pos
   holding [v,ov,iv] (setItem ov iv v)
   release [v,ov,iv] []):=by intro _;rfl):jG X (.Subscript o i pos) (gSub to ti QI):=⟨zar ho.out hi.out Wc ha⟩
end
end L2
namespace GN
open PySem L2 K11
theorem zj{H:Hp}{p:Addr}(h:H p=none)(o:HO):Same H (upd H p o):=fun b u q=>by rw[zi (zk q h)];exact q
def LIM:Nat:=4611686018427387904
def Sta(K:uc)(H:Hp)(st:Addr)(B:Nat):Prop:=∃(a:Addr)(ns:List Int)(k:Nat),H st=some (.lst [.ref a,.int (k:Nat)])/\(a=st->∀H',SqL K H' a (ns.map V.int))/\SqL K H a (ns.map V.int)/\k<=B
structure Kp(st:Addr)(H H':Hp):Prop where
 k:∀b u,b≠st->H b=some u->H' b=some u
 s:∀a k,H st=some (.lst [.ref a,.int k])->∃k',H' st=some (.lst [.ref a,.int k'])
theorem Kp.refl{st:Addr}{H:Hp}:Kp st H H:=⟨fun _ _ _ h=>h,fun _ k h=>⟨k,h⟩⟩
theorem Kp.trans{st:Addr}{H H1 H2:Hp}(a:Kp st H H1)(b:Kp st H1 H2):Kp st H H2:=⟨fun c u n h=>b.k c u n (a.k c u n h),fun x k h=>let ⟨k',h'⟩:=a.s x k h;b.s x k' h'⟩
theorem Kp.of{st:Addr}{H H1:Hp}(a:Same H H1):Kp st H H1:=⟨fun c u _ h=>a c u h,fun _ k h=>⟨k,a _ _ h⟩⟩
theorem Kp.new{st p:Addr}{H H1:Hp}{o:HO}(a:Kp st H H1)(h:H1 p=none):Kp st H (upd H1 p o):=a.trans (.of (zj h o))
theorem Kp.put{st p:Addr}{H H1:Hp}{o:HO}(a:Kp st H H1)(h:H p=none):Kp st H (upd H1 p o):=⟨fun b u n q=>by rw[zi (zk q h)];exact a.k b u n q,fun x k q=>by
 obtain⟨k',h'⟩:=a.s x k q
 exact⟨k',by rw[zi (zk q h)];exact h'⟩⟩
theorem Kp.seq{K:uc}{st a:Addr}{H H':Hp}{xs:List V}(e:Kp st H H')(n:a≠st)(h:SqL K H a xs):SqL K H' a xs:=by
 rcases h with(h|⟨o,h⟩)|h
 ·exact .inl (.inl (e.k _ _ n h))
 ·exact .inl (.inr ⟨o,e.k _ _ n h⟩)
 ·exact .inr h
theorem Kp.free{st p:Addr}{H H':Hp}(e:Kp st H H')(n:p≠st)(h:H' p=none):H p=none:=by
 cases q:H p with
 |none=>rfl
 |some o =>
  rw[e.k p o n q]at h
  cases h
section
variable{K:uc}{H H':Hp}{st:Addr}{B B':Nat}
theorem Sta.ex(h:Sta K H st B):∃o,H st=some o:=let ⟨_,_,_,e,_⟩:=h;⟨_,e⟩
theorem Sta.mono(h:Sta K H st B)(l:B<=B'):Sta K H st B':=let ⟨a,ns,k,h1,h2,h3,h4⟩:=h;⟨a,ns,k,h1,h2,h3,uD h4 l⟩
theorem Sta.same(h:Sta K H st B)(s:Same H H'):Sta K H' st B:=let ⟨a,ns,k,h1,h2,h3,h4⟩:=h;⟨a,ns,k,s _ _ h1,h2,s.seq h3,h4⟩
theorem Sta.new(h:Sta K H st B){p:Addr}(hp:H p=none)(o:HO):Sta K (upd H p o) st B:=h.same (zj hp o)
theorem Sta.ne{p:Addr}(h:Sta K H st B)(hp:H p=none):p≠st:=fun e=>by
 obtain⟨o,q⟩:=h.ex
 rw[e,q]at hp
 cases hp
theorem Sta.neR{p:Addr}{ts:List Addr}(h:Sta K H st B)(hp:H p=some (.lst (ts.map V.ref))):p≠st:=fun e=>by
 obtain⟨a,ns,k,h1,_⟩:=h
 rw[e,h1]at hp
 have e2:=congrArg (fun o=>match o with|some (HO.lst l)=>l|_=>[]) hp
 simp only at e2
 match ts,e2 with
 |[_,_],e2=>simp at e2
 |[],e2=>simp at e2
 |[_],e2=>simp at e2
 |_::_::_::_,e2=>simp at e2
theorem Sta.neS{p:Addr}{ts:List Str}(h:Sta K H st B)(hp:H p=some (.lst (ts.map V.str))):p≠st:=fun e=>by
 obtain⟨a,ns,k,h1,_⟩:=h
 rw[e,h1]at hp
 have e2:=congrArg (fun o=>match o with|some (HO.lst l)=>l|_=>[]) hp
 simp only at e2
 match ts,e2 with
 |[],e2=>simp at e2
 |_::_,e2=>simp at e2
theorem Sta.neW{p:Addr}{x:Str}{xs:List V}(h:Sta K H st B)(hp:H p=some (.lst (.str x::xs))):p≠st:=fun e=>by
 obtain⟨a,ns,k,h1,_⟩:=h
 rw[e,h1]at hp
 simp at hp
theorem Sta.put{H2:Hp}{p:Addr}{o:HO}(S0:Sta K H st B)(hp:H p=none)(k:Kp st H H2)(S2:Sta K H2 st B'):Sta K (upd H2 p o) st B':=by
 obtain⟨a,ns,i,h1,h2,h3,_⟩:=S0
 obtain⟨a',ns',i',g1,g2,g3,g4⟩:=S2
 obtain⟨k',h'⟩:=k.s a _ h1
 rw[g1]at h'
 have ea:a'=a:=by
  have:=congrArg (fun o=>match o with|some (HO.lst (V.ref x::_))=>x|_=>0) h'
  exact this
 subst ea
 have g1':upd H2 p o st=some (.lst [.ref a',.int ((i':Nat):Int)]):=by rw[zi (zk h1 hp)];exact g1
 have key:a'≠p->Sta K (upd H2 p o) st B':=fun n=>by
  refine⟨a',ns',i',g1',g2,?_,g4⟩
  rcases g3 with(g|⟨o,g⟩)|g
  ·exact .inl (.inl (by rw[zi n];exact g))
  ·exact .inl (.inr ⟨o,by rw[zi n];exact g⟩)
  ·exact .inr g
 rcases h3 with(h|⟨_,h⟩)|h
 ·exact key (zk h hp)
 ·exact key (zk h hp)
 ·exact⟨a',ns,i',g1',fun _ _=>.inr h,.inr h,g4⟩
def Tups(H H':Hp):Prop:=∀p xs,H p=some (.tup xs)->H' p=some (.tup xs)
theorem Tups.of(s:Same H H'):Tups H H':=fun p xs h=>s p _ h
theorem Tups.trans{H2:Hp}(a:Tups H H')(b:Tups H' H2):Tups H H2:=fun p xs h=>b p xs (a p xs h)
theorem Kp.tups(k:Kp st H H')(h:Sta K H st B):Tups H H':=fun p xs q=>k.k p _ (fun e=>by
 obtain⟨_,_,_,h1,_⟩:=h
 rw[e,h1]at q
 cases q) q
end
def yp(K:uc):Sp:=fun vs H Q _=>∃(st:Addr)(m:Int)(B:Nat),vs=[.ref st,.int m]/\Sta K H st B/\B < LIM/\0 < m/\∀(H':Hp)(r:Int),Kp st H H'->Sta K H' st (B+1)->0<=r->r < m->Q (.int r) H'
def LET:Str:="abcdefghijklmnopqrstuvwxyz"
theorem za3:cl LET=(Uw 26).map (97 + ·):=by decide +kernel
def lt(i:Nat):Str:=sg (97+i)
theorem za4{i:Nat}(h:i < 26):atI LET.cps.toList (i:Int)=some (97+i):=by
 refine zL ?_
 show(cl LET)[i]?=_
 rw[za3,ug,List.getElem?_range h]
 rfl
theorem jD{m:Int}(h0:0<=m)(h:m < 26):atI LET.cps.toList m=some (97+m.toNat):=by
 have e:=za4 (i:=m.toNat) (by lia)
 rw[Int.toNat_of_nonneg h0]at e
 exact e
theorem jF:LET.length=26:=by decide +kernel
def core(k:Nat):Str:=lt (k / 2 % 26)++("z":Str)++lt (k / 52 % 26)
def ys(k:Nat):Str:=Txt.mul "y" ((k % 2:Nat):Int)
def nm(z:Str)(b:Bool)(k:Nat):Str:=if b=true then core k++z++ys k else ys k++z++core k
theorem wW(k:Nat):cl (core k)=[97+k / 2 % 26,122,97+k / 52 % 26]:=by
 unfold core
 rw[yb,yb]
 rfl
theorem Va(k:Nat):(core k).length=3:=by rw[<- xb,wW];rfl
theorem za5(k:Nat):(ys k).length<=1:=by
 have h:=JM (z:="y") (n:=((k % 2:Nat):Int)) rfl
 unfold ys
 lia
theorem YN(a b:Str):(a++b).length=a.length+b.length:=by rw[<- xb,yb,ub,xb,xb]
def spNm:Sp:=fun vs H Q _=>∃(p:Addr)(z:Str)(b:Bool)(xs:List V)(k:Nat),vs=[.ref p,.int (k:Nat)]/\H p=some (.lst (.str z::.bl b::xs))/\z.length<=6/\Q (.str (nm z b k)) H
section
variable{P:Program}{w:World}{K:uc}{mg:Str->Option Value}{base:Heap}{f:Addr}{fd:FuncData}
theorem scDraw:FnScope ["_law_state","_law_many","_law_k","_law_cell"] lS3 (zo WC):=.ok
theorem JN(F:Fun K "_law_draw" "_law_draw" WC f fd)(m_len:mg "len"=none):FnOk P w K mg base CX0 1 f fd lS3 (yp K):=by
 refine F.by scDraw (fun vs H Q E h=>?_) (fun cdv A outer s H vs Q E hr h=>?_)
 ·obtain⟨st,m,B,rfl,_⟩:=h
  rfl
 obtain⟨st,m,B,rfl,⟨a,ns,k,hst,hne,hS,hk⟩,hB,hm,q⟩:=h
 refine⟨_,
  (zg (sE 2 scDraw.nd (xL 0))
  (zg (yY (zu zN (jv 2) zn) (xz (jv 0) zn))
  (zg (zw (tN Zf (jv 2) (jL m_len (xL 0)))
   (zh (zp (zu xo (xX z6 (xL 0) (jv 2)) (jv 1)))) zr)
  (zg (sE 3 scDraw.nd (zu zN (zu jm (jv 2) zn) zn))
  (zg (zw (tN vg (jL m_len (xL 0)) zn)
   (zh (sE 3 scDraw.nd (zu zN (jv 3) (zu jm (xX z6 (xL 0) (zu xo (zu jm (jv 2) zn) (jL m_len (xL 0)))) (zu zN zn (jv 2)))))) zr)
  (zh (zp (zu xo (zu xo (jv 3) zn) (jv 1))))))))),?_⟩
 refine⟨_,rfl,ixL hst aI1 ?_⟩
 refine⟨_,rfl,_,_,rfl,rfl,_,rfl,st,_,1,1,rfl,rfl,hst,rfl,?_⟩
 have kp:Kp st H (upd H st (.lst [.ref a,.int ((k+1:Nat):Int)])):=⟨fun b u n h=>by rw[zi n];exact h,fun x y h=>by
  rw[hst]at h
  cases h
  exact⟨_,zf⟩⟩
 have hst1:=zf (H:=H) (a:=st) (o:=.lst [.ref a,.int ((k+1:Nat):Int)])
 have hS1:SqL K (upd H st (.lst [.ref a,.int ((k+1:Nat):Int)])) a (ns.map V.int):=by
  by_cases e:a=st
  ·exact hne e _
  ·exact kp.seq e hS
 have fin:∀r:Int,0<=r->r < m->Q (.int r) (upd H st (.lst [.ref a,.int ((k+1:Nat):Int)])):=fun r h0 h1=>q _ r kp ⟨a,ns,k+1,hst1,hne,hS1,by lia⟩ h0 h1
 show(tSeq _ _:TS) _ _ (upd H st (.lst [.ref a,.int ((k+1:Nat):Int)]))
 generalize upd H st (.lst [.ref a,.int ((k+1:Nat):Int)])=H1 at *
 have ix0:atI [V.ref a,V.int ((k+1:Nat):Int)] 0=some (.ref a):=aI0
 have mm:∀x:Int,0<=x % m/\x % m < m:=fun x=>⟨Int.emod_nonneg x (by lia),Int.emod_lt_of_pos x hm⟩
 refine⟨_,rfl,_,rfl,st,_,_,_,rfl,rfl,SqL.of hst1,ix0,_,_,rfl,.inl hS1,_,_,rfl,rfl,_,rfl,?_⟩
 rw[ua]
 refine ite2 (fun c=>?_) (fun c=>?_)
 ·rw[decide_eq_true_eq]at c
  have hi:k < ns.length:=by lia
  have hx:(ns.map V.int)[k]?=some (.int ns[k]):=by rw[ug,uq hi];rfl
  exact⟨_,rfl,st,_,_,_,rfl,rfl,SqL.of hst1,ix0,_,rfl,a,_,_,_,rfl,rfl,hS1,zL hx,_,rfl,_,_,rfl,rfl,hm,fin _ (mm _).1 (mm _).2⟩
 ·refine⟨_,rfl,_,_,rfl,rfl,.inr ⟨by decide,by decide⟩,_,_,rfl,rfl,?_⟩
  have tail:∀(c:Int)(D:Ends),D.rt=Q->(tRet (tOp (rI (fun _ j=>0 < j) fun i j=>V.int (i % j)) (tOp (rI (fun _ j=>0 < j) fun i j=>V.int (i % j)) (tVar 3) (tC (.int 2147483629))) (tVar 1)):TS) D [some (.ref st),some (.int m),some (.int (k:Nat)),some (.int c)] H1:=fun c D e=>by
   refine⟨_,rfl,_,_,rfl,rfl,(by show(0:Int) < _;decide),_,rfl,_,_,rfl,rfl,hm,?_⟩
   rw[e]
   exact fin _ (mm _).1 (mm _).2
  refine⟨_,rfl,st,_,_,_,rfl,rfl,SqL.of hst1,ix0,_,_,rfl,.inl hS1,_,_,rfl,rfl,_,rfl,?_⟩
  rw[ua]
  refine ite2 (fun c2=>?_) (fun c2=>tail _ _ rfl)
  rw[decide_eq_true_eq]at c2
  have hl:(0:Int) < (ns.length:Nat):=by lia
  have c0:=Int.emod_nonneg ((k:Nat)*7:Int) (show((ns.length:Nat):Int)≠0 by lia)
  have c1:=Int.emod_lt_of_pos ((k:Nat)*7:Int) hl
  have hi:(((k:Nat)*7:Int) % (ns.length:Nat)).toNat < ns.length:=by lia
  have hx:(ns.map V.int)[(((k:Nat)*7:Int) % (ns.length:Nat)).toNat]?=some (.int ns[(((k:Nat)*7:Int) % (ns.length:Nat)).toNat]):=by rw[ug,uq hi];rfl
  have hx2:atI (ns.map V.int) (((k:Nat)*7:Int) % (ns.length:Nat))=some (.int ns[(((k:Nat)*7:Int) % (ns.length:Nat)).toNat]):=by
   have e:=zL hx
   rw[Int.toNat_of_nonneg c0]at e
   exact e
  refine⟨_,rfl,_,rfl,st,_,_,_,rfl,rfl,SqL.of hst1,ix0,_,rfl,_,_,rfl,rfl,.inr ⟨by decide,by decide⟩,_,rfl,st,_,_,_,rfl,rfl,SqL.of hst1,ix0,_,_,rfl,.inl hS1,_,_,rfl,rfl,(by rw[ua];exact hl),?_⟩
  refine⟨a,_,_,_,rfl,rfl,hS1,(by rw[ua];exact hx2),_,rfl,_,_,rfl,rfl,_,_,rfl,rfl,.inr ⟨by show -(2 ^ 64) < (48271+(k:Nat):Int);lia,by show(48271+(k:Nat):Int) < 2 ^ 64;unfold LIM at hB;lia⟩,_,_,rfl,rfl,tail _ _ rfl⟩
theorem scNm:FnScope ["_law_world_here","_law_k","_law_letters","_law_core"] lS7 (zo sNm):=.ok
theorem zbX(F:Fun K "_law_name" "_law_name" sNm f fd):FnOk P w K mg base CX0 1 f fd lS7 spNm:=by
 refine F.by scNm (fun vs H Q E h=>?_) (fun cdv A outer s H vs Q E hr h=>?_)
 ·obtain⟨p,z,b,xs,k,rfl,_⟩:=h
  rfl
 obtain⟨p,z,b,xs,k,rfl,hp,hz,q⟩:=h
 refine⟨_,
  (zg (sE 2 scNm.nd zq)
  (zg (sE 3 scNm.nd (zu yq (zu yq (xX Z1 (jv 2) (zu xo (zu y0 (jv 1) zn) zn)) zq) (xX Z1 (jv 2) (zu xo (zu y0 (jv 1) zn) zn))))
  (zg (zw (zX (xL 0))
   (zh (zp (zu yq (zu yq (jv 3) (xL 0)) (zu vh zq (zu xo (jv 1) zn))))) zr)
  (zh (zp (zu yq (zu yq (zu vh zq (zu xo (jv 1) zn)) (xL 0)) (jv 3))))))),?_⟩
 have sl:=zK
 have e1:((k:Nat):Int) / 2 % 26=((k / 2 % 26:Nat):Int):=by lia
 have e2:((k:Nat):Int) / 52 % 26=((k / 52 % 26:Nat):Int):=by lia
 have e3:((k:Nat):Int) % 2=((k % 2:Nat):Int):=by lia
 have cl3:=Va k
 have yl:=za5 k
 have ec:(⟨#[97+(((k:Nat):Int) / 2 % 26).toNat]⟩:Str)++("z":Str)++(⟨#[97+(((k:Nat):Int) / 52 % 26).toNat]⟩:Str)=core k:=by
  rw[e1,e2]
  rfl
 suffices rest:∀c3:Str,c3=core k->(tSeq _ _:TS) { nx:=fun _ H'=>Q .non H',rt:=Q } [some (.ref p),some (.int (k:Nat)),some (.str LET),some (.str c3)] H by
  exact⟨_,rfl,_,rfl,_,_,rfl,rfl,⟨by decide,by decide⟩,_,_,rfl,rfl,(by show(0:Int) < _;decide),LET,_,_,rfl,rfl,by rw[jF];decide,jD (by lia) (by lia),_,_,rfl,rfl,by show 1+1<=sizeLine;decide,_,rfl,_,rfl,_,_,rfl,rfl,⟨by decide,by decide⟩,_,_,rfl,rfl,(by show(0:Int) < _;decide),LET,_,_,rfl,rfl,by rw[jF];decide,jD (by lia) (by lia),_,_,rfl,rfl,by show 2+1<=sizeLine;decide,rest _ ec⟩
 rintro _ rfl
 have mo:MulOk "y" (((k % 2:Nat):Int)):=za2 rfl (by lia) (by lia)
 refine⟨_,rfl,ixL hp aI1 ⟨_,rfl,?_⟩⟩
 unfold nm at q
 cases b with
 |true =>
  rw[if_pos rfl]at q
  refine iteT ?_
  refine⟨_,rfl,_,rfl,ixL hp aI0 ⟨_,_,rfl,rfl,by lia,_,rfl,_,_,rfl,rfl,(by show(0:Int) < _;decide),_,_,rfl,rfl,by rw[e3];exact mo,?_⟩⟩
  rw[e3]
  exact⟨_,_,rfl,rfl,by rw[YN];show(core k).length+z.length+(ys k).length<=_;lia,q⟩
 |false =>
  rw[if_neg (by decide)]at q
  refine iteF ?_
  refine⟨_,rfl,_,_,rfl,rfl,(by show(0:Int) < _;decide),_,_,rfl,rfl,by rw[e3];exact mo,?_⟩
  rw[e3]
  refine⟨_,rfl,ixL hp aI0 ⟨_,_,rfl,rfl,by show(ys k).length+z.length<=_;lia,_,rfl,_,_,rfl,rfl,by show(Txt.mul "y" (((k % 2:Nat):Int))++z).length+(core k).length<=_;rw[YN];show(ys k).length+z.length+(core k).length<=_;lia,q⟩⟩
end
end GN
namespace L2
open PySem PySem.Spec PyProof.Rows
theorem Zm:∀{xs:List V}{us:List Value},xs.length=us.length->(∀(j:Nat) x u,xs[j]?=some x->us[j]?=some u->RelV x u)->Vals xs us
 |[],[],_,_=>.nil
 |[],_::_,h,_=>by simp at h
 |_::_,[],h,_=>by simp at h
 |x::xs,u::us,h,g=>.cons (g 0 x u rfl rfl) (Zm (by simpa using h) fun j a b h1 h2=>g (j+1) a b (by simpa using h1) (by simpa using h2))
section
variable{X:Cx}
def Vb:List V->Hp->VK->Prop:=fun xs H Q=>∃d kvs,xs=[.ref d]/\H d=some (.dK kvs)/\∀l,H l=none->Q (.ref l) (upd H l (.lst (kvs.map fun kv=>kV kv.1)))
theorem vv(hc:X.calm=true):yJ X (.type "list") Vb:=by
 intro pins s σ H xs us Q I r h
 obtain⟨d,kvs,rfl,hd,q⟩:=h
 obtain⟨u,rfl,rx⟩:=xM r
 cases rx
 obtain⟨z,hs,ws,rel,dd⟩:=QP I.hok hd
 obtain⟨ep,da⟩:=dd.dictAt
 have wl:=rel.length
 refine PySem.W.kdl_call (PySem.W.kdl_dict (knd:=zZ X.prog X.w) (kvs:=ws) (ep:=ep) hs) (I.ok.hd hc) da (by lia) fun h' tk acc c hk hS hacc=>?_
 obtain⟨a1,a2⟩:=hacc
 refine⟨.ref s.heap.objs.size,_,I.laid (t':=tk) hk (ud _) (show ObjOk X.prog X.w _ h' _ (.lst (kvs.map fun kv=>kV kv.1))from⟨by rw[ua];exact z,acc.toList,c,?_,by rw[Array.toArray_toList];exact hS⟩),rfl,q _ (I.hok.fresh (ud _))⟩
 have al:acc.toList.length=acc.size:=Array.length_toList
 refine Zm (by rw[ua,al];lia) fun j x v h1 h2=>?_
 obtain⟨k,y,e1,e2⟩:=a2 j v (by rw[<- Array.getElem?_toList];exact h2)
 obtain⟨y',e3,_⟩:=rel.get e1
 rw[ug,e3]at h1
 cases h1
 exact zbW e2
theorem jH(hc:X.calm=true):jCa X (.type "list") Vb:=⟨vv hc⟩
end
section
variable{prog:Program}{w:World}{A:Around}{E:Value->Shared->Prop}
end
inductive TyN(H:Hp):V->Bool->Prop where
 |int (i:Int):TyN H (.int i) false
 |str (z:Str):TyN H (.str z) false
 |bl (b:Bool):TyN H (.bl b) false
 |non:TyN H .non false
 |lst {a:Addr} {xs:List V} (e:H a=some (.lst xs)):TyN H (.ref a) true
 |tup {a:Addr} {xs:List V} (e:H a=some (.tup xs)):TyN H (.ref a) true
section
variable{X:Cx}
variable{CX:CXT}{k:Nat}{C:Addr}{ps:List Str}{sp:Sp}{E:XK}{x m:Str}{p pos apos:Pos}{e o:Expr}{es:List Expr}{ta:TE}{t:TA}
end
section
variable{g:TG}{tt:TT}{te:TE}{Q:VK}{σ:St}{H:Hp}
theorem Yg{K:uc}{k m:Bool}{a b:Addr}{xs ys:List V}(hlen:xs.length=ys.length)(Pv:Nat->St->List V->Hp->Prop)(h0:Pv 0 σ [] H)(hl:∀i τ zs H,i<=xs.length->Pv i τ zs H->SqK k K H a xs/\SqK m K H b ys)
  (hs:∀i x y T τ zs H,xs[i]?=some x->ys[i]?=some y->H T=none->Pv i τ zs H->g (.ref T) τ (upd H T (.tup [x,y])) fun τ2 H2=>tt τ2 H2 fun b H3=>if b=true then te τ2 H3 fun y H4=>zs.length < sizeLine/\Pv (i+1) τ2 (zs++[y]) H4 else Pv (i+1) τ2 zs H3)
  (hd:∀τ zs H,Pv xs.length τ zs H->∀p,H p=none->Q (.ref p) (upd H p (.lst zs))):∃W,(∃m,W 0 m σ [] H)/\lcBy (Itz K k m a b) g tt te Q W:=by
 refine⟨fun i m τ zs H=>m=xs.length-i/\i<=xs.length/\Pv i τ zs H,⟨xs.length,by simp,uN _,h0⟩,?_⟩
 rintro i n τ zs H ⟨rfl,hi,p⟩
 obtain⟨q1,q2⟩:=hl i τ zs H hi p
 by_cases hlt:i < xs.length
 ·refine .inr ⟨⟨xs,ys,xs[i],ys[i]'(by lia),q1,q2,by simp[hlt],by simp[<- hlen,hlt]⟩,Pv (i+1),fun τ' zs' H' p'=>⟨xs.length-(i+1),by lia,rfl,hlt,p'⟩,fun x H' y=>?_⟩
  obtain⟨T,x,y,rfl,hT,rfl,e1,e2⟩:=y
  exact hs i x y T τ zs H (e1 xs q1) (e2 ys q2) hT p
 ·have e:i=xs.length:=by lia
  subst e
  exact .inl ⟨⟨xs,ys,q1,q2,.inl (ud _)⟩,hd τ zs H p⟩
end
section
variable{X:Cx}{k:Nat}{o e f i:Expr}{td ty tx:TE}{apos cpos pos:Pos}
theorem za6(hr:Room k X.A)(hi:jE X i ty)(ho:jE X o td)(h1:behindInMarks .In o=false:=by rfl):jT X (.Compare i [.In] [o] pos) (tB (tDIn ty td)):=⟨zaj (za1 (zbP hr) hi.out ho.out) (h1:=h1)⟩
theorem YO(hc:X.calm=true):jCa X (.builtin "min") (fun xs H Q=>∃i j,xs=[.int i,.int j]/\Q (.int (if j < i then j else i)) H):=⟨Xo hc⟩
end
section
variable{prog:Program}{w:World}{A:Around}{s:Shared}{E:Value->Shared->Prop}
end
section
variable{X:Cx}{scope:Scope}{cl:List (Str×Addr)}{S:List Nat}{pins:List (Addr×Obj)}{σ:St}{H:Hp}{s:Shared}{ex:List Addr}{M:List Str}{C:Addr}
variable{tg elt iter:Expr}{ifs:List Expr}{pos:Pos}{wi:TI}{g:TG}{tt:TT}{te:TE}
end
section
variable{X:Cx}{scope:Scope}{M:List Str}{tg elt l:Expr}{ifs:List Expr}{pos:Pos}{tl:TE}{g:TG}{tt:TT}{te:TE}
end
end L2
namespace PySem.W
open PySem PySem.Spec PySem.Calls PyProof.Rows
section
variable{prog:Program}{w:World}{A:Around}{E:Value->Shared->Prop}{s:Shared}{K:Frag}{e C:Addr}{ox od:Obj}
end
structure XIs(K:Frag)(C:Addr):Prop where
 ga:findIn K (.ref C) "__getattribute__"=some (some (.builtin "BaseException.__getattribute__"))
 ha:findIn K (.ref C) "__getattr__"=some none
 sb:subIn K (.ref C) (.type "BaseException")=some true
 hd:hasDictIn K C=true
 cl:findIn K (.ref C) "__class__"=some (some (.builtin "object.__class__"))
 gs:specialIn K (.builtin "object.__class__") "__get__"=some (some (.builtin "getset_descriptor.__get__"))
 tk:takesIn K (.builtin "object.__class__")=some true
 mo:mroIn K C (.type "object")=some true
end PySem.W
namespace L2
open PySem PySem.Spec PyProof.Rows
section
variable{prog:Program}{w:World}{A:Around}{E:Value->Shared->Prop}{h:Heap}{g:Array GenState}{d:Drawn}{t:Nat}{os:OsState}
variable{nm q:Str}{C N:Addr}{bs bm bmB:List Value}{hdct:Bool}{sn:List Str}{sub:List Value}{ab:Bool}{col:Option Bool}{dd:Option Addr}{k0 k1 k2 k3 k5:Option Value}{B Bn newId nid initId inN:String}{bmN:List Value}
end
section
variable{X:Cx}{k:Nat}{C:Addr}{E:XK}{x:Str}{np cpos pos:Pos}
end
end L2
namespace PySem.W
open PySem PySem.Spec PySem.Calls PyProof.Rows
section
variable{prog:Program}{w:World}{A:Around}{E:Value->Shared->Prop}{s:Shared}{K:Frag}{e C:Addr}{ox:Obj}{od:Option Obj}
end
end PySem.W
namespace L2
open PySem PySem.Spec PyProof.Rows
inductive ClsV:V->Value->Prop where
 |ref (C:Addr):ClsV (.ref C) (.ref C)
 |ty (T:String):ClsV (.ty T) (.type T)
inductive ClsVs:List V->List Value->Prop where
 |nil:ClsVs [] []
 |cons {D:V} {c:Value} {Ds:List V} {cs:List Value} (h:ClsV D c) (t:ClsVs Ds cs):ClsVs (D::Ds) (c::cs)
inductive Asked(K:uc)(t:Value)(H:Hp):V->Bool->Prop where
 |one {D:V} {c:Value} {b:Bool} (h:ClsV D c) (e:PySem.W.kitOne K t c=some b):Asked K t H D b
 |tup {tp:Addr} {Ds:List V} {cs:List Value} {b:Bool} (ht:H tp=some (.tup Ds)) (h:ClsVs Ds cs) (e:PySem.W.kitAny K t cs=some b):Asked K t H (.ref tp) b
section
variable{X:Cx}{e C d:Addr}{oe:Obj}{pins:List (Addr×Obj)}{s:Shared}{σ:St}{H:Hp}{od:Option Obj}{D:V}{b:Bool}{u:Value}{Q:VK}
end
section
variable{X:Cx}{k:Nat}{C f:Addr}{ps:List Str}{sp:Sp}{x name:Str}{np cpos pos:Pos}{a ex:Expr}{as:List Expr}{t:TA}{te:TE}
end
end L2
namespace GN
open PySem L2 K11
section
variable{α:Type}
def look(l:List (Str×α))(x:Str):Option α:=(l.find? fun p=>decide (p.1=x)).map (·.2)
def drpA(l:List (Str×α))(x:Str):List (Str×α):=l.filter fun p=>decide (p.1≠x)
def em(e:α->V)(l:List (Str×α)):List (Key×V):=l.map fun p=>(.inr p.1,e p.2)
end
structure Hs where
 ns:List (Str×Bool)
 ts:List (Str×Int)
inductive Dd
 |num (i:Int)
 |op (w a b:Str)
 |mk (t:Str) (ns:List Str) (k:Str)
 |call (g:Str) (ns:List Str)
 |fn (g:Str) (ns:List Str)
 |ask (g:Str) (ns:List Str)
mutual
inductive Bd
 |give (x:Str)
 |lt (x:Str) (d:Dd) (b:Bd)
 |hold (x y:Str) (b:Bd)
 |drop (x:Str) (b:Bd)
 |loose (t:Str) (b:Bd)
 |iff (x:Str) (b c:Bd)
 |cs (x:Str) (as:Arms)
inductive Arms
 |nil
 |cons (t:Str) (ns:List Str) (m k:Str) (b:Bd) (r:Arms)
end
def IsDd(H:Hp):Dd->Addr->Prop
 |.num i,p=>H p=some (.tup [.str "num",.int i])
 |.op w a b,p=>H p=some (.tup [.str "op",.str w,.str a,.str b])
 |.mk t ns k,p=>∃q,H p=some (.tup [.str "make",.str t,.ref q,.str k])/\H q=some (.tup (ns.map V.str))
 |.call g ns,p=>∃q,H p=some (.tup [.str "call",.str g,.ref q])/\H q=some (.tup (ns.map V.str))
 |.fn g ns,p=>∃q,H p=some (.tup [.str "func",.str g,.ref q])/\H q=some (.tup (ns.map V.str))
 |.ask g ns,p=>∃q,H p=some (.tup [.str "ask",.str g,.ref q])/\H q=some (.tup (ns.map V.str))
theorem IsDd.keep{H H':Hp}(t:Tups H H'):∀{d:Dd}{p:Addr},IsDd H d p->IsDd H' d p
 |.num _,p,h=>t _ _ h
 |.op _ _ _,p,h=>t _ _ h
 |.mk _ _ _,p,⟨q,a,b⟩=>⟨q,t _ _ a,t _ _ b⟩
 |.call _ _,p,⟨q,a,b⟩=>⟨q,t _ _ a,t _ _ b⟩
 |.fn _ _,p,⟨q,a,b⟩=>⟨q,t _ _ a,t _ _ b⟩
 |.ask _ _,p,⟨q,a,b⟩=>⟨q,t _ _ a,t _ _ b⟩
mutual
def IsBd(H:Hp):Bd->Addr->Prop
 |.give x,p=>H p=some (.tup [.str "give",.str x])
 |.lt x d b,p=>∃q r,H p=some (.tup [.str "let",.str x,.ref q,.ref r])/\IsDd H d q/\IsBd H b r
 |.hold x y b,p=>∃r,H p=some (.tup [.str "hold",.str x,.str y,.ref r])/\IsBd H b r
 |.drop x b,p=>∃r,H p=some (.tup [.str "drop",.str x,.ref r])/\IsBd H b r
 |.loose x b,p=>∃r,H p=some (.tup [.str "loose",.str x,.ref r])/\IsBd H b r
 |.iff x b c,p=>∃q r,H p=some (.tup [.str "if",.str x,.ref q,.ref r])/\IsBd H b q/\IsBd H c r
 |.cs x as,p=>∃q ts,H p=some (.tup [.str "case",.str x,.ref q])/\H q=some (.tup (ts.map V.ref))/\IsArms H as ts
def IsArms(H:Hp):Arms->List Addr->Prop
 |.nil,ts=>ts=[]
 |.cons t ns m k b r,ts=>∃p q s ts',ts=p::ts'/\H p=some (.tup [.str t,.ref q,.str m,.str k,.ref s])/\H q=some (.tup (ns.map V.str))/\IsBd H b s/\IsArms H r ts'
end
mutual
theorem IsBd.keep{H H':Hp}(t:Tups H H'):∀{b:Bd}{p:Addr},IsBd H b p->IsBd H' b p
 |.give x,p,h=>t _ _ h
 |.lt x d b,p,h=>let ⟨q,r,a,e,f⟩:=h;⟨q,r,t _ _ a,e.keep t,IsBd.keep t f⟩
 |.hold x y b,p,h=>let ⟨r,a,f⟩:=h;⟨r,t _ _ a,IsBd.keep t f⟩
 |.drop x b,p,h=>let ⟨r,a,f⟩:=h;⟨r,t _ _ a,IsBd.keep t f⟩
 |.loose x b,p,h=>let ⟨r,a,f⟩:=h;⟨r,t _ _ a,IsBd.keep t f⟩
 |.iff x b c,p,h=>let ⟨q,r,a,e,f⟩:=h;⟨q,r,t _ _ a,IsBd.keep t e,IsBd.keep t f⟩
 |.cs x as,p,h=>let ⟨q,ts,a,e,f⟩:=h;⟨q,ts,t _ _ a,t _ _ e,IsArms.keep t f⟩
theorem IsArms.keep{H H':Hp}(t:Tups H H'):∀{as:Arms}{ts:List Addr},IsArms H as ts->IsArms H' as ts
 |.nil,ts,h=>h
 |.cons g ns m k b r,ts,h=>let ⟨p,q,s,ts',e,a1,a2,a3,a4⟩:=h;⟨p,q,s,ts',e,t _ _ a1,t _ _ a2,IsBd.keep t a3,IsArms.keep t a4⟩
end
mutual
def Bd.sz:Bd->Nat
 |.give _=>1
 |.lt _ _ b=>b.sz+1
 |.hold _ _ b=>b.sz+1
 |.drop _ b=>b.sz+1
 |.loose _ b=>b.sz+1
 |.iff _ b c=>b.sz+c.sz+1
 |.cs _ as=>as.sz+1
def Arms.sz:Arms->Nat
 |.nil=>0
 |.cons _ _ _ _ b r=>b.sz+r.sz+1
end
def Zn(x:Str)(s:Hs):Option Hs:=if look s.ns x=some true then some ⟨drpA s.ns x,s.ts⟩else none
def Zo(x:Str)(s:Hs):Option Hs:=if look s.ns x=none then some ⟨s.ns++[(x,true)],s.ts⟩else none
def xI(x:Str)(s:Hs):Bool:=(look s.ns x).isSome
def zbY(t:Str)(n:Int)(s:Hs):Option Hs:=if look s.ts t=none then some ⟨s.ns,s.ts++[(t,n)]⟩else none
def useT(t:Str)(s:Hs):Option (Int×Hs):=(look s.ts t).map fun n=>(n,⟨s.ns,drpA s.ts t⟩)
abbrev Ow:=List (Str×List Bool)
def Yh:Dd->List Str
 |.num _=>[]
 |.op _ a b=>[a,b]
 |.mk _ ns _=>ns
 |.call _ ns=>ns
 |.fn _ ns=>ns
 |.ask g ns=>g::ns
def QS(ow:Ow):Dd->List Bool
 |.num _=>[]
 |.op _ _ _=>[false,false]
 |.mk _ ns _=>ns.map fun _=>true
 |.call g _=>(look ow g).getD []
 |.fn _ ns=>ns.map fun _=>true
 |.ask _ ns=>true::ns.map fun _=>true
def Yi:List (Str×Bool)->Hs->Option Hs
 |[],s=>some s
 | (x,true)::r,s=>(Zn x s).bind (Yi r)
 | (_,false)::r,s=>Yi r s
def jJ:List (Str×Bool)->Hs->Bool
 |[],_=>true
 | (_,true)::r,s=>jJ r s
 | (x,false)::r,s=>xI x s && jJ r s
def zbZ(ow:Ow):Dd->Hs->Option Hs
 |.fn g _,s=>if((look ow g).getD []).all id=true then some s else none
 |.mk _ ns k,s=>if k=""then some s else(useT k s).bind fun p=>if p.1=((ns.length:Nat):Int)then some p.2 else none
 |_,s=>some s
def QT(ow:Ow)(d:Dd)(s:Hs):Option Hs:=(Yi ((Yh d).zip (QS ow d)) s).bind fun s1=>if jJ ((Yh d).zip (QS ow d)) s1=true then zbZ ow d s1 else none
def YQ:List Str->Hs->Option Hs
 |[],s=>some s
 |x::r,s=>(Zo x s).bind (YQ r)
def armC(x:Str)(ns:List Str)(m k:Str)(s:Hs):Option Hs:=(if m="take"then Zn x s else some s).bind fun s1=>(YQ ns s1).bind fun s2=>if k=""then some s2 else if m="take"/\0 < ns.length then zbY k ((ns.length:Nat):Int) s2 else none
def QU(x:Str):Arms->Hs->Option (List (Bd×Hs))
 |.nil,_=>some []
 |.cons _ ns m k b r,s=>(armC x ns m k s).bind fun s1=>(QU x r s).map fun l=>(b,s1)::l
def zb0(s:Hs):Bool:=s.ts.isEmpty && !(s.ns.any (·.2))
def pc(ow:Ow):Bd->Hs->Option (List (Bd×Hs))
 |.give x,s=>(Zn x s).bind fun s1=>if zb0 s1=true then some []else none
 |.lt x d b,s=>(QT ow d s).bind fun s1=>(Zo x s1).map fun s2=>[(b,s2)]
 |.hold x y b,s=>if xI y s=true then(Zo x s).map fun s2=>[(b,s2)]else none
 |.drop x b,s=>(Zn x s).map fun s2=>[(b,s2)]
 |.loose t b,s=>(useT t s).map fun p=>[(b,p.2)]
 |.iff x b c,s=>if xI x s=true then some [(b,s),(c,s)]else none
 |.cs x as,s=>if xI x s=true then QU x as s else none
mutual
def okB(ow:Ow):Bd->Hs->Bool
 |.give x,s=>(pc ow (.give x) s).isSome
 |.lt x d b,s=>match (QT ow d s).bind (Zo x)with
  |none=>false
  |some s2=>okB ow b s2
 |.hold x y b,s=>xI y s && match Zo x s with
  |none=>false
  |some s2=>okB ow b s2
 |.drop x b,s=>match Zn x s with
  |none=>false
  |some s2=>okB ow b s2
 |.loose t b,s=>match useT t s with
  |none=>false
  |some p=>okB ow b p.2
 |.iff x b c,s=>xI x s && (okB ow b s && okB ow c s)
 |.cs x as,s=>xI x s && okA ow x as s
def okA(ow:Ow)(x:Str):Arms->Hs->Bool
 |.nil,_=>true
 |.cons _ ns m k b r,s=>(match armC x ns m k s with
  |none=>false
  |some s1=>okB ow b s1) && okA ow x r s
end
end GN
namespace L2
open PySem PySem.Spec PyProof.Rows
section
variable{X:Cx}
theorem vw(hc:X.calm=true):yJ X (.builtin "any") (fun xs H Q=>∃(p:Addr)(bs:List Bool),xs=[.ref p]/\SqL X.K H p (bs.map V.bl)/\Q (.bl (bs.any _root_.id)) H):=by
 intro pins s σ H xs us Q I r h
 obtain⟨p,bs,rfl,hq,q⟩:=h
 obtain⟨u,rfl,rx⟩:=xM r
 cases rx
 obtain⟨its,rv,pl,hz⟩:=I.list hq
 have hh:X.A.handled=none:=I.ok.hd hc
 have hlen:its.toArray.size=bs.length:=by rw[ut,<- rv.length,ua]
 have hne:p≠s.heap.objs.size:=by
  obtain⟨o,n,e,_⟩:=pl
  exact uK (uy e)
 refine call_any_walk (wpAny_pyIter_list pl.isList ?_)
 refine⟨s.heap.objs.size,_,_,_,_,_,fun i=>(bs[i]?).getD false,rfl,Walks.list (A:=X.A.in1) hh _ p hne its.toArray,⟨⟨_,ux _ rfl,rfl,rfl⟩,pl.isList.at fun o e=>ue _ e⟩,fun i v s1 Q1 E1 hv hQ=>?_,fun h' tk kk=>?_⟩
 ·have hi:i < bs.length:=by
   obtain⟨hi,_⟩:=Array.getElem?_eq_some_iff.mp hv
   rw[hlen]at hi
   exact hi
  have hb:(bs.map V.bl)[i]?=some (V.bl ((bs[i]?).getD false)):=by
   rw[ug,uq hi]
   simp
  obtain⟨u',hu,ru⟩:=rv.get hb
  have e:its.toArray[i]?=some u':=by simpa using hu
  have hv':its.toArray[i]?=some v:=hv
  rw[hv']at e
  cases e
  cases ru
  exact wpAny_truthy_bool hQ
 ·rw[hlen,LSm.range_any]
  have I1:Inv X pins σ H { s with heap:=s.heap.push { cls:=.type "list_iterator",data:=.fields #[.ref p,.int 0 0] } }:=I.kept (t':=s.toks) fun b o e=>ue _ e
  have f:=I.fpOk (H':=H) (ud _) I.fresh
  exact⟨.bl (bs.any _root_.id),H,I1.turned (it:=s.heap.objs.size) (fun b o hb e=>kk b o (by simpa using hb) e) f.1 f.2.1 f.2.2.2.1 f.2.2.2.2.1 f.2.2.2.2.2,rfl,q⟩
theorem wf(hc:X.calm=true):jCa X (.builtin "any") (fun xs H Q=>∃(p:Addr)(bs:List Bool),xs=[.ref p]/\SqL X.K H p (bs.map V.bl)/\Q (.bl (bs.any _root_.id)) H):=⟨vw hc⟩
end
section
variable{prog:Program}{w:World}{A:Around}{E:Value->Shared->Prop}{s:Shared}
end
section
variable{X:Cx}{elts:List Expr}{k:Nat}{tpos:Pos}
end
section
variable{X:Cx}
theorem wO(hc:X.calm=true):yJ X (.builtin "all") (fun xs H Q=>∃(p:Addr)(bs:List Bool),xs=[.ref p]/\H p=some (.tup (bs.map V.bl))/\Q (.bl (bs.all _root_.id)) H):=by
 intro pins s σ H xs us Q I r h
 obtain⟨p,bs,rfl,hq,q⟩:=h
 obtain⟨u,rfl,rx⟩:=xM r
 cases rx
 obtain⟨its,rv,pl,hz⟩:=I.tuple (SqT.of hq)
 have hh:X.A.handled=none:=I.ok.hd hc
 have hlen:its.toArray.size=bs.length:=by rw[ut,<- rv.length,ua]
 have hne:p≠s.heap.objs.size:=uK (I.hok.lt hq)
 refine call_all_walk (wpAny_pyIter_tuple (show s.heap.IsTuple p its.toArray from pl) ?_)
 refine⟨s.heap.objs.size,_,_,_,_,_,fun i=>bs.getD i false,rfl,Walks.tuple (A:=X.A.in1) hh _ p hne its.toArray,⟨⟨_,ux _ rfl,rfl,rfl⟩,(show s.heap.IsTuple p its.toArray from pl).at fun o e=>ue _ e⟩,fun i v s1 Q1 E1 hv hQ=>?_,fun h' tk kk=>?_⟩
 ·have hi:i < bs.length:=by
   obtain⟨hi,_⟩:=Array.getElem?_eq_some_iff.mp hv
   rw[hlen]at hi
   exact hi
  have hb:(bs.map V.bl)[i]?=some (V.bl (bs.getD i false)):=by
   rw[ug,uq hi]
   simp[List.getD,uq hi]
  obtain⟨u',hu,ru⟩:=rv.get hb
  have e:its.toArray[i]?=some u':=by simpa using hu
  have hv':its.toArray[i]?=some v:=hv
  rw[hv']at e
  cases e
  cases ru
  exact wpAny_truthy_bool hQ
 ·have e:(Uw its.toArray.size).all (fun i=>bs.getD i false)=bs.all _root_.id:=by
   rw[hlen]
   exact Xz bs
  rw[e]
  have I1:Inv X pins σ H { s with heap:=s.heap.push { cls:=.type "tuple_iterator",data:=.fields #[.ref p,.int 0 0] } }:=I.kept (t':=s.toks) fun b o e=>ue _ e
  have f:=I.fpOk (H':=H) (ud _) I.fresh
  exact⟨.bl (bs.all _root_.id),H,I1.turned (it:=s.heap.objs.size) (fun b o hb e=>kk b o (by simpa using hb) e) f.1 f.2.1 f.2.2.2.1 f.2.2.2.2.1 f.2.2.2.2.2,rfl,q⟩
theorem vS(hc:X.calm=true):jCa X (.builtin "all") (fun xs H Q=>∃(p:Addr)(bs:List Bool),xs=[.ref p]/\H p=some (.tup (bs.map V.bl))/\Q (.bl (bs.all _root_.id)) H):=⟨wO hc⟩
end
section
variable{prog:Program}{w:World}{A:Around}
end
section
variable{X:Cx}
end
section
variable{prog:Program}{w:World}{A:Around}
end
section
variable{X:Cx}{a b:Expr}{ta:TA}{p1 p2 pos1 pos2:Pos}
end
end L2
namespace GN
open PySem L2 K11
theorem iteE{b:Bool}{A B:Prop}(e:b=false)(h:B):if b=true then A else B:=by rw[if_neg (by rw[e];decide)];exact h
structure ArmR where
 t:Str
 ns:List Str
 m:Str
 k:Str
 b:Bd
def Arms.l:Arms->List ArmR
 |.nil=>[]
 |.cons t ns m k b r=>⟨t,ns,m,k,b⟩ :: r.l
theorem IsArms.len{H:Hp}:∀{as:Arms}{ts:List Addr},IsArms H as ts->ts.length=as.l.length
 |.nil,ts,h=>by
  have h:ts=[]:=h
  rw[h]
  rfl
 |.cons t ns m k b r,ts,h=>by
  obtain⟨p,q,s,ts',rfl,_,_,_,h⟩:=h
  rw[uo,IsArms.len h]
  rfl
theorem IsArms.get{H:Hp}:∀{as:Arms}{ts:List Addr}{i:Nat}{t:Addr},IsArms H as ts->ts[i]?=some t->∃(q:ArmR)(p s:Addr),as.l[i]?=some q/\H t=some (.tup [.str q.t,.ref p,.str q.m,.str q.k,.ref s])/\H p=some (.tup (q.ns.map V.str))/\IsBd H q.b s
 |.nil,ts,i,t,h,e=>by
  have h:ts=[]:=h
  rw[h]at e
  simp at e
 |.cons tg ns m k b r,ts,i,t,h,e=>by
  obtain⟨p,q,s,ts',rfl,h1,h2,h3,h4⟩:=h
  cases i with
  |zero =>
   simp at e
   subst e
   exact⟨⟨tg,ns,m,k,b⟩,q,s,rfl,h1,h2,h3⟩
  |succ i =>
   obtain⟨q',p',s',g1,g2⟩:=IsArms.get (i:=i) h4 (by simpa using e)
   exact⟨q',p',s',by simpa[Arms.l]using g1,g2⟩
structure Df where
 g:Str
 ps:List Str
 os:List Bool
 b:Bd
def IsDf(H:Hp)(d:Df)(o:Addr):Prop:=∃pp po pb,H o=some (.tup [.str d.g,.ref pp,.ref po,.ref pb])/\H pp=some (.tup (d.ps.map V.str))/\H po=some (.tup (d.os.map V.bl))/\IsBd H d.b pb
theorem IsDf.keep{H H':Hp}{d:Df}{o:Addr}(t:Tups H H')(h:IsDf H d o):IsDf H' d o:=let ⟨pp,po,pb,a,b,c,e⟩:=h;⟨pp,po,pb,t _ _ a,t _ _ b,t _ _ c,e.keep t⟩
theorem Bd.sz_pos:∀b:Bd,0 < b.sz
 |.give _=>by rw[Bd.sz];exact Nat.zero_lt_one
 |.lt _ _ _=>by rw[Bd.sz];lia
 |.hold _ _ _=>by rw[Bd.sz];lia
 |.drop _ _=>by rw[Bd.sz];lia
 |.loose _ _=>by rw[Bd.sz];lia
 |.iff _ _ _=>by rw[Bd.sz];lia
 |.cs _ _=>by rw[Bd.sz];lia
def IsDfs(H:Hp)(ds:List Df)(os:List Addr):Prop:=ds.length=os.length/\∀(i:Nat)(d:Df)(o:Addr),ds[i]?=some d->os[i]?=some o->IsDf H d o
theorem IsDfs.keep{H H':Hp}{ds:List Df}{os:List Addr}(t:Tups H H')(h:IsDfs H ds os):IsDfs H' ds os:=⟨h.1,fun i d o a b=>(h.2 i d o a b).keep t⟩
def IsCode(H:Hp)(ds:List Df)(p:Addr):Prop:=∃v pd os,H p=some (.tup [v,.ref pd])/\H pd=some (.tup (os.map V.ref))/\IsDfs H ds os
theorem IsCode.keep{H H':Hp}{ds:List Df}{p:Addr}(t:Tups H H')(h:IsCode H ds p):IsCode H' ds p:=let ⟨v,pd,os,a,b,c⟩:=h;⟨v,pd,os,t _ _ a,t _ _ b,c.keep t⟩
mutual
def Bd.binds:Bd->List Str
 |.give _=>[]
 |.lt x _ b=>x::b.binds
 |.hold x _ b=>x::b.binds
 |.drop _ b=>b.binds
 |.loose _ b=>b.binds
 |.iff _ a b=>a.binds++b.binds
 |.cs _ as=>as.binds
def Arms.binds:Arms->List Str
 |.nil=>[]
 |.cons _ ns _ _ b r=>ns++(b.binds++r.binds)
end
def once(acc:List Str):List Str->List Str
 |[]=>acc
 |x::r=>once (if x∈acc then acc else acc++[x]) r
theorem vx:∀(a b acc:List Str),once acc (a++b)=once (once acc a) b
 |[],b,acc=>rfl
 |x::a,b,acc=>by
  show once (if x∈acc then acc else acc++[x]) (a++b)=once (once (if x∈acc then acc else acc++[x]) a) b
  exact vx a b _
theorem ja{l:List Str}{i:Nat}{x:Str}{acc:List Str}(h:l[i]?=some x):once acc (l.take (i+1))=if x∈once acc (l.take i)then once acc (l.take i)else once acc (l.take i)++[x]:=by
 rw[uJ,h,vx]
 rfl
theorem yV:∀(l acc:List Str),(once acc l).length<=acc.length+l.length
 |[],acc=>ud _
 |x::r,acc=>by
  unfold once
  have:=yV r (if x∈acc then acc else acc++[x])
  rw[uo]
  split at this
  ·split
   ·lia
   ·contradiction
  ·split
   ·contradiction
   ·rw[ub,Ui]at this
    lia
abbrev Wy:=List (List Str×Bd)
inductive IsY(H:Hp):Wy->List Addr->Prop
 |nil:IsY H [] []
 |cons {ns:List Str} {b:Bd} {p q r:Addr} {l:Wy} {ps:List Addr}:H p=some (.tup [.ref q,.ref r])->H q=some (.tup (ns.map V.str))->IsBd H b r->IsY H l ps->IsY H ((ns,b)::l) (p::ps)
theorem IsY.keep{H H':Hp}{l:Wy}{p:List Addr}(h:IsY H l p)(t:Tups H H'):IsY H' l p:=by
 induction h with
 |nil=>exact .nil
 |cons a b c _ ih=>exact .cons (t _ _ a) (t _ _ b) (c.keep t) ih
theorem IsY.app{H:Hp}{a b:Wy}{p q:List Addr}(h:IsY H a p)(g:IsY H b q):IsY H (a++b) (p++q):=by
 induction h with
 |nil=>exact g
 |cons x y z _ ih=>exact .cons x y z ih
theorem IsY.len{H:Hp}{l:Wy}{p:List Addr}(h:IsY H l p):l.length=p.length:=by
 induction h with
 |nil=>rfl
 |cons _ _ _ _ ih=>rw[uo,uo,ih]
def Arms.ways:Arms->Wy
 |.nil=>[]
 |.cons _ ns _ _ b r=>(ns,b)::r.ways
def Bd.ways:Bd->Wy
 |.give _=>[]
 |.lt x _ b=>[([x],b)]
 |.hold x _ b=>[([x],b)]
 |.drop _ b=>[([],b)]
 |.loose _ b=>[([],b)]
 |.iff _ a b=>[([],a),([],b)]
 |.cs _ as=>as.ways
def pend(l:Wy):List Str:=l.flatMap fun p=>p.1++p.2.binds
theorem Arms.pend:∀as:Arms,GN.pend as.ways=as.binds
 |.nil=>by unfold Arms.ways Arms.binds;rfl
 |.cons t ns m k b r=>by
  unfold Arms.ways Arms.binds GN.pend
  rw[Uz]
  have:=Arms.pend r
  unfold GN.pend at this
  rw[this,Um]
theorem Bd.pend(b:Bd):GN.pend b.ways=b.binds:=by
 cases b with
 |give x=>unfold Bd.ways Bd.binds;rfl
 |lt x d b=>unfold Bd.ways Bd.binds GN.pend;simp
 |hold x d b=>unfold Bd.ways Bd.binds GN.pend;simp
 |drop x b=>unfold Bd.ways Bd.binds GN.pend;simp
 |loose x b=>unfold Bd.ways Bd.binds GN.pend;simp
 |iff x a b=>unfold Bd.ways Bd.binds GN.pend;simp
 |cs x as=>unfold Bd.ways Bd.binds;exact Arms.pend as
def wsz(l:Wy):Nat:=(l.map fun p=>p.2.sz).sum
theorem Arms.wsz:∀as:Arms,GN.wsz as.ways<=as.sz
 |.nil=>by unfold Arms.ways Arms.sz GN.wsz;decide
 |.cons t ns m k b r=>by
  unfold Arms.ways Arms.sz GN.wsz
  have:=Arms.wsz r
  unfold GN.wsz at this
  rw[uu,uW]
  show b.sz+_<=_
  lia
theorem Bd.wsz(b:Bd):GN.wsz b.ways < b.sz:=by
 cases b with
 |give x=>rw[Bd.sz];show(0:Nat) < 1;decide
 |lt x d b=>rw[Bd.sz];show b.sz+0 < b.sz+1;lia
 |hold x d b=>rw[Bd.sz];show b.sz+0 < b.sz+1;lia
 |drop x b=>rw[Bd.sz];show b.sz+0 < b.sz+1;lia
 |loose x b=>rw[Bd.sz];show b.sz+0 < b.sz+1;lia
 |iff x a b=>rw[Bd.sz];show a.sz+(b.sz+0) < a.sz+b.sz+1;lia
 |cs x as=>rw[Bd.sz];have:=Arms.wsz as;show GN.wsz as.ways < as.sz+1;lia
theorem YR(a b:Wy):wsz (a++b)=wsz a+wsz b:=by unfold wsz;rw[ui,List.sum_append]
theorem Zp(a b:Wy):pend (a++b)=pend a++pend b:=by unfold pend;rw[List.flatMap_append]
theorem Arms.ways_l:∀as:Arms,as.ways=as.l.map fun q=>(q.ns,q.b)
 |.nil=>by unfold Arms.ways Arms.l;rfl
 |.cons t ns m k b r=>by unfold Arms.ways Arms.l;rw[Arms.ways_l r];rfl
theorem jK:∀a:Arms,a.ways.length<=a.sz
 |.nil=>by unfold Arms.ways Arms.sz;decide
 |.cons t ns m k b r=>by
  unfold Arms.ways Arms.sz
  have:=jK r
  rw[uo]
  lia
theorem Arms.lLen(a:Arms):a.l.length<=a.sz:=by
 have:=jK a
 rw[Arms.ways_l,ua]at this
 exact this
def Yj:Sp:=fun vs H Q _=>∃(p:Addr)(b:Bd),vs=[.ref p]/\IsBd H b p/\b.sz<=1000000/\∀(H':Hp)(r:Addr)(ps:List Addr),Same H H'->H r=none->H' r=some (.lst (ps.map V.ref))->IsY H' b.ways ps->Q (.ref r) H'
section
variable{P:Program}{w:World}{K:uc}{mg:Str->Option Value}{base:Heap}{f:Addr}{fd:FuncData}
theorem za7:FnScope ["body"] ["body"] (zo Wz):=.ok
theorem za8:(["body","arm"]:List Str).Nodup:=by decide +kernel
theorem JO(F:Fun K "ways_on" "ways_on" Wz f fd):FnOk P w K mg base CX0 1 f fd ["body"] Yj:=by
 refine F.by za7 (fun vs H Q E h=>?_) (fun cdv A outer s H vs Q E hr h=>?_)
 ·obtain⟨p,b,rfl,_⟩:=h
  rfl
 obtain⟨p,b,rfl,hb,hz,q⟩:=h
 refine⟨_,
  (zg (zw (tN zx (xT 0) zq)
   (zh (zp (zy zD))) zr)
  (zg (zw (tN zx (xT 0) zq)
   (zh (zp (zy (jA2 (zt (jA2 (zt zD) (xT 0))) (zt (jA2 (zt zD) (xT 0))))))) zr)
  (zg (zw (tN zx (xT 0) zq)
   (zh (zp (yM ["arm"] rfl (yn (xT 0)) (fun _ _ _ _ _=>(gN 1 za8)) (fun _ _ _ _ _=>zW) (fun _ _ _ _ _=>(zt (jA2 (yd (yN K) (jv 1) zn (fun _ _=>rfl)) (xX (yN K) (jv 1) (yh zn)))))))) zr)
  (zg (zw (xx xy (xT 0) (zt (jA2 zq zq)) (by with_unfolding_all rfl))
   (zh (zp (zy (jA1 (zt (jA2 (zt (jA1 (xT 0))) (xX zP (jv 0) (yh zn)))))))) zr)
  (zh (zp (zy (jA1 (zt (jA2 (zt zD) (xX zP (jv 0) (yh zn)))))))))))),?_⟩
 have sl:=zK
 cases b with
 |give x =>
  have hp:H p=some (.tup [.str "give",.str x]):=hb
  refine(ex2q rfl ⟨p,_,_,_,rfl,rfl,SqT.of hp,aI0,rfl,(ex2q rfl ?_)⟩)
  refine ite2 (fun _=>?_) aB
  refine⟨sN0,fun r hr=>q _ r [] (zj hr _) hr zf ?_⟩
  unfold Bd.ways
  exact .nil
 |lt x d b =>
  obtain⟨p1,p2,hp,hd,hb⟩:=hb
  refine(ex2q rfl ⟨p,_,_,_,rfl,rfl,SqT.of hp,aI0,rfl,(ex2q rfl ?_)⟩)
  refine ite2 aB (fun _=>?_)
  refine(ex2q rfl ⟨p,_,_,_,rfl,rfl,SqT.of hp,aI0,rfl,(ex2q rfl ?_)⟩)
  refine ite2 aB (fun _=>?_)
  refine(ex2q rfl ⟨p,_,_,_,rfl,rfl,SqT.of hp,aI0,rfl,(ex2q rfl ?_)⟩)
  refine ite2 aB (fun _=>?_)
  refine(ex2q rfl ⟨p,_,_,_,rfl,rfl,SqT.of hp,aI0,sN2,fun t0 h0=>?_⟩)
  refine⟨t0,(ex2q rfl ⟨.inr (SqT.of zf),rfl,rfl,(ex2q rfl ?_)⟩)⟩
  refine ite2 (fun _=>?_) (fun c=>absurd (show(if false=true then !inV (V.str "let") [V.str "let",V.str "hold"]else inV (V.str "let") [V.str "let",V.str "hold"])=true by decide) c)
  have hp0:=old (o:=.tup [.str "let",.str "hold"]) h0 hp
  refine(ex2q rfl ⟨p,_,_,_,rfl,rfl,SqT.of hp0,aI1,sN1,fun t1 h1=>(ex2q rfl (ex2q rfl ⟨p,_,_,_,rfl,rfl,SqT.of (old h1 hp0),rfl,sN2,fun t2 h2=>⟨sN1,fun t3 h3=>?_⟩⟩))⟩)
  have s2:Same H _:=((zj h0 (.tup [.str "let",.str "hold"])).new (o:=.tup [.str x]) h1).new (o:=.tup [.ref t1,.ref p2]) h2
  have s3:=s2.new (o:=.lst [.ref t2]) h3
  refine q _ t3 [t2] s3 (s2.free h3) zf ?_
  unfold Bd.ways
  exact .cons (old h3 zf) (old h3 (old h2 zf)) (hb.keep (.of s3)) .nil
 |hold x y b =>
  obtain⟨p2,hp,hb⟩:=hb
  refine(ex2q rfl ⟨p,_,_,_,rfl,rfl,SqT.of hp,aI0,rfl,(ex2q rfl ?_)⟩)
  refine ite2 aB (fun _=>?_)
  refine(ex2q rfl ⟨p,_,_,_,rfl,rfl,SqT.of hp,aI0,rfl,(ex2q rfl ?_)⟩)
  refine ite2 aB (fun _=>?_)
  refine(ex2q rfl ⟨p,_,_,_,rfl,rfl,SqT.of hp,aI0,rfl,(ex2q rfl ?_)⟩)
  refine ite2 aB (fun _=>?_)
  refine(ex2q rfl ⟨p,_,_,_,rfl,rfl,SqT.of hp,aI0,sN2,fun t0 h0=>?_⟩)
  refine⟨t0,(ex2q rfl ⟨.inr (SqT.of zf),rfl,rfl,(ex2q rfl ?_)⟩)⟩
  refine ite2 (fun _=>?_) (fun c=>absurd (show(if false=true then !inV (V.str "hold") [V.str "let",V.str "hold"]else inV (V.str "hold") [V.str "let",V.str "hold"])=true by decide) c)
  have hp0:=old (o:=.tup [.str "let",.str "hold"]) h0 hp
  refine(ex2q rfl ⟨p,_,_,_,rfl,rfl,SqT.of hp0,aI1,sN1,fun t1 h1=>(ex2q rfl (ex2q rfl ⟨p,_,_,_,rfl,rfl,SqT.of (old h1 hp0),rfl,sN2,fun t2 h2=>⟨sN1,fun t3 h3=>?_⟩⟩))⟩)
  have s2:Same H _:=((zj h0 (.tup [.str "let",.str "hold"])).new (o:=.tup [.str x]) h1).new (o:=.tup [.ref t1,.ref p2]) h2
  have s3:=s2.new (o:=.lst [.ref t2]) h3
  refine q _ t3 [t2] s3 (s2.free h3) zf ?_
  unfold Bd.ways
  exact .cons (old h3 zf) (old h3 (old h2 zf)) (hb.keep (.of s3)) .nil
 |drop x b =>
  obtain⟨p2,hp,hb⟩:=hb
  refine(ex2q rfl ⟨p,_,_,_,rfl,rfl,SqT.of hp,aI0,rfl,(ex2q rfl ?_)⟩)
  refine ite2 aB (fun _=>?_)
  refine(ex2q rfl ⟨p,_,_,_,rfl,rfl,SqT.of hp,aI0,rfl,(ex2q rfl ?_)⟩)
  refine ite2 aB (fun _=>?_)
  refine(ex2q rfl ⟨p,_,_,_,rfl,rfl,SqT.of hp,aI0,rfl,(ex2q rfl ?_)⟩)
  refine ite2 aB (fun _=>?_)
  refine(ex2q rfl ⟨p,_,_,_,rfl,rfl,SqT.of hp,aI0,sN2,fun t0 h0=>?_⟩)
  refine⟨t0,(ex2q rfl ⟨.inr (SqT.of zf),rfl,rfl,(ex2q rfl ?_)⟩)⟩
  refine ite2 (fun c=>absurd c (show ¬ (if false=true then !inV (V.str "drop") [V.str "let",V.str "hold"]else inV (V.str "drop") [V.str "let",V.str "hold"])=true by decide)) (fun _=>?_)
  have hp0:=old (o:=.tup [.str "let",.str "hold"]) h0 hp
  refine⟨sN0,fun t1 h1=>(ex2q rfl (ex2q rfl ⟨p,_,_,_,rfl,rfl,SqT.of (old h1 hp0),rfl,sN2,fun t2 h2=>⟨sN1,fun t3 h3=>?_⟩⟩))⟩
  have s2:Same H _:=((zj h0 (.tup [.str "let",.str "hold"])).new (o:=.tup []) h1).new (o:=.tup [.ref t1,.ref p2]) h2
  have s3:=s2.new (o:=.lst [.ref t2]) h3
  refine q _ t3 [t2] s3 (s2.free h3) zf ?_
  unfold Bd.ways
  exact .cons (old h3 zf) (old h3 (old h2 zf)) (hb.keep (.of s3)) .nil
 |loose x b =>
  obtain⟨p2,hp,hb⟩:=hb
  refine(ex2q rfl ⟨p,_,_,_,rfl,rfl,SqT.of hp,aI0,rfl,(ex2q rfl ?_)⟩)
  refine ite2 aB (fun _=>?_)
  refine(ex2q rfl ⟨p,_,_,_,rfl,rfl,SqT.of hp,aI0,rfl,(ex2q rfl ?_)⟩)
  refine ite2 aB (fun _=>?_)
  refine(ex2q rfl ⟨p,_,_,_,rfl,rfl,SqT.of hp,aI0,rfl,(ex2q rfl ?_)⟩)
  refine ite2 aB (fun _=>?_)
  refine(ex2q rfl ⟨p,_,_,_,rfl,rfl,SqT.of hp,aI0,sN2,fun t0 h0=>?_⟩)
  refine⟨t0,(ex2q rfl ⟨.inr (SqT.of zf),rfl,rfl,(ex2q rfl ?_)⟩)⟩
  refine ite2 (fun c=>absurd c (show ¬ (if false=true then !inV (V.str "loose") [V.str "let",V.str "hold"]else inV (V.str "loose") [V.str "let",V.str "hold"])=true by decide)) (fun _=>?_)
  have hp0:=old (o:=.tup [.str "let",.str "hold"]) h0 hp
  refine⟨sN0,fun t1 h1=>(ex2q rfl (ex2q rfl ⟨p,_,_,_,rfl,rfl,SqT.of (old h1 hp0),rfl,sN2,fun t2 h2=>⟨sN1,fun t3 h3=>?_⟩⟩))⟩
  have s2:Same H _:=((zj h0 (.tup [.str "let",.str "hold"])).new (o:=.tup []) h1).new (o:=.tup [.ref t1,.ref p2]) h2
  have s3:=s2.new (o:=.lst [.ref t2]) h3
  refine q _ t3 [t2] s3 (s2.free h3) zf ?_
  unfold Bd.ways
  exact .cons (old h3 zf) (old h3 (old h2 zf)) (hb.keep (.of s3)) .nil
 |iff x a b =>
  obtain⟨p1,p2,hp,ha,hb⟩:=hb
  refine(ex2q rfl ⟨p,_,_,_,rfl,rfl,SqT.of hp,aI0,rfl,(ex2q rfl ?_)⟩)
  refine ite2 aB (fun _=>?_)
  refine(ex2q rfl ⟨p,_,_,_,rfl,rfl,SqT.of hp,aI0,rfl,(ex2q rfl ?_)⟩)
  refine ite2 (fun _=>?_) aB
  refine⟨sN0,fun t1 h1=>(ex2q rfl ⟨p,_,_,_,rfl,rfl,SqT.of (old h1 hp),aI2,sN2,fun t2 h2=>⟨sN0,fun t3 h3=>(ex2q rfl ⟨p,_,_,_,rfl,rfl,SqT.of (old h3 (old h2 (old h1 hp))),aI3,sN2,fun t4 h4=>⟨sN2,fun t5 h5=>?_⟩⟩)⟩⟩)⟩
  have s4:Same H _:=(((zj h1 (.tup [])).new (o:=.tup [.ref t1,.ref p1]) h2).new (o:=.tup []) h3).new (o:=.tup [.ref t3,.ref p2]) h4
  have s5:=s4.new (o:=.lst [.ref t2,.ref t4]) h5
  refine q _ t5 [t2,t4] s5 (s4.free h5) zf ?_
  unfold Bd.ways
  exact .cons (old h5 (old h4 (old h3 zf))) (old h5 (old h4 (old h3 (old h2 zf)))) (ha.keep (.of s5)) (.cons (old h5 zf) (old h5 (old h4 zf)) (hb.keep (.of s5)) .nil)
 |cs x as =>
  obtain⟨p1,ps,hp,hp1,hA⟩:=hb
  refine(ex2q rfl ⟨p,_,_,_,rfl,rfl,SqT.of hp,aI0,rfl,(ex2q rfl ?_)⟩)
  refine ite2 aB (fun _=>?_)
  refine(ex2q rfl ⟨p,_,_,_,rfl,rfl,SqT.of hp,aI0,rfl,(ex2q rfl ?_)⟩)
  refine ite2 aB (fun _=>?_)
  refine(ex2q rfl ⟨p,_,_,_,rfl,rfl,SqT.of hp,aI0,rfl,(ex2q rfl ?_)⟩)
  refine ite2 (fun _=>?_) aB
  have hl:as.ways.length=ps.length:=by rw[Arms.ways_l,ua,hA.len]
  have hsz:as.ways.length<=1000000:=by
   have e:∀a:Arms,a.ways.length<=a.sz:=by
    intro a
    exact jK a
   have:=e as
   rw[Bd.sz]at hz
   lia
  refine(ex2q rfl ⟨p,_,_,_,rfl,rfl,SqT.of hp,aI2,p1,rfl,⟨_,SqT.of hp1⟩,jz (xs:=ps.map V.ref) (fun j τ ys H'=>Same H H'/\(∃v,τ=[some (.ref p),v])/\∃rs:List Addr,ys=rs.map V.ref/\IsY H' (as.ways.take j) rs) ⟨Same.refl _,⟨none,rfl⟩,[],rfl,.nil⟩ (fun j τ ys H' _ h=>SqT.of (h.1 _ _ hp1)) ?_ ?_⟩)
  ·rintro j v τ ys H1 hv ⟨s1,⟨v',rfl⟩,rs,rfl,hy⟩
   rw[ug]at hv
   obtain⟨pa,hpa,rfl⟩:=uj.mp hv
   obtain⟨⟨t,ns,m,k,b⟩,q1,r1,e0,e2,e3,e4⟩:=hA.get hpa
   have e1:as.ways[j]?=some (ns,b):=by rw[Arms.ways_l,ug,e0];rfl
   have hj:j < as.ways.length:=(uf.mp e1).1
   have hyl:=hy.len
   rw[uM]at hyl
   refine(ex2q rfl ⟨pa,_,_,_,rfl,rfl,SqT.of (s1 _ _ e2),aI1,(ex2q rfl (ex2q rfl ⟨pa,_,_,_,rfl,rfl,SqT.of (s1 _ _ e2),rfl,sN2,fun t1 h1=>⟨by rw[ua];lia,s1.new h1,⟨_,rfl⟩,rs++[t1],by simp,?_⟩⟩))⟩)
   rw[uJ,e1]
   exact(hy.keep (.of (zj h1 _))).app (.cons zf (old h1 (s1 _ _ e3)) (e4.keep (.of (s1.new h1))) .nil)
  ·rintro τ ys H1 ⟨s1,_,rs,rfl,hy⟩ r hr
   rw[ua,<- hl,uz (ud _)]at hy
   refine q _ r rs (s1.new hr) (s1.free hr) zf ?_
   unfold Bd.ways
   exact hy.keep (.of (zj hr _))
end
def isLD(n:Nat):Dd->Bool
 |.mk _ ns k=>decide (ns.length=n) && decide (k="")
 |_=>false
def Bd.isL(n:Nat):Bd->Bool
 |.lt _ d _=>isLD n d
 |_=>false
def Arms.bs:Arms->List Bd
 |.nil=>[]
 |.cons _ _ _ _ b r=>b::r.bs
def Bd.kd:Bd->List Bd
 |.give _=>[]
 |.lt _ _ b=>[b]
 |.hold _ _ b=>[b]
 |.drop _ b=>[b]
 |.loose _ b=>[b]
 |.iff _ b c=>[b,c]
 |.cs _ as=>as.bs
def Arms.wb:Arms->List Bd->Arms
 |.cons t ns m k _ r,b::l=>.cons t ns m k b (r.wb l)
 |as,_=>as
def Bd.wb:Bd->List Bd->Bd
 |.give x,_=>.give x
 |.lt x d _,b::_=>.lt x d b
 |.hold x y _,b::_=>.hold x y b
 |.drop x _,b::_=>.drop x b
 |.loose x _,b::_=>.loose x b
 |.iff x _ _,b::c::_=>.iff x b c
 |.cs x as,l=>.cs x (as.wb l)
 |b,_=>b
theorem jM:∀b:Bd,b.ways.map (·.2)=b.kd
 |.give _=>rfl
 |.lt _ _ _=>rfl
 |.hold _ _ _=>rfl
 |.drop _ _=>rfl
 |.loose _ _=>rfl
 |.iff _ _ _=>rfl
 |.cs _ as=>by
  unfold Bd.ways Bd.kd
  induction as using Arms.rec (motive_1:=fun _=>True)with
  |nil=>rfl
  |cons t ns m k b r _ ih=>unfold Arms.ways Arms.bs;rw[uu,ih]
  |_=>trivial
theorem QV:∀{as:Arms}{l:List Bd},l.length=as.bs.length->(l.map Bd.sz).sum<=(as.wb l).sz
 |.nil,l,h=>by
  have:l=[]:=Uo.mp h
  rw[this]
  exact ud _
 |.cons t ns m k b r,[],h=>by simp[Arms.bs]at h
 |.cons t ns m k b r,c::l,h=>by
  unfold Arms.wb Arms.sz
  have:=QV (as:=r) (l:=l) (by simpa[Arms.bs]using h)
  rw[uu,uW]
  lia
theorem QW{b:Bd}{l:List Bd}(h:l.length=b.kd.length):(l.map Bd.sz).sum+1<=(b.wb l).sz:=by
 cases b with
 |give x =>
  have:l=[]:=Uo.mp h
  rw[this]
  unfold Bd.wb Bd.sz
  exact ud _
 |cs x as =>
  unfold Bd.wb Bd.sz
  have:=QV (as:=as) h
  lia
 |iff x b c =>
  match l,h with
  |[b',c'],_=>unfold Bd.wb Bd.sz;simp;try lia
 |_ =>
  match l,h with
  |[b'],_=>unfold Bd.wb Bd.sz;simp
mutual
def Bd.hasL(n:Nat):Bd->Bool
 |.give _=>false
 |.lt _ d b=>isLD n d || b.hasL n
 |.hold _ _ b=>b.hasL n
 |.drop _ b=>b.hasL n
 |.loose _ b=>b.hasL n
 |.iff _ b c=>b.hasL n || c.hasL n
 |.cs _ as=>as.hasL n
def Arms.hasL(n:Nat):Arms->Bool
 |.nil=>false
 |.cons _ _ _ _ b r=>b.hasL n || r.hasL n
end
theorem YS{n:Nat}:∀as:Arms,as.hasL n=as.bs.any fun b=>b.hasL n
 |.nil=>by unfold Arms.hasL Arms.bs;rfl
 |.cons _ _ _ _ b r=>by unfold Arms.hasL Arms.bs;rw[YS r,uO]
theorem JP{n:Nat}(b:Bd):b.hasL n=(b.isL n || b.kd.any fun c=>c.hasL n):=by
 cases b with
 |cs x as=>rw[Bd.hasL,YS];rfl
 |_=>rw[Bd.hasL];simp[Bd.isL,Bd.kd]
def setT(k:Str):Dd->Dd
 |.mk t ns _=>.mk t ns k
 |d=>d
mutual
def Bd.wy(k:Str)(n:Nat):Bd->Bd
 |.give x=>.give x
 |.lt x d b=>if isLD n d then .lt x (setT k d) b else .lt x d (b.wy k n)
 |.hold x y b=>.hold x y (b.wy k n)
 |.drop x b=>.drop x (b.wy k n)
 |.loose x b=>.loose x (b.wy k n)
 |.iff x b c=>if b.hasL n || c.hasL n then .iff x (if b.hasL n then b.wy k n else .loose k b) (if c.hasL n then c.wy k n else .loose k c)else .iff x b c
 |.cs x as=>if as.hasL n then .cs x (as.wy k n)else .cs x as
def Arms.wy(k:Str)(n:Nat):Arms->Arms
 |.nil=>.nil
 |.cons t ns m k' b r=>.cons t ns m k' (if b.hasL n then b.wy k n else .loose k b) (r.wy k n)
end
mutual
theorem Bd.wy_id{k:Str}{n:Nat}:∀{b:Bd},b.hasL n=false->b.wy k n=b
 |.give x,_=>by unfold Bd.wy;rfl
 |.lt x d b,h=>by
  unfold Bd.hasL at h
  rw[uH]at h
  unfold Bd.wy
  rw[if_neg (by rw[h.1];decide),Bd.wy_id h.2]
 |.hold x y b,h=>by unfold Bd.hasL at h;unfold Bd.wy;rw[Bd.wy_id h]
 |.drop x b,h=>by unfold Bd.hasL at h;unfold Bd.wy;rw[Bd.wy_id h]
 |.loose x b,h=>by unfold Bd.hasL at h;unfold Bd.wy;rw[Bd.wy_id h]
 |.iff x b c,h=>by unfold Bd.hasL at h;unfold Bd.wy;rw[if_neg (by rw[h];decide)]
 |.cs x as,h=>by unfold Bd.hasL at h;unfold Bd.wy;rw[if_neg (by rw[h];decide)]
end
def Vc(k:Str)(n:Nat)(b:Bd):Bd:=if b.hasL n then b.wb (b.kd.map fun c=>if c.hasL n then c.wy k n else .loose k c)else b
theorem QX{k:Str}{n:Nat}:∀as:Arms,as.wy k n=as.wb (as.bs.map fun c=>if c.hasL n then c.wy k n else .loose k c)
 |.nil=>by unfold Arms.wy Arms.bs Arms.wb;rfl
 |.cons t ns m k' b r=>by unfold Arms.wy Arms.bs;rw[QX r];rfl
theorem JQ{k:Str}{n:Nat}{b:Bd}(h:b.isL n=false):b.wy k n=Vc k n b:=by
 unfold Vc
 by_cases c:b.hasL n=true
 ·rw[if_pos c]
  cases b with
  |give x=>rw[Bd.wy];rfl
  |lt x d b =>
   have h:isLD n d=false:=h
   rw[Bd.hasL]at c
   rw[h,uV]at c
   rw[Bd.wy,if_neg (by rw[h];decide)]
   show _=Bd.lt x d (if b.hasL n=true then b.wy k n else .loose k b)
   rw[if_pos c]
  |hold x y b=>rw[Bd.hasL]at c;rw[Bd.wy];show _=Bd.hold x y (if b.hasL n=true then b.wy k n else .loose k b);rw[if_pos c]
  |drop x b=>rw[Bd.hasL]at c;rw[Bd.wy];show _=Bd.drop x (if b.hasL n=true then b.wy k n else .loose k b);rw[if_pos c]
  |loose x b=>rw[Bd.hasL]at c;rw[Bd.wy];show _=Bd.loose x (if b.hasL n=true then b.wy k n else .loose k b);rw[if_pos c]
  |iff x b d=>rw[Bd.hasL]at c;rw[Bd.wy,if_pos c];rfl
  |cs x as=>rw[Bd.hasL]at c;rw[Bd.wy,if_pos c,QX];rfl
 ·rw[if_neg c,Bd.wy_id (by simpa using c)]
mutual
def Bd.mu:Bd->Nat
 |.give _=>1
 |.lt _ _ b=>b.mu+1
 |.hold _ _ b=>b.mu+1
 |.drop _ b=>b.mu+1
 |.loose _ b=>b.mu+1
 |.iff _ b c=>max b.mu c.mu+1
 |.cs _ as=>as.mu+2
def Arms.mu:Arms->Nat
 |.nil=>0
 |.cons _ _ _ _ b r=>max b.mu r.mu
end
mutual
theorem Bd.wy_mu{k:Str}{n:Nat}:∀b:Bd,(b.wy k n).mu<=b.mu+1
 |.give x=>by unfold Bd.wy;lia
 |.lt x d b=>by
  have:=Bd.wy_mu (k:=k) (n:=n) b
  unfold Bd.wy
  split<;>unfold Bd.mu<;>lia
 |.hold x y b=>by have:=Bd.wy_mu (k:=k) (n:=n) b;unfold Bd.wy Bd.mu;lia
 |.drop x b=>by have:=Bd.wy_mu (k:=k) (n:=n) b;unfold Bd.wy Bd.mu;lia
 |.loose x b=>by have:=Bd.wy_mu (k:=k) (n:=n) b;unfold Bd.wy Bd.mu;lia
 |.iff x b c=>by
  have h1:=Bd.wy_mu (k:=k) (n:=n) b
  have h2:=Bd.wy_mu (k:=k) (n:=n) c
  unfold Bd.wy
  split
  ·have l:∀z:Bd,(Bd.loose k z).mu=z.mu+1:=fun z=>by rw[Bd.mu]
   rw[Bd.mu,Bd.mu]
   split<;>split<;>(try rw[l])<;>(try rw[l])<;>lia
  ·lia
 |.cs x as=>by
  have:=Arms.wy_mu (k:=k) (n:=n) as
  unfold Bd.wy
  split
  ·rw[Bd.mu,Bd.mu];lia
  ·lia
theorem Arms.wy_mu{k:Str}{n:Nat}:∀as:Arms,(as.wy k n).mu<=as.mu+1
 |.nil=>by unfold Arms.wy;lia
 |.cons t ns m k' b r=>by
  have h1:=Bd.wy_mu (k:=k) (n:=n) b
  have h2:=Arms.wy_mu (k:=k) (n:=n) r
  unfold Arms.wy
  rw[Arms.mu,Arms.mu]
  split
  ·lia
  ·rw[Bd.mu];lia
end
theorem Vd{b:Bd}:∀{as:Arms},b∈as.bs->b.mu<=as.mu
 |.nil,h=>by unfold Arms.bs at h;cases h
 |.cons _ _ _ _ c r,h=>by
  unfold Arms.bs at h
  rw[Arms.mu]
  rcases um.mp h with rfl|h
  ·lia
  ·have:=Vd h;lia
theorem zb1{b c:Bd}(h:c∈b.kd):c.mu < b.mu:=by
 cases b with
 |give x=>cases h
 |cs x as=>have:=Vd (as:=as) h;rw[Bd.mu];lia
 |iff x b d =>
  rw[Bd.mu]
  simp[Bd.kd]at h
  rcases h with rfl|rfl<;>lia
 |_=>simp[Bd.kd]at h;subst h;rw[Bd.mu];lia
def tokS(j:Nat):Str:=Str.empty++("place.":Str)++Str.ofString (toString ((j:Nat):Int))
theorem xA{i j:Nat}(h:tokS i=tokS j):i=j:=by
 have e:=congrArg cl h
 unfold tokS at e
 rw[yb,yb,yb,yb]at e
 have e:=List.append_cancel_left e
 have e2:Str.ofString (toString ((i:Nat):Int))=Str.ofString (toString ((j:Nat):Int)):=by
  have:∀{a b:Str},cl a=cl b->a=b:=fun{a b} z=>by
   cases a;cases b
   exact congrArg Str.mk (Array.toList_inj.mp z)
  exact this e
 have e3:toString ((i:Nat):Int)=toString ((j:Nat):Int):=by
  rw[Str.ofString_eq_toList,Str.ofString_eq_toList]at e
  have e:(toString ((i:Nat):Int)).toList.map Char.toNat=(toString ((j:Nat):Int)).toList.map Char.toNat:=e
  exact String.ext ((List.map_inj_right fun _ _=>Char.toNat_inj.mp).mp e)
 exact Int.ofNat.inj (Int.repr_inj.mp e3)
theorem yC(j:Nat):tokS j≠("":Str):=fun h=>by
 have e:=congrArg (fun z=>(cl z).length) h
 unfold tokS at e
 simp only[yb,ub]at e
 have:(cl ("place.":Str)).length=6:=by decide +kernel
 have:(cl ("":Str)).length=0:=by decide +kernel
 lia
theorem za9(tk:List Str):∃B,∀N,B<=N->tokS N∉tk:=by
 induction tk with
 |nil=>exact⟨0,fun N _ h=>by cases h⟩
 |cons x r ih =>
  obtain⟨B,hB⟩:=ih
  by_cases c:∃N,tokS N=x
  ·obtain⟨N0,h0⟩:=c
   refine⟨max B (N0+1),fun N hN hm=>?_⟩
   rcases um.mp hm with h|h
   ·have:=xA (h.trans h0.symm)
    lia
   ·exact hB N (by lia) h
  ·refine⟨B,fun N hN hm=>?_⟩
   rcases um.mp hm with h|h
   ·exact c ⟨N,h⟩
   ·exact hB N hN h
theorem QY(tk:List Str)(n:Nat):∃N,n < N/\tokS N∉tk/\∀M,n < M->M < N->tokS M∈tk:=by
 obtain⟨B,hB⟩:=za9 tk
 have key:∀d n,B<=n+d->∃N,n < N/\tokS N∉tk/\∀M,n < M->M < N->tokS M∈tk:=by
  intro d
  induction d with
  |zero=>exact fun n h=>⟨n+1,by lia,hB _ (by lia),fun M h1 h2=>by lia⟩
  |succ d ih =>
   intro n h
   by_cases c:tokS (n+1)∈tk
   ·obtain⟨N,h1,h2,h3⟩:=ih (n+1) (by lia)
    refine⟨N,by lia,h2,fun M m1 m2=>?_⟩
    by_cases e:M=n+1
    ·rw[e];exact c
    ·exact h3 M (by lia) m2
   ·exact⟨n+1,by lia,c,fun M h1 h2=>by lia⟩
 exact key B n (by lia)
noncomputable def nxT (tk:List Str) (n:Nat):Nat:=Classical.choose (QY tk n)
theorem wF(tk:List Str)(n:Nat):n < nxT tk n/\tokS (nxT tk n)∉tk/\∀M,n < M->M < nxT tk n->tokS M∈tk:=Classical.choose_spec (QY tk n)
def armK(m:Str)(ns:List Str)(b:Bd):Bool:=decide (m="take") && (decide (ns.length≠0) && b.hasL ns.length)
def Arms.tk(nx:Nat->Nat):Arms->Nat->Arms×Nat
 |.nil,n=>(.nil,n)
 |.cons t ns m k b r,n=>if armK m ns b then(.cons t ns m (tokS (nx n)) (b.wy (tokS (nx n)) ns.length) (r.tk nx (nx n)).1,(r.tk nx (nx n)).2)else(.cons t ns m k b (r.tk nx n).1,(r.tk nx n).2)
def Bd.chg(nx:Nat->Nat):Bd->Nat->Bd×Nat
 |.cs x as,n=>(.cs x (as.tk nx n).1,(as.tk nx n).2)
 |b,n=>(b,n)
def mapL(g:Bd->Nat->Bd×Nat):List Bd->Nat->List Bd×Nat
 |[],n=>([],n)
 |b::l,n=>((g b n).1::(mapL g l (g b n).2).1,(mapL g l (g b n).2).2)
def AB(nx:Nat->Nat):Nat->Bd->Nat->Bd×Nat
 |0,b,n=>(b,n)
 |f+1,b,n=>((b.chg nx n).1.wb (mapL (AB nx f) (b.chg nx n).1.kd (b.chg nx n).2).1,(mapL (AB nx f) (b.chg nx n).1.kd (b.chg nx n).2).2)
structure ATk where
 f:Nat
 n:Nat
 b:Bd
def ksL(nx:Nat->Nat)(f:Nat):List Bd->Nat->List ATk
 |[],_=>[]
 |b::l,n=>⟨f,n,b⟩ :: ksL nx f l (AB nx f b n).2
def ATk.kids(nx:Nat->Nat):ATk->List ATk
 |⟨0,_,_⟩=>[]
 |⟨f+1,n,b⟩=>ksL nx f (b.chg nx n).1.kd (b.chg nx n).2
def ATk.res(nx:Nat->Nat)(t:ATk):Bd:=(AB nx t.f t.b t.n).1
def ATk.post(nx:Nat->Nat)(t:ATk):Nat:=(AB nx t.f t.b t.n).2
def ATk.mid(nx:Nat->Nat):ATk->Nat
 |⟨0,n,_⟩=>n
 |⟨_+1,n,b⟩=>(b.chg nx n).2
def ATk.wt(nx:Nat->Nat)(t:ATk):Nat:=3*(t.res nx).sz
section
variable{nx:Nat->Nat}
theorem xq{g:Bd->Nat->Bd×Nat}:∀(l:List Bd)(n:Nat),(mapL g l n).1.length=l.length
 |[],n=>rfl
 |b::l,n=>by unfold mapL;rw[uo,uo,xq l]
theorem Ve{f:Nat}:∀(l:List Bd)(n:Nat),(ksL nx f l n).map (·.b)=l
 |[],_=>rfl
 |b::l,n=>by unfold ksL;rw[uu,Ve l]
theorem QZ{f:Nat}:∀(l:List Bd)(n:Nat),∀t∈ksL nx f l n,t.f=f
 |[],_,t,h=>by cases h
 |b::l,n,t,h=>by
  unfold ksL at h
  rcases um.mp h with rfl|h
  ·rfl
  ·exact QZ l _ t h
theorem wg{f:Nat}:∀(l:List Bd)(n:Nat),(ksL nx f l n).map (ATk.res nx)=(mapL (AB nx f) l n).1
 |[],_=>rfl
 |b::l,n=>by unfold ksL mapL;rw[uu,wg l];rfl
theorem YT{f:Nat}:∀(l:List Bd)(n:Nat),Chn ATk.n (ATk.post nx) n (ksL nx f l n) (mapL (AB nx f) l n).2
 |[],_=>rfl
 |b::l,n=>⟨rfl,YT l _⟩
theorem Vf(t:ATk):Chn ATk.n (ATk.post nx) (t.mid nx) (t.kids nx) (t.post nx):=by
 obtain⟨f,n,b⟩:=t
 cases f with
 |zero=>rfl
 |succ f=>exact YT _ _
theorem JR(t:ATk):((t.kids nx).map (ATk.wt nx)).sum+2<=t.wt nx:=by
 obtain⟨f,n,b⟩:=t
 cases f with
 |zero =>
  have:0 < b.sz:=b.sz_pos
  show 0+2<=3*b.sz
  lia
 |succ f =>
  show((ksL nx f (b.chg nx n).1.kd (b.chg nx n).2).map (ATk.wt nx)).sum+2<=3*((b.chg nx n).1.wb (mapL (AB nx f) (b.chg nx n).1.kd (b.chg nx n).2).1).sz
  have h:=QW (b:=(b.chg nx n).1) (l:=(mapL (AB nx f) (b.chg nx n).1.kd (b.chg nx n).2).1) (xq _ _)
  rw[<- wg]at h
  rw[<- wg]
  have e:∀l:List ATk,(l.map (ATk.wt nx)).sum=3*((l.map (ATk.res nx)).map Bd.sz).sum:=by
   intro l
   induction l with
   |nil=>rfl
   |cons a l ih =>
    rw[uu,uu,uu,uW,uW,ih]
    show 3*(a.res nx).sz+_=_
    lia
  rw[e]
  lia
theorem Vg:∀(as:Arms)(n:Nat),(as.tk nx n).1.mu<=as.mu+1
 |.nil,n=>by unfold Arms.tk;show Arms.nil.mu<=_;lia
 |.cons t ns m k b r,n=>by
  unfold Arms.tk
  have h:=Bd.wy_mu (k:=tokS (nx n)) (n:=ns.length) b
  have h1:=Vg r (nx n)
  have h2:=Vg r n
  split
  ·show(Arms.cons t ns m (tokS (nx n)) (b.wy (tokS (nx n)) ns.length) (r.tk nx (nx n)).1).mu<=_
   rw[Arms.mu,Arms.mu]
   lia
  ·show(Arms.cons t ns m k b (r.tk nx n).1).mu<=_
   rw[Arms.mu,Arms.mu]
   lia
theorem vy{b c:Bd}{n:Nat}(h:c∈(b.chg nx n).1.kd):c.mu < b.mu:=by
 cases b with
 |cs x as =>
  have h:c∈(as.tk nx n).1.bs:=h
  have h1:=Vd h
  have h2:=Vg (nx:=nx) as n
  rw[Bd.mu]
  lia
 |_=>exact zb1 h
end
end GN
namespace HT
open PySem PySem.Spec PyProof.Rows
section
variable{prog:Program}{w:World}{A:Around}{s:Shared}{E:Value->Shared->Prop}
theorem getItem_tuple_whole{t sl:Addr}{items:Array Value}{vl vu:Value}{lo hi:Option Int}{Q:Value->Shared->Prop}(ht:IsTup s.heap t items)(hs:s.heap.IsSliceOf sl vl vu .none)(pl:IsPart vl lo)(pu:IsPart vu hi)
  (hw:sIx items.size 0 lo=0/\sIx items.size items.size hi=items.size) (h:Q (.ref t) s):wpAny (model prog w) A (getItem (.ref t) (.ref sl)) Q E s:=by
 obtain⟨os,hos,hcs,hds⟩:=id hs
 have hTs:s.TypeIs (.ref sl) "slice":=⟨os,hos,hcs⟩
 unfold getItem
 try with_reducible refine wpAny_holding ?_
 first|refine wpAny_bind (wpAny_pure ?_)|skip
 refine wpAny_bind (wpAny_sequenceKey ht.typeIs (by decide) ?_)
 refine wpAny_bind (wpAny_callSpecial?_slot (name:=Str.ofString "__getitem__") ht.typeIs Ub
  (wpAny_call_entry Ub ht.typeIs entry_tuple_getitem ?_ (args_tuple_getitem _ _)))
 show wpAny _ _ (Builtin.Tuple.tupleItemsOf (.ref t) >>= _) _ _ s
 refine wpAny_bind (tupleItemsOf_ ht ?_)
 refine wpAny_bind (wpAny_typeOf hTs ?_)
 rw[if_pos (by decide)]
 refine wpAny_bind (yS hs pl pu ?_)
 have hyes:(((sIx items.size 0 lo:Nat):Int) == 0 && (1:Int) == 1 && (sIx items.size items.size hi-sIx items.size 0 lo) == items.size)=true:=by
  rw[hw.1,hw.2]
  simp
 show wpAny _ _ (if(((sIx items.size 0 lo:Nat):Int) == 0 && (1:Int) == 1 && (sIx items.size items.size hi-sIx items.size 0 lo) == items.size)=true then _ else _) _ _ s
 rw[if_pos hyes]
 have hx:wpAny (model prog w) A.in1 (Builtin.Tuple.tupleIsExact (.ref t)) (fun b s'=>b=true/\s'=s) (fun _ _=>False) s:=by
  unfold Builtin.Tuple.tupleIsExact
  exact wpAny_bind (wpAny_typeOf ht.typeIs (wpAny_pure ⟨by decide,rfl⟩))
 refine wpAny_bind (wpAny_mono hx (fun b s' q=>?_) fun _ _ z=>z.elim)
 obtain⟨rfl,rfl⟩:=q
 rw[if_pos rfl]
 exact wpAny_bind (wpAny_rule (wpAny_pure ⟨_,rfl,wpAny_pure h⟩))
end
end HT
namespace L2
open PySem PySem.Spec PyProof.Rows
def rSlW(K:uc):V->Option Int->Option Int->Hp->VK->Prop:=fun x lo hi H Q=>∃a xs,x=.ref a/\SqT K H a xs /\
 (cutV xs lo hi=xs->Q (.ref a) H)/\∀p,H p=none->Q (.ref p) (upd H p (.tup (cutV xs lo hi)))
section
variable{X:Cx}
theorem JS:SlR X (rSlW X.K):=by
 intro pins s σ H x v vl vu lo hi sl Q I rx hs pl pu h
 obtain⟨a,xs,rfl,hx,q1,q⟩:=h
 by_cases hw:HT.sIx xs.length 0 lo=0/\HT.sIx xs.length xs.length hi=xs.length
 ·cases rx
  obtain⟨its,r,ht,hz⟩:=I.tuple hx
  have hlen:its.toArray.size=xs.length:=by rw[ut];exact r.length.symm
  refine⟨"tuple",_,Ub.lookup,ht.typeIs,?_⟩
  refine HT.getItem_tuple_whole ht hs pl pu (by rw[hlen];exact hw) ⟨.ref a,H,I,rfl,q1 ?_⟩
  unfold cutV
  rw[hw.1,hw.2]
  simp
 ·exact zaH pins s σ H (.ref a) v vl vu lo hi sl Q I rx hs pl pu ⟨a,xs,rfl,hx,hw,q⟩
def rSlO:V->Option Int->Option Int->Hp->VK->Prop:=fun x lo hi H Q=>∃a xs,x=.ref a/\H a=some (.tup xs)/\∀p H',(∀b o,H b=some o->H' b=some o)->H' p=some (.tup (cutV xs lo hi))->Q (.ref p) H'
theorem JT:SlR X rSlO:=by
 intro pins s σ H x v vl vu lo hi sl Q I rx hs pl pu h
 obtain⟨a,xs,rfl,hx,q⟩:=h
 refine JS pins s σ H (.ref a) v vl vu lo hi sl Q I rx hs pl pu ⟨a,xs,rfl,SqT.of hx,fun e=>q a H (fun _ _ z=>z) (by rw[e];exact hx),fun p hp=>q p _ (fun b o z=>?_) zf⟩
 rw[zi (zk z hp)]
 exact z
theorem xc:jSl X rSlO:=⟨JT⟩
end
end L2
namespace GN
open PySem L2 K11
def ent(l:List Str):List (Key×V):=l.map fun x=>(.inr x,.bl true)
theorem jN:∀{l:List Str}{x:Str},(valV (ent l) (.inr x)).isSome=decide (x∈l)
 |[],x=>rfl
 |y::l,x=>by
  show(valV ((Sum.inr y,V.bl true)::ent l) (.inr x)).isSome=_
  by_cases e:y=x
  ·rw[wd (by rw[e])]
   simp[e]
  ·have e':¬ x=y:=fun z=>e z.symm
   rw[we (fun z=>e (Sum.inr.inj z)),jN]
   simp[e']
theorem YU(l:List Str)(x:Str):putK (ent l) (.inr x) (.bl true)=ent (if x∈l then l else l++[x]):=by
 unfold putK
 rw[vq,jN]
 by_cases c:x∈l
 ·rw[if_pos (by simpa using c),if_pos c]
  unfold ent
  rw[List.map_map]
  refine List.map_congr_left fun y hy=>?_
  show(if(Sum.inr y:Key)=Sum.inr x then((Sum.inr y:Key),V.bl true)else(Sum.inr y,V.bl true))=_
  split<;>rfl
 ·rw[if_neg (by simpa using c),if_neg c]
  unfold ent
  rw[ui]
  rfl
theorem wj:∀l:Wy,l.length<=wsz l
 |[]=>uN _
 |p::l=>by
  have h1:=Bd.sz_pos p.2
  have h2:=wj l
  unfold wsz at h2 ⊢
  rw[uu,uW,uo]
  lia
def YV:Sp:=fun vs H Q _=>∃(p:Addr)(d:Df),vs=[.ref p]/\IsDf H d p/\d.ps.length<=1000/\d.b.sz<=1000000/\d.b.binds.length<=1000000/\∀(H':Hp)(r:Addr),Same H H'->H r=none->H' r=some (.lst ((once [] (d.ps++d.b.binds)).map V.str))->Q (.ref r) H'
section
variable{P:Program}{w:World}{K:uc}{mg:Str->Option Value}{base:Heap}{f:Addr}{fd:FuncData}
theorem scBound:FnScope ["one","found","left","pair","name","way"] ["one"] (zo Z5):=.ok
theorem Vh(F:Fun K "bound" "bound" Z5 f fd)(GW:Ca P w K mg base CX0 1 "ways_on" ["body"] Yj)(m_len:mg "len"=none)(m_reversed:mg "reversed"=none)(m_list:mg "list"=none):FnOk P w K mg base CX0 2 f fd ["one"] YV:=by
 refine F.by scBound (fun vs H Q E h=>?_) (fun cdv A outer s H vs Q E hr h=>?_)
 ·obtain⟨p,d,rfl,_⟩:=h
  rfl
 obtain⟨p,df,rfl,⟨pq,po,pb,hp,hpq,hpo,hpb⟩,hn1,hn2,bl,q⟩:=h
 refine⟨_,
  (zg (sE 1 scBound.nd Zl)
  (zg (sE 2 scBound.nd (zy (jA1 (zt (jA2 (xT 0) (xX zP (jv 0) (yh zn)))))))
  (zg (xn PassesOwn.never (tN vg (jL m_len (jv 2)) zn)
   (zg (sE 3 scBound.nd (vf ur Uj Uk vi (jv 2)))
   (zg (zM PassesOwn.never rfl (yn (xT 3)) (gN 4 scBound.nd)
    (zh (YM hr (jv 1) (jv 4) zT)))
   (zh (zM PassesOwn.never rfl (jy rfl m_reversed (jA1 (cA GW hr (jA1 (xT 3))))) (gN 5 scBound.nd)
    (zh (zO (yf ur uE uF zI (jv 2) (jA1 (jv 5))))))))))
  (zh (zp (zG (jH rfl) rfl m_list Ud (jA1 (jv 1)))))))),?_⟩
 have sl:=zK
 intro d0 hd0
 have s1:=zj (o:=.dK []) hd0
 refine(ex2q rfl ⟨p,_,_,_,rfl,rfl,SqT.of (s1 _ _ hp),aI1,(ex2q rfl (ex2q rfl ⟨p,_,_,_,rfl,rfl,SqT.of (s1 _ _ hp),rfl,sN2,fun t1 h1=>⟨sN1,fun lf h2=>?_⟩⟩))⟩)
 have s2:=s1.new (o:=.tup [.ref pq,.ref pb]) h1
 have flf:H lf=none:=s2.free h2
 have s3:=s2.new (o:=.lst [.ref t1]) h2
 have nld:lf≠d0:=(zk (old h1 (zf (H:=H) (a:=d0) (o:=.dK []))) h2).symm
 refine⟨fun m σ H'=>∃(stk:Wy)(ps:List Addr)(acc:List Str)(x y z:Option V),m=wsz stk/\σ=[some (.ref p),some (.ref d0),some (.ref lf),x,y,z]/\Same H H'/\H' lf=some (.lst (ps.reverse.map V.ref))/\IsY H' stk ps/\H' d0=some (.dK (ent acc))/\once acc (pend stk)=once [] (df.ps++df.b.binds)/\acc.length+(pend stk).length<=1001000/\wsz stk<=1000000,
  ⟨_,[(df.ps,df.b)],[t1],[],none,none,none,rfl,rfl,s3,zf,.cons (old h2 zf) (s3 _ _ hpq) (hpb.keep (.of s3)) .nil,old h2 (old h1 zf),by unfold pend;simp,by unfold pend;simp;lia,by unfold wsz;simpa using hn2⟩,?_⟩
 rintro m σ H3 ⟨stk,ps,acc,x,y,z,rfl,rfl,sm,hl,hy,hd,ho,hal,hwz⟩
 refine(ex2q rfl ⟨_,_,rfl,.inl (SqL.of hl),(ex4q rfl rfl (ex2q rfl ?_))⟩)
 cases hy with
 |nil =>
  refine iteF ?_
  unfold pend at ho
  refine(ex2q rfl ⟨d0,(ex2q rfl ⟨hd,fun r hr=>?_⟩)⟩)
  have e:(ent acc).map (fun kv=>kV kv.1)=acc.map V.str:=by unfold ent;rw[List.map_map];rfl
  rw[e]
  refine q _ r (sm.new hr) (sm.free hr) ?_
  rw[zf,<- ho]
  rfl
 |@cons ns b pp q1 r1 l ps hpp hq1 hb hy =>
  have hne:decide ((0:Int) < ((((pp::ps).reverse.map V.ref).length:Nat):Int))=true:=by
   rw[decide_eq_true_eq,ua,u6,uo]
   lia
  rw[hne]
  refine iteT ⟨_,fun _ _ h=>h,?_⟩
  have e1:(pp::ps).reverse.map V.ref=ps.reverse.map V.ref++[.ref pp]:=by simp
  have e2:((pp::ps).reverse.map V.ref)[((pp::ps).reverse.map V.ref).length-1]?=some (.ref pp):=by rw[e1];simp
  have e3:((pp::ps).reverse.map V.ref).dropLast=ps.reverse.map V.ref:=by rw[e1];simp
  refine(ex2q rfl ⟨.inl ⟨rfl,_,SqL.of hl⟩,lf,(ex4q rfl rfl ⟨hl,e2,?_⟩)⟩)
  rw[e3]
  have t4:Tups H3 (upd H3 lf (.lst (ps.reverse.map V.ref))):=fun b xs z=>by rw[zi (xh z hl (by intro z;cases z))];exact z
  have s4:=sm.put (o:=.lst (ps.reverse.map V.ref)) flf
  have hl4:=zf (H:=H3) (a:=lf) (o:=.lst (ps.reverse.map V.ref))
  have hd4:upd H3 lf (.lst (ps.reverse.map V.ref)) d0=some (.dK (ent acc)):=by rw[zi nld.symm];exact hd
  replace hpp:=t4 _ _ hpp
  replace hq1:=t4 _ _ hq1
  replace hb:=hb.keep t4
  replace hy:=hy.keep t4
  generalize upd H3 lf (.lst (ps.reverse.map V.ref))=H4 at *
  have hpd:pend ((ns,b)::l)=ns++(b.binds++pend l):=by unfold pend;rw[Uz,Um]
  rw[hpd]at ho hal
  rw[ub,ub]at hal
  have hwc:wsz ((ns,b)::l)=b.sz+wsz l:=by unfold wsz;rw[uu,uW]
  rw[hwc]at hwz
  have hll:=wj l
  have hyl:=hy.len
  refine(ex2q rfl ⟨pp,_,_,_,rfl,rfl,SqT.of hpp,aI0,q1,rfl,⟨_,SqT.of hq1⟩,yt (xs:=ns.map V.str) (fun i σ H'=>Same H H'/\Tups H4 H'/\H' lf=some (.lst (ps.reverse.map V.ref))/\H' d0=some (.dK (ent (once acc (ns.take i))))/\∃y z,σ=[some (.ref p),some (.ref d0),some (.ref lf),some (.ref pp),y,z]) ⟨s4,fun _ _ h=>h,hl4,hd4,_,_,rfl⟩ (fun i σ H' _ h=>SqT.of (h.2.1 _ _ hq1)) ?_ ?_⟩)
  ·rintro i v σ H5 hv ⟨s5,t5,hl5,hd5,y,z,rfl⟩
   rw[ug]at hv
   obtain⟨x,hx,rfl⟩:=uj.mp hv
   have hi:i < ns.length:=(uf.mp hx).1
   have ol:=yV (ns.take i) acc
   rw[uM]at ol
   refine(ex2q rfl (ex2q rfl ⟨d0,(ex2q rfl ⟨DPut.k (k:=.inr x) hd5 (by unfold ent;rw[ua];lia),s5.put hd0,fun b xs z=>?_,?_,?_,_,_,rfl⟩)⟩))
   ·rw[zi (xh (t5 _ _ z) hd5 (by intro e;cases e))]
    exact t5 _ _ z
   ·rw[zi nld]
    exact hl5
   ·rw[zf,YU,<- ja hx]
  rintro σ H5 ⟨s5,t5,hl5,hd5,y,z,rfl⟩
  rw[ua,uz (ud _)]at hd5
  refine(ex2q rfl ⟨pp,_,_,_,rfl,rfl,SqT.of (t5 _ _ hpp),aI1,r1,b,rfl,hb.keep t5,by lia,fun H6 rl rs s6 f6 hrl hyw=>?_⟩)
  have hywl:=hyw.len
  have hww:=Bd.wsz b
  have hwl:=wj b.ways
  have nlr:lf≠rl:=zk hl5 f6
  have ndr:d0≠rl:=zk hd5 f6
  refine⟨rl,(ex2q rfl ⟨SqL.of hrl,wU (xs:=rs.map V.ref) (fun i σ H'=>Same H H'/\Tups H6 H'/\H' rl=some (.lst (rs.map V.ref))/\H' lf=some (.lst ((ps.reverse++rs.reverse.take i).map V.ref))/\H' d0=some (.dK (ent (once acc ns)))/\∃z,σ=[some (.ref p),some (.ref d0),some (.ref lf),some (.ref pp),y,z]) ⟨s5.trans s6,fun _ _ h=>h,hrl,by rw[List.take_zero,Uq];exact s6 _ _ hl5,s6 _ _ hd5,_,rfl⟩ (fun i σ H' _ h=>SqL.of h.2.2.1) ?_ ?_⟩)⟩
  ·rintro i v σ H7 hv ⟨s7,t7,hr7,hl7,hd7,z,rfl⟩
   rw[<- List.map_reverse,ug]at hv
   obtain⟨t,ht,rfl⟩:=uj.mp hv
   have hi:i < rs.length:=by
    have:=(uf.mp ht).1
    rw[u6]at this
    exact this
   refine(ex2q rfl ⟨.inl ⟨rfl,_,SqL.of hl7⟩,(ex2q rfl ⟨lf,(ex4q rfl rfl ⟨hl7,?_,s7.put flf,fun b xs z=>?_,?_,?_,?_,_,rfl⟩)⟩)⟩)
   ·rw[ua,ub,u6,uM]
    lia
   ·rw[zi (xh (t7 _ _ z) hl7 (by intro e;cases e))]
    exact t7 _ _ z
   ·rw[zi nlr.symm]
    exact hr7
   ·rw[zf,uJ,ht]
    simp
   ·rw[zi nld.symm]
    exact hd7
  rintro σ H7 ⟨s7,t7,hr7,hl7,hd7,z,rfl⟩
  rw[ua,<- u6,uz (ud _),<- List.reverse_append]at hl7
  have t47:Tups H4 H7:=(t5.trans (.of s6)).trans t7
  refine⟨wsz (b.ways++l),?_,b.ways++l,rs++ps,once acc ns,_,_,_,rfl,rfl,s7,hl7,(hyw.keep t7).app (hy.keep t47),hd7,?_,?_,?_⟩
  ·rw[YR,hwc]
   lia
  ·rw[Zp,Bd.pend,<- vx]
   exact ho
  ·have ol:=yV ns acc
   rw[Zp,Bd.pend,ub]
   lia
  ·rw[YR]
   lia
theorem zE{b:Bool}{A B:Prop}(e:b=true)(h:A):if b=true then A else B:=by rw[if_pos e];exact h
theorem IsY.get{H:Hp}:∀{l:Wy}{ps:List Addr}{i:Nat}{p:Addr},IsY H l ps->ps[i]?=some p->∃ns b q r,l[i]?=some (ns,b)/\H p=some (.tup [.ref q,.ref r])/\H q=some (.tup (ns.map V.str))/\IsBd H b r
 |_,_,_,_,.nil,e=>by simp at e
 |_,_,0,_,.cons a b c _,e=>by
  simp at e
  subst e
  exact⟨_,_,_,_,rfl,a,b,c⟩
 |_,_,i+1,_,.cons _ _ _ d,e=>by
  obtain⟨ns,b,q,r,h1,h2⟩:=IsY.get (i:=i) d (by simpa using e)
  exact⟨ns,b,q,r,by simpa using h1,h2⟩
def IsBs(H:Hp)(l:List Bd)(ps:List Addr):Prop:=All2 (IsBd H) l ps
theorem IsBs.keep{H H':Hp}{l:List Bd}{ps:List Addr}(h:IsBs H l ps)(t:Tups H H'):IsBs H' l ps:=All2.imp h fun _ _ e=>e.keep t
def IsAr(H:Hp)(a:ArmR)(t:Addr):Prop:=∃q s,H t=some (.tup [.str a.t,.ref q,.str a.m,.str a.k,.ref s])/\H q=some (.tup (a.ns.map V.str))/\IsBd H a.b s
theorem IsAr.keep{H H':Hp}{a:ArmR}{t:Addr}(h:IsAr H a t)(k:Tups H H'):IsAr H' a t:=let ⟨q,s,a1,a2,a3⟩:=h;⟨q,s,k _ _ a1,k _ _ a2,a3.keep k⟩
theorem vz{H:Hp}:∀{as:Arms}{ts:List Addr},IsArms H as ts->All2 (IsAr H) as.l ts
 |.nil,ts,h=>by
  have h:ts=[]:=h
  rw[h]
  exact .nil
 |.cons t ns m k b r,ts,h=>by
  obtain⟨p,q,s,ts',rfl,h1,h2,h3,h4⟩:=h
  exact .cons ⟨q,s,h1,h2,h3⟩ (vz h4)
theorem vA{H:Hp}:∀{as:Arms}{ts:List Addr},All2 (IsAr H) as.l ts->IsArms H as ts
 |.nil,ts,h=>by
  unfold Arms.l at h
  cases h
  rfl
 |.cons t ns m k b r,ts,h=>by
  unfold Arms.l at h
  cases h with
  |cons a h=>obtain⟨q,s,h1,h2,h3⟩:=a;exact⟨_,q,s,(ex2q rfl ⟨h1,h2,h3,vA h⟩)⟩
def ArmR.wb(a:ArmR)(b:Bd):ArmR:=⟨a.t,a.ns,a.m,a.k,b⟩
theorem wb_l:∀{as:Arms}{l:List Bd},l.length=as.bs.length->(as.wb l).l=List.zipWith ArmR.wb as.l l
 |.nil,l,h=>by
  have:l=[]:=Uo.mp h
  rw[this]
  rfl
 |.cons t ns m k b r,[],h=>by simp[Arms.bs]at h
 |.cons t ns m k b r,c::l,h=>by
  unfold Arms.wb Arms.l
  rw[List.zipWith_cons_cons,wb_l (by simpa[Arms.bs]using h)]
  rfl
theorem bs_l:∀as:Arms,as.bs=as.l.map (·.b)
 |.nil=>by unfold Arms.bs Arms.l;rfl
 |.cons _ _ _ _ b r=>by unfold Arms.bs Arms.l;rw[uu,bs_l r]
theorem Vi(b:Bd):b.kd.length<=b.sz:=by
 have h1:=Bd.wsz b
 have h2:=wj b.ways
 rw[<- jM,ua]
 lia
def spBW:Sp:=fun vs H Q _=>∃(p:Addr)(b:Bd),vs=[.ref p]/\IsBd H b p/\b.sz<=1000000/\∀H' r ps,Same H H'->H r=none->H' r=some (.lst (ps.map V.ref))->IsBs H' b.kd ps->Q (.ref r) H'
def spWB:Sp:=fun vs H Q _=>∃(p l:Addr)(b:Bd)(ps:List Addr)(c:List Bd),vs=[.ref p,.ref l]/\IsBd H b p/\b.sz<=1000000/\H l=some (.lst (ps.map V.ref))/\IsBs H c ps/\c.length=b.kd.length/\∀H' r,Same H H'->IsBd H' (b.wb c) r->Q (.ref r) H'
theorem scBW:FnScope ["body"] ["body"] (zo yP):=.ok
theorem ndBW:(["body","way"]:List Str).Nodup:=by decide +kernel
theorem zb2(F:Fun K "bodies_within" "bodies_within" yP f fd)(GW:Ca P w K mg base CX0 1 "ways_on" ["body"] Yj):FnOk P w K mg base CX0 2 f fd ["body"] spBW:=by
 refine F.by scBW (fun vs H Q E h=>?_) (fun cdv A outer s H vs Q E hr h=>?_)
 ·obtain⟨p,b,rfl,_⟩:=h
  rfl
 obtain⟨p,b,rfl,hb,hz,q⟩:=h
 refine⟨_,(zh (zp (yM ["way"] rfl (ye (cA GW hr (jA1 (jv 0)))) (fun _ _ _ _ _=>(gN 1 ndBW)) (fun _ _ _ _ _=>zW) (fun _ _ _ _ _=>(yd (yN K) (jv 1) zn (fun _ _=>rfl)))))),?_⟩
 have sl:=zK
 refine(ex2q rfl ⟨p,b,rfl,hb,hz,fun H1 wl ps s1 hwl hwl1 hy=>?_⟩)
 have yl:=hy.len
 have wl1:=wj b.ways
 have wl2:=Bd.wsz b
 refine⟨wl,rfl,⟨_,SqL.of hwl1⟩,yL (xs:=ps.map V.ref) (fun j τ ys H'=>H1=H'/\(∃v,τ=[some (.ref p),v])/\∃rs:List Addr,ys=rs.map V.ref/\IsBs H1 ((b.ways.take j).map (·.2)) rs) ⟨rfl,⟨none,rfl⟩,[],rfl,.nil⟩ (fun j τ ys H' _ h=>SqL.of (h.1 ▸ hwl1)) ?_ ?_⟩
 ·rintro j v τ ys H2 hv ⟨rfl,⟨v',rfl⟩,rs,rfl,hk⟩
  rw[ug]at hv
  obtain⟨pw,hpw,rfl⟩:=uj.mp hv
  obtain⟨xs,b',q1,r1,e1,e2,e3,e4⟩:=hy.get hpw
  have kl:=All2.len hk
  rw[ua,uM]at kl
  refine(ex2q rfl (ixT e2 aI1 ⟨by have:=(uf.mp e1).1;rw[ua];lia,rfl,⟨_,rfl⟩,rs++[r1],by simp,?_⟩))
  rw[uJ,e1]
  show IsBs _ (((b.ways.take j)++[(xs,b')]).map (·.2)) _
  rw[ui]
  exact All2.app hk (.cons e4 .nil)
 rintro τ ys H2 ⟨rfl,_,rs,rfl,hk⟩ l hl
 rw[ua,<- yl,uz (ud _),jM]at hk
 exact q _ l rs (s1.new hl) (s1.free hl) zf (hk.keep (.of (zj hl _)))
theorem scWB:FnScope lS18 lS18 (zo xp):=.ok
theorem ndWB:(["body","within","arm","one"]:List Str).Nodup:=by decide +kernel
theorem zb3(F:Fun K "with_bodies" "with_bodies" xp f fd)(m_tuple:mg "tuple"=none)(m_zip:mg "zip"=none):FnOk P w K mg base CX0 1 f fd lS18 spWB:=by
 refine F.by scWB (fun vs H Q E h=>?_) (fun cdv A outer s H vs Q E hr h=>?_)
 ·obtain⟨p,l,b,ps,c,rfl,_⟩:=h
  rfl
 obtain⟨p,l,b,ps,c,rfl,hb,hz,hl,hc,hlen,q⟩:=h
 refine⟨_,
  (zg (zw (tN zx (xT 0) zq)
   (zh (zp (jv 0))) zr)
  (zg (zw (tN zx (xT 0) zq)
   (zh (zp (zu xa (yk xc (jv 0) yz (yA zn)) (zG zB rfl m_tuple uI (jA1 (jv 1)))))) zr)
  (zg (zw (tN zx (xT 0) zq)
   (zh (zp (zt (jA3 zq (xT 0) (zG zB rfl m_tuple uI (jA1 (yM ["arm","one"] rfl (Z2 rfl m_zip (jA2 (xT 0) (jv 1))) (fun _ _ _ _ _=>(wV K (n:=2) rfl (zA (gN 2 ndWB) (zA (gN 3 ndWB) ym)))) (fun _ _ _ _ _=>zW) (fun _ _ _ _ _=>(zu (WM K) (yk xc (jv 2) yz (yA (yh zn))) (zt (jA1 (jv 3)))))))))))) zr)
  (zh (zp (zu xa (yk xc (jv 0) yz (yA (yh zn))) (zG zB rfl m_tuple uI (jA1 (jv 1))))))))),?_⟩
 have sl:=zK
 have cl:=All2.len hc
 have kl:=Vi b
 cases b with
 |give x =>
  have hp:H p=some (.tup [.str "give",.str x]):=hb
  exact(ex2q rfl (ixT hp aI0 ⟨rfl,(ex2q rfl (iteT (ex2q rfl (q _ p (Same.refl _) hb))))⟩))
 |iff x b1 b2 =>
  obtain⟨p1,p2,hp,_,_⟩:=hb
  match c,ps,hlen,hc,hl with
  |[c1,c2],[r1,r2],_,.cons g1 (.cons g2 .nil),hl =>
  refine(ex2q rfl (ixT hp aI0 ⟨rfl,(ex2q rfl (iteF (nxtC ?_)))⟩))
  refine(ex2q rfl (ixT hp aI0 ⟨rfl,(ex2q rfl (iteT ?_))⟩))
  refine(ex2q rfl ⟨2,rfl,p,(ex2q rfl ⟨hp,fun p3 H1 s1 h3=>(ex2q rfl ⟨l,(ex2q rfl (.inl ⟨SqL.of (s1 _ _ hl),fun t4 f4=>?_⟩))⟩)⟩)⟩)
  refine⟨p3,t4,(ex4q rfl rfl ⟨SqT.of (old f4 h3),SqT.of zf,(by intro z;cases z),sN4,(fun e=>by simp at e),fun _ r fr=>?_⟩)⟩
  have s2:Same H (upd H1 t4 (.tup ([r1,r2].map V.ref))):=(show Same H H1 from s1).new f4
  exact q _ r (s2.new fr) ⟨r1,r2,zf,(g1.keep (.of s2)).keep (.of (zj fr _)),(g2.keep (.of s2)).keep (.of (zj fr _))⟩
 |cs x as =>
  obtain⟨p1,ts,hp,hts,has⟩:=hb
  have aa:=vz has
  have tl:=All2.len aa
  have hlen:c.length=as.bs.length:=hlen
  rw[bs_l,ua]at hlen
  refine(ex2q rfl (ixT hp aI0 ⟨rfl,(ex2q rfl (iteF (nxtC ?_)))⟩))
  refine(ex2q rfl (ixT hp aI0 ⟨rfl,(ex2q rfl (iteF (nxtC ?_)))⟩))
  refine(ex2q rfl (ixT hp aI0 ⟨rfl,(ex2q rfl (iteT ?_))⟩))
  refine(ex2q rfl (ixT hp aI1 (ex2q rfl (ixT hp aI2 (ex2q rfl ⟨p1,l,false,true,_,_,rfl,SqK.t hts,SqK.l hl,?_⟩)))))
  have sl2:as.l.length<=1000000:=by
   have:(Bd.cs x as).kd.length=as.l.length:=by show as.bs.length=_;rw[bs_l,ua]
   lia
  refine Yg (k:=false) (m:=true) (xs:=ts.map V.ref) (ys:=ps.map V.ref) (by rw[ua,ua];lia) (fun i τ zs H'=>Same H H'/\(∃y y',τ=[some (.ref p),some (.ref l),y,y'])/\∃us:List Addr,zs=us.map V.ref/\All2 (IsAr H') ((List.zipWith ArmR.wb as.l c).take i) us) ⟨Same.refl _,⟨none,none,rfl⟩,[],rfl,.nil⟩ (fun i τ zs H' _ h=>⟨SqK.t (h.1 _ _ hts),SqK.l (h.1 _ _ hl)⟩) ?_ ?_
  ·rintro i v1 v2 T τ zs H1 hv1 hv2 hT ⟨s1,⟨y1,y2,rfl⟩,us,rfl,hu⟩
   rw[ug]at hv1 hv2
   obtain⟨t,ht,rfl⟩:=uj.mp hv1
   obtain⟨r,hr',rfl⟩:=uj.mp hv2
   obtain⟨a,ha,hA⟩:=All2.get aa ht
   obtain⟨c',hc',hC⟩:=All2.get hc hr'
   have s2:=s1.new (o:=.tup [.ref t,.ref r]) hT
   obtain⟨q1,s1',a1,a2,a3⟩:=hA.keep (.of s2)
   have hi:i < as.l.length:=(uf.mp ha).1
   have ul:=All2.len hu
   rw[uM,List.length_zipWith]at ul
   refine⟨T,(ex2q rfl ⟨SqT.of zf,rfl,_,_,rfl,_,_,rfl,rfl,?_⟩)⟩
   refine(ex2q rfl (ex2q rfl ⟨-1,rfl,t,(ex2q rfl ⟨a1,fun p3 H3 s3 h3=>(ex2q rfl ⟨sN1,fun t4 f4=>?_⟩)⟩)⟩))
   refine⟨p3,t4,[.str a.t,.ref q1,.str a.m,.str a.k],(ex2q rfl ⟨rfl,SqT.of (old f4 h3),SqT.of zf,(by intro z;cases z),sN5,(fun e=>by simp at e),fun _ r' fr=>?_⟩)⟩
   have s4:Same H1 (upd (upd H3 t4 (.tup [.ref r])) r' (.tup [.str a.t,.ref q1,.str a.m,.str a.k,.ref r])):=(((zj hT _).trans s3).new f4).new fr
   have s3':Same (upd H1 T (.tup [.ref t,.ref r])) (upd (upd H3 t4 (.tup [.ref r])) r' (.tup [.str a.t,.ref q1,.str a.m,.str a.k,.ref r])):=((show Same _ H3 from s3).new f4).new fr
   refine⟨by rw[ua];lia,s1.trans s4,⟨_,_,rfl⟩,us++[r'],by rw[ui];rfl,?_⟩
   have ez:(List.zipWith ArmR.wb as.l c)[i]?=some (a.wb c'):=by rw[List.getElem?_zipWith,ha,hc']
   rw[uJ,ez]
   exact(hu.imp fun _ _ z=>z.keep (.of s4)).app (.cons ⟨q1,r,zf,s3' _ _ a2,hC.keep (.of (s1.trans s4))⟩ .nil)
  rintro τ zs H1 ⟨s1,_,us,rfl,hu⟩ l2 f2
  rw[ua,uz (by rw[List.length_zipWith];lia)]at hu
  refine⟨l2,(ex2q rfl (.inl ⟨SqL.of zf,fun t3 f3=>⟨sN3,fun r fr=>?_⟩⟩))⟩
  have s3:Same H1 (upd (upd (upd H1 l2 (.lst (us.map V.ref))) t3 (.tup (us.map V.ref))) r (.tup [.str "case",.str x,.ref t3])):=((zj f2 _).new f3).new fr
  refine q _ r (s1.trans s3) ⟨t3,us,zf,old fr zf,vA ?_⟩
  rw[wb_l (by rw[bs_l,ua];exact hlen)]
  exact hu.imp fun _ _ z=>z.keep (.of s3)
 |lt x d b =>
  obtain⟨p1,p2,hp,hd,_⟩:=hb
  match c,ps,hlen,hc,hl with
  |[c1],[r1],_,.cons g1 .nil,hl =>
  refine(ex2q rfl (ixT hp aI0 ⟨rfl,(ex2q rfl (iteF (nxtC ?_)))⟩))
  refine(ex2q rfl (ixT hp aI0 ⟨rfl,(ex2q rfl (iteF (nxtC ?_)))⟩))
  refine(ex2q rfl (ixT hp aI0 ⟨rfl,(ex2q rfl (iteF (nxtC ?_)))⟩))
  refine(ex2q rfl (ex2q rfl ⟨-1,rfl,p,(ex2q rfl ⟨hp,fun p3 H1 s1 h3=>(ex2q rfl ⟨l,(ex2q rfl (.inl ⟨SqL.of (s1 _ _ hl),fun t4 f4=>?_⟩))⟩)⟩)⟩))
  refine⟨p3,t4,[.str "let",.str x,.ref p1],(ex2q rfl ⟨rfl,SqT.of (old f4 h3),SqT.of zf,(by intro z;cases z),sN4,(fun e=>by simp at e),fun _ r fr=>?_⟩)⟩
  have s2:Same H (upd (upd H1 t4 (.tup ([r1].map V.ref))) r (.tup ([.str "let",.str x,.ref p1]++[r1].map V.ref))):=((show Same H H1 from s1).new f4).new fr
  exact q _ r s2 ⟨p1,r1,zf,hd.keep (.of s2),g1.keep (.of s2)⟩
 |hold x y b =>
  obtain⟨p2,hp,_⟩:=hb
  match c,ps,hlen,hc,hl with
  |[c1],[r1],_,.cons g1 .nil,hl =>
  refine(ex2q rfl (ixT hp aI0 ⟨rfl,(ex2q rfl (iteF (nxtC ?_)))⟩))
  refine(ex2q rfl (ixT hp aI0 ⟨rfl,(ex2q rfl (iteF (nxtC ?_)))⟩))
  refine(ex2q rfl (ixT hp aI0 ⟨rfl,(ex2q rfl (iteF (nxtC ?_)))⟩))
  refine(ex2q rfl (ex2q rfl ⟨-1,rfl,p,(ex2q rfl ⟨hp,fun p3 H1 s1 h3=>(ex2q rfl ⟨l,(ex2q rfl (.inl ⟨SqL.of (s1 _ _ hl),fun t4 f4=>?_⟩))⟩)⟩)⟩))
  refine⟨p3,t4,[.str "hold",.str x,.str y],(ex2q rfl ⟨rfl,SqT.of (old f4 h3),SqT.of zf,(by intro z;cases z),sN4,(fun e=>by simp at e),fun _ r fr=>?_⟩)⟩
  have s2:Same H (upd (upd H1 t4 (.tup ([r1].map V.ref))) r (.tup ([.str "hold",.str x,.str y]++[r1].map V.ref))):=((show Same H H1 from s1).new f4).new fr
  exact q _ r s2 ⟨r1,zf,g1.keep (.of s2)⟩
 |drop x b =>
  obtain⟨p2,hp,_⟩:=hb
  match c,ps,hlen,hc,hl with
  |[c1],[r1],_,.cons g1 .nil,hl =>
  refine(ex2q rfl (ixT hp aI0 ⟨rfl,(ex2q rfl (iteF (nxtC ?_)))⟩))
  refine(ex2q rfl (ixT hp aI0 ⟨rfl,(ex2q rfl (iteF (nxtC ?_)))⟩))
  refine(ex2q rfl (ixT hp aI0 ⟨rfl,(ex2q rfl (iteF (nxtC ?_)))⟩))
  refine(ex2q rfl (ex2q rfl ⟨-1,rfl,p,(ex2q rfl ⟨hp,fun p3 H1 s1 h3=>(ex2q rfl ⟨l,(ex2q rfl (.inl ⟨SqL.of (s1 _ _ hl),fun t4 f4=>?_⟩))⟩)⟩)⟩))
  refine⟨p3,t4,[.str "drop",.str x],(ex2q rfl ⟨rfl,SqT.of (old f4 h3),SqT.of zf,(by intro z;cases z),sN3,(fun e=>by simp at e),fun _ r fr=>?_⟩)⟩
  have s2:Same H (upd (upd H1 t4 (.tup ([r1].map V.ref))) r (.tup ([.str "drop",.str x]++[r1].map V.ref))):=((show Same H H1 from s1).new f4).new fr
  exact q _ r s2 ⟨r1,zf,g1.keep (.of s2)⟩
 |loose x b =>
  obtain⟨p2,hp,_⟩:=hb
  match c,ps,hlen,hc,hl with
  |[c1],[r1],_,.cons g1 .nil,hl =>
  refine(ex2q rfl (ixT hp aI0 ⟨rfl,(ex2q rfl (iteF (nxtC ?_)))⟩))
  refine(ex2q rfl (ixT hp aI0 ⟨rfl,(ex2q rfl (iteF (nxtC ?_)))⟩))
  refine(ex2q rfl (ixT hp aI0 ⟨rfl,(ex2q rfl (iteF (nxtC ?_)))⟩))
  refine(ex2q rfl (ex2q rfl ⟨-1,rfl,p,(ex2q rfl ⟨hp,fun p3 H1 s1 h3=>(ex2q rfl ⟨l,(ex2q rfl (.inl ⟨SqL.of (s1 _ _ hl),fun t4 f4=>?_⟩))⟩)⟩)⟩))
  refine⟨p3,t4,[.str "loose",.str x],(ex2q rfl ⟨rfl,SqT.of (old f4 h3),SqT.of zf,(by intro z;cases z),sN3,(fun e=>by simp at e),fun _ r fr=>?_⟩)⟩
  have s2:Same H (upd (upd H1 t4 (.tup ([r1].map V.ref))) r (.tup ([.str "loose",.str x]++[r1].map V.ref))):=((show Same H H1 from s1).new f4).new fr
  exact q _ r s2 ⟨r1,zf,g1.keep (.of s2)⟩
end
mutual
def Bd.all:Bd->List Bd
 |.give x=>[.give x]
 |.lt x d b=>.lt x d b::b.all
 |.hold x y b=>.hold x y b::b.all
 |.drop x b=>.drop x b::b.all
 |.loose x b=>.loose x b::b.all
 |.iff x b c=>.iff x b c::(b.all++c.all)
 |.cs x as=>.cs x as::as.all
def Arms.all:Arms->List Bd
 |.nil=>[]
 |.cons _ _ _ _ b r=>b.all++r.all
end
theorem Vj:∀as:Arms,as.all=as.bs.flatMap Bd.all
 |.nil=>by unfold Arms.all Arms.bs;rfl
 |.cons _ _ _ _ b r=>by unfold Arms.bs;rw[Arms.all,Vj r,Uz]
theorem zba(b:Bd):b.all=b::b.kd.flatMap Bd.all:=by
 cases b with
 |cs x as=>rw[Bd.all,Vj];rfl
 |_=>rw[Bd.all];simp[Bd.kd]
mutual
theorem Bd.all_any{n:Nat}:∀b:Bd,b.all.any (Bd.isL n)=b.hasL n
 |.give x=>by rw[Bd.all,Bd.hasL];rfl
 |.lt x d b=>by rw[Bd.all,Bd.hasL,uO,Bd.all_any b];rfl
 |.hold x y b=>by rw[Bd.all,Bd.hasL,uO,Bd.all_any b];rfl
 |.drop x b=>by rw[Bd.all,Bd.hasL,uO,Bd.all_any b];rfl
 |.loose x b=>by rw[Bd.all,Bd.hasL,uO,Bd.all_any b];rfl
 |.iff x b c=>by rw[Bd.all,Bd.hasL,uO,Ur,Bd.all_any b,Bd.all_any c];rfl
 |.cs x as=>by rw[Bd.all,Bd.hasL,uO,Arms.all_any as];rfl
theorem Arms.all_any{n:Nat}:∀as:Arms,as.all.any (Bd.isL n)=as.hasL n
 |.nil=>by rw[Arms.all,Arms.hasL];rfl
 |.cons _ _ _ _ b r=>by rw[Arms.all,Arms.hasL,Ur,Bd.all_any b,Arms.all_any r]
end
def bsz(l:List Bd):Nat:=(l.map Bd.sz).sum
theorem jP:∀l:List Bd,l.length<=bsz l
 |[]=>uN _
 |b::l=>by
  have h1:=b.sz_pos
  have h2:=jP l
  unfold bsz at h2 ⊢
  rw[uu,uW,uo]
  lia
theorem Vk(b:Bd):bsz b.kd < b.sz:=by
 have:=Bd.wsz b
 unfold wsz at this
 unfold bsz
 rw[<- jM,List.map_map]
 exact this
def Q0:Sp:=fun vs H Q _=>∃(p:Addr)(b:Bd),vs=[.ref p]/\IsBd H b p/\b.sz<=1000000/\∀H' r rs,Same H H'->H' r=some (.lst (rs.map V.ref))->IsBs H' b.all rs->rs.length<=1000000->Q (.ref r) H'
def Vl:Sp:=fun vs H Q _=>∃(p:Addr)(b:Bd)(n:Nat),vs=[.ref p,.int (n:Nat)]/\IsBd H b p/\Q (.bl (b.isL n)) H
section
variable{P:Program}{w:World}{K:uc}{mg:Str->Option Value}{base:Heap}{f:Addr}{fd:FuncData}
theorem scBIn:FnScope ["body","found","left","one","within"] ["body"] (zo wE):=.ok
theorem zbb(F:Fun K "bodies_in" "bodies_in" wE f fd)(GW:Ca P w K mg base CX0 2 "bodies_within" ["body"] spBW)(m_len:mg "len"=none)(m_reversed:mg "reversed"=none):FnOk P w K mg base CX0 3 f fd ["body"] Q0:=by
 refine F.by scBIn (fun vs H Q E h=>?_) (fun cdv A outer s H vs Q E hr h=>?_)
 ·obtain⟨p,b,rfl,_⟩:=h
  rfl
 obtain⟨p,b0,rfl,hb0,hz,q⟩:=h
 refine⟨_,
  (zg (sE 1 scBIn.nd (zy zD))
  (zg (sE 2 scBIn.nd (zy (jA1 (jv 0))))
  (zg (xn PassesOwn.never (tN vg (jL m_len (jv 2)) zn)
   (zg (sE 3 scBIn.nd (vf ur Uj Uk vi (jv 2)))
   (zg (zO (yf ur uE uF zI (jv 1) (jA1 (jv 3))))
   (zh (zM PassesOwn.never rfl (jy rfl m_reversed (jA1 (cA GW hr (jA1 (jv 3))))) (gN 4 scBIn.nd)
    (zh (zO (yf ur uE uF zI (jv 2) (jA1 (jv 4))))))))))
  (zh (zp (jv 1)))))),?_⟩
 have sl:=zK
 refine⟨sN0,fun fo f1=>⟨_,rfl,sN1,fun lf f2=>?_⟩⟩
 have s2:=(zj f1 (.lst [])).new (o:=.lst [.ref p]) f2
 have flf:H lf=none:=(zj f1 (.lst [])).free f2
 have nlf:lf≠fo:=fun e=>by rw[e,zf]at f2;cases f2
 refine⟨fun m σ H'=>∃(stk l1:List Bd)(ps rs:List Addr)(x y:Option V),m=bsz stk/\σ=[some (.ref p),some (.ref fo),some (.ref lf),x,y]/\Same H H'/\H' lf=some (.lst (ps.reverse.map V.ref))/\IsBs H' stk ps/\H' fo=some (.lst (rs.map V.ref))/\IsBs H' l1 rs/\l1++stk.flatMap Bd.all=b0.all/\l1.length+bsz stk<=1000000,
  ⟨_,[b0],[],[p],[],none,none,rfl,rfl,s2,zf,.cons (hb0.keep (.of s2)) .nil,old f2 zf,.nil,by simp,by unfold bsz;simpa using hz⟩,?_⟩
 rintro m σ H3 ⟨stk,l1,ps,rs,x,y,rfl,rfl,sm,hl,hy,hf,hrs,ho,hwz⟩
 have rl:=All2.len hrs
 refine⟨_,rfl,_,_,rfl,.inl (SqL.of hl),_,_,rfl,rfl,_,rfl,?_⟩
 cases hy with
 |nil =>
  refine iteF ?_
  rw[List.flatMap_nil,Uq]at ho
  exact⟨_,rfl,q _ fo rs sm hf (ho ▸ hrs) (by lia)⟩
 |@cons b pp l ps hb hy =>
  have hne:decide ((0:Int) < ((((pp::ps).reverse.map V.ref).length:Nat):Int))=true:=by
   rw[decide_eq_true_eq,ua,u6,uo]
   lia
  rw[hne]
  refine iteT ⟨_,fun _ _ h=>h,?_⟩
  have e1:(pp::ps).reverse.map V.ref=ps.reverse.map V.ref++[.ref pp]:=by simp
  have e2:((pp::ps).reverse.map V.ref)[((pp::ps).reverse.map V.ref).length-1]?=some (.ref pp):=by rw[e1];simp
  have e3:((pp::ps).reverse.map V.ref).dropLast=ps.reverse.map V.ref:=by rw[e1];simp
  refine⟨_,rfl,.inl ⟨rfl,_,SqL.of hl⟩,lf,_,_,rfl,rfl,hl,e2,?_⟩
  rw[e3]
  have t4:Tups H3 (upd H3 lf (.lst (ps.reverse.map V.ref))):=fun b xs z=>by rw[zi (xh z hl (by intro z;cases z))];exact z
  have s4:=sm.put (o:=.lst (ps.reverse.map V.ref)) flf
  have hl4:=zf (H:=H3) (a:=lf) (o:=.lst (ps.reverse.map V.ref))
  have hf4:upd H3 lf (.lst (ps.reverse.map V.ref)) fo=some (.lst (rs.map V.ref)):=by rw[zi nlf.symm];exact hf
  replace hb:=hb.keep t4
  replace hy:IsBs _ l ps:=hy.imp fun _ _ z=>z.keep t4
  replace hrs:=hrs.keep t4
  dsimp only
  generalize upd H3 lf (.lst (ps.reverse.map V.ref))=H4 at *
  have hwc:bsz (b::l)=b.sz+bsz l:=by unfold bsz;rw[uu,uW]
  rw[hwc]at hwz
  have bp:=b.sz_pos
  have hll:=jP l
  have hyl:=All2.len hy
  refine⟨_,rfl,.inl ⟨rfl,_,SqL.of hf4⟩,_,rfl,fo,_,_,rfl,rfl,hf4,by rw[ua];lia,?_⟩
  have t5:Tups H4 (upd H4 fo (.lst (rs.map V.ref++[.ref pp]))):=fun b xs z=>by rw[zi (xh z hf4 (by intro z;cases z))];exact z
  have s5:=s4.put (o:=.lst (rs.map V.ref++[.ref pp])) f1
  have hf5:=zf (H:=H4) (a:=fo) (o:=.lst (rs.map V.ref++[.ref pp]))
  have hl5:upd H4 fo (.lst (rs.map V.ref++[.ref pp])) lf=some (.lst (ps.reverse.map V.ref)):=by rw[zi nlf];exact hl4
  replace hb:=hb.keep t5
  replace hy:IsBs _ l ps:=hy.keep t5
  replace hrs:=hrs.keep t5
  dsimp only
  generalize upd H4 fo (.lst (rs.map V.ref++[.ref pp]))=H5 at *
  refine⟨_,rfl,pp,b,rfl,hb,by lia,fun H6 rl' ks s6 f6 hrl hks=>?_⟩
  have nlr:lf≠rl':=zk hl5 f6
  have nfr:fo≠rl':=zk hf5 f6
  have kl:=All2.len hks
  have kb:=Vk b
  have kll:=jP b.kd
  refine⟨rl',_,rfl,SqL.of hrl,wU (xs:=ks.map V.ref) (fun i σ H'=>Same H H'/\Tups H6 H'/\H' rl'=some (.lst (ks.map V.ref))/\H' lf=some (.lst ((ps.reverse++ks.reverse.take i).map V.ref))/\H' fo=some (.lst (rs.map V.ref++[.ref pp]))/\∃z,σ=[some (.ref p),some (.ref fo),some (.ref lf),some (.ref pp),z]) ⟨s5.trans s6,fun _ _ h=>h,hrl,by rw[List.take_zero,Uq];exact s6 _ _ hl5,s6 _ _ hf5,_,rfl⟩ (fun i σ H' _ h=>SqL.of h.2.2.1) ?_ ?_⟩
  ·rintro i v σ H7 hv ⟨s7,t7,hr7,hl7,hf7,z,rfl⟩
   rw[<- List.map_reverse,ug]at hv
   obtain⟨t,ht,rfl⟩:=uj.mp hv
   have hi:i < ks.length:=by
    have:=(uf.mp ht).1
    rw[u6]at this
    exact this
   refine⟨_,rfl,.inl ⟨rfl,_,SqL.of hl7⟩,_,rfl,lf,_,_,rfl,rfl,hl7,?_,s7.put flf,fun b xs z=>?_,?_,?_,?_,_,rfl⟩
   ·rw[ua,ub,u6,uM]
    lia
   ·rw[zi (xh (t7 _ _ z) hl7 (by intro e;cases e))]
    exact t7 _ _ z
   ·rw[zi nlr.symm]
    exact hr7
   ·rw[zf,uJ,ht]
    simp
   ·rw[zi nlf.symm]
    exact hf7
  rintro σ H7 ⟨s7,t7,hr7,hl7,hf7,z,rfl⟩
  rw[ua,<- u6,uz (ud _),<- List.reverse_append]at hl7
  have t57:Tups H5 H7:=(Tups.of s6).trans t7
  have ba:bsz (b.kd++l)=bsz b.kd+bsz l:=by unfold bsz;rw[ui,List.sum_append]
  refine⟨bsz (b.kd++l),?_,b.kd++l,l1++[b],ks++ps,rs++[pp],_,_,rfl,rfl,s7,hl7,(hks.keep t7).app (hy.keep t57),by rw[hf7,ui];rfl,(hrs.keep t57).app (.cons (hb.keep t57) .nil),?_,?_⟩
  ·rw[ba,hwc]
   lia
  ·rw[<- ho,Uz,zba b,List.flatMap_append,Um]
   rfl
  ·rw[ba,ub]
   show l1.length+1+_<=_
   lia
theorem zb4:FnScope lS22 lS22 (zo jr):=.ok
theorem zbc(F:Fun K "is_left" "is_left" jr f fd)(m_len:mg "len"=none):FnOk P w K mg base CX0 1 f fd lS22 Vl:=by
 refine F.by zb4 (fun vs H Q E h=>?_) (fun cdv A outer s H vs Q E hr h=>?_)
 ·obtain⟨p,b,n,rfl,_⟩:=h
  rfl
 obtain⟨p,b,n,rfl,hb,q⟩:=h
 refine⟨_,
  (zg (zw (jW.pt (vd (tN v7 (xT 0) zq) (xG (tN v7 (yd zP (xT 0) zn (fun _ _=>rfl)) zq))))
   (zh (zp zT)) zr)
  (zh (zp (ve (yu zx (jL m_len (yd zP (xT 0) zn (fun _ _=>rfl))) (jv 1) (yO _)) (xj (yu zx (yd zP (xT 0) zn (fun _ _=>rfl)) zq (yO _))))))),?_⟩
 have sl:=zK
 have fm:(∃(z:Str)(r:List V),H p=some (.tup (.str z::r))/\z≠"let"/\b.isL n=false)\/∃x d b',b=.lt x d b':=by
  cases b with
  |give x=>exact .inl ⟨_,_,hb,by decide,rfl⟩
  |hold x y b=>obtain⟨_,hp,_⟩:=hb;exact .inl ⟨_,_,hp,by decide,rfl⟩
  |drop x b=>obtain⟨_,hp,_⟩:=hb;exact .inl ⟨_,_,hp,by decide,rfl⟩
  |loose x b=>obtain⟨_,hp,_⟩:=hb;exact .inl ⟨_,_,hp,by decide,rfl⟩
  |iff x b c=>obtain⟨_,_,hp,_⟩:=hb;exact .inl ⟨_,_,hp,by decide,rfl⟩
  |cs x as=>obtain⟨_,_,hp,_⟩:=hb;exact .inl ⟨_,_,hp,by decide,rfl⟩
  |lt x d b=>exact .inr ⟨x,d,b,rfl⟩
 rcases fm with⟨z,r,hp,hz,e⟩|⟨x,d,b,rfl⟩
 ·rw[e]at q
  exact⟨_,rfl,ixT hp aI0 ⟨rfl,_,rfl,zE (show(!decide (V.str z=V.str "let"))=true by rw[decide_eq_false fun y=>hz (V.str.inj y)];rfl) (iteT q)⟩⟩
 ·obtain⟨p1,p2,hp,hd,_⟩:=hb
  refine⟨_,rfl,ixT hp aI0 ⟨rfl,_,rfl,iteF ?_⟩⟩
  have fd':(∃(z:Str)(r:List V),H p1=some (.tup (.str z::r))/\z≠"make"/\isLD n d=false)\/∃t ns k,d=.mk t ns k:=by
   cases d with
   |num i=>exact .inl ⟨_,_,hd,by decide,rfl⟩
   |op o a b=>exact .inl ⟨_,_,hd,by decide,rfl⟩
   |call g ns=>obtain⟨_,hd,_⟩:=hd;exact .inl ⟨_,_,hd,by decide,rfl⟩
   |fn g ns=>obtain⟨_,hd,_⟩:=hd;exact .inl ⟨_,_,hd,by decide,rfl⟩
   |ask g ns=>obtain⟨_,hd,_⟩:=hd;exact .inl ⟨_,_,hd,by decide,rfl⟩
   |mk t ns k=>exact .inr ⟨t,ns,k,rfl⟩
  rcases fd' with⟨z,r,h1,hz,e⟩|⟨t,ns,k,rfl⟩
  ·rw[show(Bd.lt x d b).isL n=false from e]at q
   exact⟨_,rfl,ixT hp aI2 (ixT h1 aI0 ⟨rfl,_,rfl,zE (show(!decide (V.str z=V.str "make"))=true by rw[decide_eq_false fun y=>hz (V.str.inj y)];rfl) q⟩)⟩
  ·obtain⟨q1,h1,h2⟩:=hd
   refine⟨_,rfl,ixT hp aI2 (ixT h1 aI0 ⟨rfl,_,rfl,iteF (nxtC ?_)⟩)⟩
   refine⟨_,rfl,ixT hp aI2 (ixT h1 aI2 ⟨q1,_,rfl,.inr (SqT.of h2),_,rfl,rfl,_,rfl,?_⟩)⟩
   have eq:(Bd.lt x (.mk t ns k) b).isL n=(decide (ns.length=n) && decide (k="")):=rfl
   rw[eq]at q
   by_cases c:ns.length=n
   ·rw[decide_eq_true c]at q
    refine zE (decide_eq_true (by rw[ua,c])) ?_
    refine⟨_,rfl,ixT hp aI2 (ixT h1 aI3 ⟨rfl,?_⟩)⟩
    by_cases c2:k=""
    ·rw[decide_eq_true c2]at q
     rw[decide_eq_true (show V.str k=V.str "" by rw[c2])]
     exact q
    ·rw[decide_eq_false c2]at q
     rw[decide_eq_false (show ¬ V.str k=V.str ""from fun y=>c2 (V.str.inj y))]
     exact q
   ·rw[decide_eq_false c]at q
    have e:decide (V.int (((ns.map V.str).length:Nat):Int)=V.int ((n:Nat):Int))=false:=decide_eq_false fun y=>c (by have:=V.int.inj y;rw[ua]at this;lia)
    rw[e]
    exact iteF q
end
end GN
namespace L2
open PySem PySem.Spec PyProof.Rows
section
variable{X:Cx}
def tFs1(a:Str)(t2:TE):TE:=fun σ H Q=>a.length<=sizeLine/\t2 σ H fun v2 H2=>∃i:Int,v2=.int i/\i.natAbs.log2 < 1920/\a.length+(Str.ofString (toString i)).length<=sizeLine/\Q (.str (Str.empty++a++Str.ofString (toString i))) H2
theorem zbd{a:Str}{e2:Expr}{t2:TE}{j}{p1 p4 pos:Pos}(h2:PE X e2 t2):
  PE X (.JoinedStr [.Constant (.str a) j p1,.FormattedValue e2 (-1) none p4] pos) (tFs1 a t2):=by
 intro pins s σ H Q I hq
 obtain⟨la,hq⟩:=hq
 have l0:Str.empty.length=0:=rfl
 refine wpAny_JoinedStr ?_
 refine Calls.Constant_str ⟨a,_,rfl,by rw[strLen_append];lia,?_⟩
 refine wpAny_FormattedValue_plain (thn (h2 pins _ σ H _ (I.tok _) hq) fun v s3 hv=>?_)
 obtain⟨u,H3,I3,r3,i,e3,li,lt,q3⟩:=hv
 subst e3
 obtain⟨t,rfl⟩:=r3
 refine wpAny_formatField_int li ⟨_,_,rfl,by rw[strLen_append,strLen_append];lia,by rw[strLen_append,strLen_append];lia,?_⟩
 exact⟨.str _,H3,(I3.tok _),⟨_,rfl⟩,q3⟩
theorem zbe{a:Str}{e2:Expr}{t2:TE}{j}{p1 p4 pos:Pos}(h2:jE X e2 t2):
  jE X (.JoinedStr [.Constant (.str a) j p1,.FormattedValue e2 (-1) none p4] pos) (tFs1 a t2):=⟨zbd h2.out⟩
end
end L2
namespace K11
open PySem PySem.Spec PyProof.Rows Builtin Builtin.Str NumText
theorem zbf(m:Nat):cl (Str.ofString (toString ((m:Nat):Int)))=(Nat.toDigits 10 m).map Char.toNat:=PySem.W.KIN.signs_num m
end K11
namespace GN
open PySem L2 K11
structure Tn(K:uc)(cT:Addr):Prop where
 cl:Cls K cT
 a1:NoAttr K cT "taken"
 a2:NoAttr K cT "many"
def LIMT:Nat:=2 ^ 60
def TO(cT dx td:Addr)(n:Nat):HO:=.ins cT dx [("taken",.ref td),("many",.int (n:Nat))]
structure TkA(cT:Addr)(H:Hp)(to dx td:Addr)(tk:List Str)(n:Nat):Prop where
 o:H to=some (TO cT dx td n)
 t:H td=some (.dK (ent tk))
theorem vB:∀(l acc:List Str)(x:Str),x∈once acc l↔x∈acc\/x∈l
 |[],acc,x=>by unfold once;simp
 |y::l,acc,x=>by
  unfold once
  rw[vB l]
  split
  ·rename_i h
   constructor
   ·rintro(a|a)
    ·exact .inl a
    ·exact .inr (.tail _ a)
   ·rintro(a|a)
    ·exact .inl a
    ·rcases um.mp a with rfl|a
     ·exact .inl h
     ·exact .inr a
  ·simp[or_assoc]
theorem pig:∀(l tk:List Str),l.Nodup->(∀x∈l,x∈tk)->l.length<=tk.length
 |[],tk,_,_=>uN _
 |x::l,tk,h,s=>by
  rw[uS]at h
  have hx:=s x (.head _)
  have ih:=pig l (tk.erase x) h.2 fun y hy=>(List.mem_erase_of_ne (fun e=>h.1 (by rw[<- e];exact hy))).mpr (s y (.tail _ hy))
  have:=List.length_erase_of_mem hx
  have:0 < tk.length:=List.length_pos_of_mem hx
  rw[uo]
  lia
theorem Vm(tk:List Str)(n:Nat):nxT tk n<=n+tk.length+1:=by
 obtain⟨h1,h2,h3⟩:=wF tk n
 have h:=pig ((Uw (nxT tk n-n-1)).map fun i=>tokS (n+1+i)) tk (by
  unfold List.Nodup
  rw[List.pairwise_map]
  exact List.nodup_range.imp fun{a b} hab e=>hab (by have:=xA e;lia)) fun x hx=>by
   obtain⟨i,hi,rfl⟩:=uG.mp hx
   rw[List.mem_range]at hi
   exact h3 _ (by lia) (by lia)
 rw[ua,List.length_range]at h
 lia
theorem XE{j:Nat}(h:j<=LIMT):((j:Nat):Int).natAbs.log2 < 1920/\(Str.ofString (toString ((j:Nat):Int))).length<=1000:=by
 unfold LIMT at h
 refine⟨?_,?_⟩
 ·rw[Int.natAbs_natCast]
  by_cases c:j=0
  ·rw[c];decide
  ·exact uC ((Nat.log2_lt c).mpr (UY h (by decide:(2:Nat) ^ 60 < 2 ^ 61))) (by decide)
 ·rw[<- xb,zbf,ua]
  exact uD ((Nat.length_toDigits_le_iff (k:=30) (by decide) (by decide)).mpr (UY h (by decide))) (by decide)
def YW(cT:Addr):Sp:=fun vs H Q _=>∃(to dx td:Addr)(tk:List Str)(n:Nat),vs=[.ref to]/\TkA cT H to dx td tk n/\n+1<=LIMT/\∀H',KM (·=to) H H'->TkA cT H' to dx td tk (n+1)->Q (.str (tokS (n+1))) H'
def Vn(cT:Addr):Sp:=fun vs H Q _=>∃(to dx td:Addr)(tk:List Str)(n:Nat),vs=[.ref to]/\TkA cT H to dx td tk n/\nxT tk n<=LIMT/\∀H',KM (·=to) H H'->TkA cT H' to dx td tk (nxT tk n)->Q (.str (tokS (nxT tk n))) H'
def YX(cT:Addr):Sp:=fun vs H Q _=>∃(to dx p:Addr)(ds:List Df),vs=[.ref to,.ref p]/\H to=some (.ins cT dx [])/\IsCode H ds p/\(∀d∈ds,d.ps.length<=1000/\d.b.sz<=1000000/\d.b.binds.length<=1000000)/\ds.length<=10/\∀H' td tk,KM (·=to) H H'->H td=none->TkA cT H' to dx td tk 0->tk.length<=11000000->(∀x,x∈tk↔∃d∈ds,x∈d.ps++d.b.binds)->Q .non H'
section
variable{P:Program}{w:World}{K:uc}{mg:Str->Option Value}{base:Heap}{f cT:Addr}{fd:FuncData}
theorem scNextT:FnScope ["self","many"] ["self"] (zo vm):=.ok
theorem Vo(F:Fun K "next_token" "Tokens.next_token" vm f fd)(N:Tn K cT):FnOk P w K mg base CX0 1 f fd ["self"] (YW cT):=by
 refine F.by scNextT (fun vs H Q E h=>?_) (fun cdv A outer s H vs Q E hr h=>?_)
 ·obtain⟨to,dx,td,tk,n,rfl,_⟩:=h
  rfl
 obtain⟨to,dx,td,tk,n,rfl,hT,hn,q⟩:=h
 refine⟨_,zg (wD (jv 0) (zu zN (yH (jv 0)) zn)) (zg (sE 1 scNextT.nd (yH (jv 0))) (zh (zp (zbe (jv 1))))),?_⟩
 have sl:=zK
 refine(ex2q rfl ⟨to,cT,dx,_,_,rfl,hT.o,N.cl,N.a2,rfl,(ex4q rfl rfl (ex2q rfl ⟨to,cT,dx,(ex2q rfl ⟨hT.o,N.cl,N.a2,by show 2 < 1000;decide,?_⟩)⟩))⟩)
 have e:(((n:Nat):Int)+1)=((n+1:Nat):Int):=by lia
 have pf:HO.ins cT dx (putF "many" (.int (((n:Nat):Int)+1)) [("taken",V.ref td),("many",V.int ((n:Nat):Int))])=TO cT dx td (n+1):=by rw[e];rfl
 rw[pf]
 have nd:td≠to:=xh hT.t hT.o (by intro z;cases z)
 have T1:TkA cT (upd H to (TO cT dx td (n+1))) to dx td tk (n+1):=⟨zf,by rw[zi nd];exact hT.t⟩
 have k1:KM (·=to) H (upd H to (TO cT dx td (n+1))):=fun b u nb e=>by rw[zi nb];exact e
 generalize upd H to (TO cT dx td (n+1))=H1 at *
 obtain⟨l1,l2⟩:=XE hn
 have l6:("place.":Str).length=6:=by decide +kernel
 refine(ex2q rfl ⟨to,cT,dx,_,_,rfl,T1.o,N.cl,N.a2,rfl,?_⟩)
 exact⟨by rw[l6];lia,(ex2q rfl (ex2q rfl ⟨l1,by rw[l6];lia,q _ k1 T1⟩))⟩
theorem scNewT:FnScope ["self","token"] ["self"] (zo jq):=.ok
theorem JU(F:Fun K "new_token" "Tokens.new_token" jq f fd)(N:Tn K cT)(GN':Me P w K mg base CX0 1 cT "next_token" ["self"] (YW cT)):FnOk P w K mg base CX0 2 f fd ["self"] (Vn cT):=by
 refine F.by scNewT (fun vs H Q E h=>?_) (fun cdv A outer s H vs Q E hr h=>?_)
 ·obtain⟨to,dx,td,tk,n,rfl,_⟩:=h
  rfl
 obtain⟨to,dx,td,tk,n,rfl,hT,hn,q⟩:=h
 refine⟨_,zg (sE 1 scNewT.nd (Z3 (jv 0) N.cl GN' hr xP)) (zg (xn PassesOwn.never (za6 hr (jv 1) (yH (jv 0))) (zh (sE 1 scNewT.nd (Z3 (jv 0) N.cl GN' hr xP)))) (zh (zp (jv 1)))),?_⟩
 have sl:=zK
 obtain⟨h1,h2,h3⟩:=wF tk n
 refine(ex2q rfl ⟨to,dx,(ex2q rfl ⟨hT.o,rfl,?_⟩)⟩)
 refine⟨to,dx,td,tk,n,rfl,hT,by lia,fun H1 k1 T1=>?_⟩
 refine⟨fun m σ H'=>∃j,m=nxT tk n-j/\σ=[some (.ref to),some (.str (tokS j))]/\n < j/\j<=nxT tk n/\KM (·=to) H H'/\TkA cT H' to dx td tk j,⟨_,n+1,rfl,rfl,by lia,by lia,k1,T1⟩,?_⟩
 rintro m σ H2 ⟨j,rfl,rfl,j1,j2,k2,T2⟩
 refine(ex2q rfl (ex2q rfl ⟨to,cT,dx,_,_,rfl,T2.o,N.cl,N.a1,rfl,td,(ex2q rfl ⟨DGet.k (k:=.inr (tokS j)) T2.t,(ex2q rfl ?_)⟩)⟩))
 rw[jN]
 by_cases c:j=nxT tk n
 ·rw[c,decide_eq_false h2]
  exact iteF (ex2q rfl (q _ k2 (c ▸ T2)))
 ·rw[decide_eq_true (h3 j j1 (by lia))]
  refine iteT ⟨_,fun _ _ h=>h,?_⟩
  refine(ex2q rfl ⟨to,dx,(ex2q rfl ⟨T2.o,rfl,to,dx,td,tk,j,rfl,T2,by lia,fun H3 k3 T3=>?_⟩)⟩)
  exact⟨_,by lia,j+1,rfl,rfl,by lia,by lia,k2.trans k3,T3⟩
theorem scTInit:FnScope ["self","code","one","name"] ["self","code"] (zo Z6):=.ok
theorem Vp(F:Fun K "__init__" "Tokens.__init__" Z6 f fd)(N:Tn K cT)(GB:Ca P w K mg base CX0 2 "bound" ["one"] YV):FnOk P w K mg base CX0 3 f fd ["self","code"] (YX cT):=by
 refine F.by scTInit (fun vs H Q E h=>?_) (fun cdv A outer s H vs Q E hr h=>?_)
 ·obtain⟨to,dx,p,ds,rfl,_⟩:=h
  rfl
 obtain⟨to,dx,p,ds,rfl,hto,⟨v,pd,os,h1,h2,h3⟩,hk,hl,q⟩:=h
 have hr1:Room 1 _:=hr.mono (by decide)
 refine⟨_,
  (zg (wD (jv 0) Zl)
  (zg (zM PassesOwn.never rfl (yn (xT 1)) (gN 2 scTInit.nd)
   (zh (zM PassesOwn.never rfl (ye (cA GB hr (jA1 (jv 2)))) (gN 3 scTInit.nd)
    (zh (YM hr1 (yH (jv 0)) (jv 3) zT)))))
  (zh (wD (jv 0) zn)))),?_⟩
 have sl:=zK
 intro td htd
 have ntd:td≠to:=fun e=>by rw[e,hto]at htd;cases htd
 refine(ex2q rfl ⟨to,cT,dx,(ex2q rfl ⟨old htd hto,N.cl,N.a1,by show 0 < 1000;decide,?_⟩)⟩)
 have e0:HO.ins cT dx (putF "taken" (.ref td) [])=.ins cT dx [("taken",.ref td)]:=rfl
 rw[e0]
 have k1:KM (·=to) H (upd (upd H td (.dK [])) to (.ins cT dx [("taken",.ref td)])):=fun b u nb e=>by rw[zi nb];exact old htd e
 have o1:=zf (H:=upd H td (.dK [])) (a:=to) (o:=.ins cT dx [("taken",.ref td)])
 have d1:upd (upd H td (.dK [])) to (.ins cT dx [("taken",.ref td)]) td=some (.dK (ent [])):=by rw[zi ntd,zf];rfl
 generalize upd (upd H td (.dK [])) to (.ins cT dx [("taken",.ref td)])=H1 at *
 have nto:∀{b:Addr}{xs:List V},H b=some (.tup xs)->b≠to:=fun e=>xh e hto (by intro z;cases z)
 have tp:∀{H':Hp},KM (·=to) H H'->Tups H H':=fun k b xs e=>k b _ (nto e) e
 refine(ex2q rfl (ixT (tp k1 _ _ h1) aI1 ⟨pd,rfl,⟨_,SqT.of (tp k1 _ _ h2)⟩,yt (xs:=os.map V.ref) (fun i σ H'=>∃(tk:List Str)(y z:Option V),σ=[some (.ref to),some (.ref p),y,z]/\KM (·=to) H H'/\H' to=some (.ins cT dx [("taken",.ref td)])/\H' td=some (.dK (ent tk))/\tk.length<=i*1001000/\∀x,x∈tk↔∃d∈ds.take i,x∈d.ps++d.b.binds) ⟨[],none,none,rfl,k1,o1,d1,uN _,fun x=>by simp⟩ (fun i σ H' _ h=>?_) ?_ ?_⟩))
 ·obtain⟨_,_,_,_,k,_⟩:=h
  exact SqT.of (tp k _ _ h2)
 ·rintro i v' σ H2 hv ⟨tk,y,z,rfl,k2,o2,d2,l2,m2⟩
  rw[ug]at hv
  obtain⟨o,ho,rfl⟩:=uj.mp hv
  have hi:i < ds.length:=by rw[h3.1];exact(uf.mp ho).1
  obtain⟨d,hd⟩:∃d,ds[i]?=some d:=⟨_,uq hi⟩
  obtain⟨b1,b2,b3⟩:=hk d (uw hd)
  have hI:=(h3.2 i d o hd ho).keep (tp k2)
  have im:(i+1)*1001000=i*1001000+1001000:=Nat.succ_mul _ _
  have i9:i*1001000<=9*1001000:=uU _ (by lia)
  refine(ex2q rfl ⟨o,d,rfl,hI,b1,b2,b3,fun H3 r s3 f3 e3=>?_⟩)
  have ol:=yV (d.ps++d.b.binds) []
  rw[ub,List.length_nil]at ol
  have om:∀x,x∈once [] (d.ps++d.b.binds)↔x∈d.ps++d.b.binds:=fun x=>by rw[vB];simp
  generalize once [] (d.ps++d.b.binds)=nm at *
  have k3:=k2.trans (KM.of s3)
  have nrt:r≠td:=(zk d2 f3).symm
  have nrto:r≠to:=(zk o2 f3).symm
  refine⟨r,rfl,⟨_,SqL.of e3⟩,yQ (xs:=nm.map V.str) (fun j σ H'=>∃z,σ=[some (.ref to),some (.ref p),some (.ref o),z]/\KM (·=to) H H'/\H' to=some (.ins cT dx [("taken",.ref td)])/\H' td=some (.dK (ent (once tk (nm.take j))))/\H' r=some (.lst (nm.map V.str))) (ex2q rfl ⟨k3,s3 _ _ o2,s3 _ _ d2,e3⟩) (fun j σ H' _ h=>let ⟨_,_,_,_,_,e⟩:=h;SqL.of e) ?_ ?_⟩
  ·rintro j v σ H4 hv ⟨z,rfl,k4,o4,d4,e4⟩
   rw[ug]at hv
   obtain⟨x,hx,rfl⟩:=uj.mp hv
   have hj:j < nm.length:=(uf.mp hx).1
   have ol2:=yV (nm.take j) tk
   rw[uM]at ol2
   refine(ex2q rfl ⟨to,cT,dx,_,_,rfl,o4,N.cl,N.a1,rfl,(ex2q rfl ⟨td,(ex2q rfl ⟨DPut.k (k:=.inr x) d4 (by unfold ent;rw[ua];lia),(ex2q rfl ⟨k4.put htd,by rw[zi ntd.symm];exact o4,?_,by rw[zi nrt];exact e4⟩)⟩)⟩)⟩)
   rw[zf,YU,<- ja hx]
  ·rintro σ H4 ⟨z,rfl,k4,o4,d4,e4⟩
   rw[ua,uz (ud _)]at d4
   have ol2:=yV nm tk
   refine⟨_,_,_,rfl,k4,o4,d4,by lia,fun x=>?_⟩
   rw[vB,m2 x,om x,uJ,hd]
   constructor
   ·rintro(⟨d',h1,h2⟩|h)
    ·exact⟨d',uk _ h1,h2⟩
    ·exact⟨d,by simp,h⟩
   ·rintro⟨d',h1,h2⟩
    rcases uv.mp h1 with h1|h1
    ·exact .inl ⟨d',h1,h2⟩
    ·have:d'=d:=by simpa using h1
     exact .inr (this ▸ h2)
 ·rintro σ H2 ⟨tk,y,z,rfl,k2,o2,d2,l2,m2⟩
  rw[ua,<- h3.1]at l2 m2
  rw[uz (ud _)]at m2
  refine(ex2q rfl ⟨to,cT,dx,(ex2q rfl ⟨o2,N.cl,N.a2,by show 1 < 1000;decide,?_⟩)⟩)
  have l10:ds.length*1001000<=10*1001000:=uU _ hl
  exact q _ td tk (fun b u nb e=>by rw[zi nb];exact k2 _ _ nb e) htd ⟨zf,by rw[zi ntd];exact d2⟩ (by lia) m2
end
def IsRW(H:Hp)(k:Str)(n:Nat)(b:Bd)(v:V):Prop:=∃q p,v=.ref q/\H q=some (.tup [.ref p,.bl (b.hasL n)])/\IsBd H (b.wy k n) p
theorem IsRW.keep{H H':Hp}{k:Str}{n:Nat}{b:Bd}{v:V}(h:IsRW H k n b v)(t:Tups H H'):IsRW H' k n b v:=let ⟨q,p,e,h1,h2⟩:=h;⟨q,p,e,t _ _ h1,h2.keep t⟩
def jQ:Sp:=fun vs H Q _=>∃(k:Str)(n:Nat)(p rl:Addr)(b:Bd)(rs:List V),vs=[.str k,.ref p,.ref rl]/\IsBd H b p/\b.sz<=1000000/\H rl=some (.lst rs)/\All2 (IsRW H k n) b.kd rs/\b.isL n=false/\∀H' r,Same H H'->IsRW H' k n b (.ref r)->Q (.ref r) H'
section
variable{P:Program}{w:World}{K:uc}{mg:Str->Option Value}{base:Heap}{f:Addr}{fd:FuncData}
theorem scJoin:FnScope ["token","body","results","within"] lS16 (zo js):=.ok
theorem Vq:(["token","body","results","within","result"]:List Str).Nodup:=by decide +kernel
theorem JV(F:Fun K "joined_ways" "joined_ways" js f fd)(GW:Ca P w K mg base CX0 1 "with_bodies" lS18 spWB)(m_any:mg "any"=none):FnOk P w K mg base CX0 2 f fd lS16 jQ:=by
 refine F.by scJoin (fun vs H Q E h=>?_) (fun cdv A outer s H vs Q E hr h=>?_)
 ·obtain⟨k,n,p,rl,b,rs,rfl,_⟩:=h
  rfl
 obtain⟨k,n,p,rl,b,rs,rfl,hb,hz,hrl,hrs,hL,q⟩:=h
 refine⟨_,
  (zg (zw (xH (zX (xk (wf rfl) rfl m_any PyProof.Rows.boot_any (jA1 (yM ["result"] rfl (ye (jv 2)) (fun _ _ _ _ _=>(gN 4 Vq)) (fun _ _ _ _ _=>zW) (fun _ _ _ _ _=>(yd (yN K) (jv 4) zn (fun _ _=>rfl))))))))
   (zh (zp (zt (jA2 (jv 1) zT)))) zr)
  (zg (yg ["result"] (i:=3) scJoin.nd rfl (Or.inl rfl) rfl (ye (jv 2)) (fun _ _ _ _ _=>(gN 4 Vq)) (fun _ _ _ _ _=>zW) (fun _ _ _ _ _=>(Wn (zX (yd (yN K) (jv 4) zn (fun _ _=>rfl))) (yd (yN K) (jv 4) zn (fun _ _=>rfl)) (zt (jA3 zq (jv 0) (yd (yN K) (jv 4) zn (fun _ _=>rfl)))))))
  (zh (zp (zt (jA2 (cA GW hr (jA2 (jv 1) (jv 3))) zT)))))),?_⟩
 have sl:=zK
 have rl1:=All2.len hrs
 have kl:=Vi b
 have hasE:b.hasL n=b.kd.any fun c=>c.hasL n:=by rw[JP,hL,uV]
 refine(ex2q rfl ⟨rl,rfl,⟨_,SqL.of hrl⟩,yL (xs:=rs) (fun j τ ys H'=>H=H'/\(∃v,τ=[some (.str k),some (.ref p),some (.ref rl),none,v])/\ys=((b.kd.take j).map fun c=>c.hasL n).map V.bl) ⟨rfl,⟨none,rfl⟩,rfl⟩ (fun j τ ys H' _ h=>SqL.of (h.1 ▸ hrl)) ?_ ?_⟩)
 ·rintro j v τ ys H1 hv ⟨rfl,⟨v',rfl⟩,rfl⟩
  obtain⟨c,hc,q1,p1,rfl,h1,h2⟩:=All2.get hrs hv
  have hj:=(uf.mp hc).1
  refine(ex2q rfl (ixT h1 aI1 ⟨by rw[ua,ua,uM];lia,rfl,⟨_,rfl⟩,?_⟩))
  rw[uJ,hc]
  simp
 rintro τ ys H1 ⟨rfl,_,rfl⟩ l1 f1
 rw[<- rl1,uz (ud _)]
 have s1:=zj f1 (.lst ((b.kd.map fun c=>c.hasL n).map V.bl))
 refine⟨l1,b.kd.map fun c=>c.hasL n,rfl,SqL.of zf,(ex2q rfl ?_)⟩
 have ea:(b.kd.map fun c=>c.hasL n).any _root_.id=b.hasL n:=by rw[hasE,List.any_map];rfl
 rw[ea]
 generalize upd H l1 (.lst ((b.kd.map fun c=>c.hasL n).map V.bl))=H1 at *
 cases hh:b.hasL n with
 |false =>
  refine iteT (ex2q rfl ⟨sN2,fun r fr=>?_⟩)
  have s2:=s1.new (o:=.tup [.ref p,.bl false]) fr
  exact q _ r s2 ⟨r,p,rfl,by rw[hh];exact zf,by rw[Bd.wy_id hh];exact hb.keep (.of s2)⟩
 |true =>
  refine iteF (nxtC ?_)
  have hrl1:=s1 _ _ hrl
  have hrs1:All2 (IsRW H1 k n) b.kd rs:=hrs.imp fun _ _ z=>z.keep (.of s1)
  refine(ex2q rfl ⟨rl,rfl,⟨_,SqL.of hrl1⟩,yL (xs:=rs) (fun j τ ys H'=>Same H1 H'/\(∃v,τ=[some (.str k),some (.ref p),some (.ref rl),none,v])/\∃us:List Addr,ys=us.map V.ref/\IsBs H' ((b.kd.take j).map fun c=>if c.hasL n then c.wy k n else .loose k c) us) ⟨Same.refl _,⟨none,rfl⟩,[],rfl,.nil⟩ (fun j τ ys H' _ h=>SqL.of (h.1 _ _ hrl1)) ?_ ?_⟩)
  ·rintro j v τ ys H2 hv ⟨s2,⟨v',rfl⟩,us,rfl,hu⟩
   obtain⟨c,hc,hW⟩:=All2.get hrs1 hv
   obtain⟨q1,p1,rfl,h1,h2⟩:=hW.keep (.of s2)
   have hj:=(uf.mp hc).1
   have ul:=All2.len hu
   rw[ua,uM]at ul
   have ea:((b.kd.take (j+1)).map fun c=>if c.hasL n then c.wy k n else .loose k c)=((b.kd.take j).map fun c=>if c.hasL n then c.wy k n else .loose k c)++[if c.hasL n then c.wy k n else .loose k c]:=by rw[uJ,hc];simp
   refine(ex2q rfl (ixT h1 aI1 (ex2q rfl ?_)))
   rw[ea]
   cases hc2:c.hasL n with
   |true =>
    refine iteT (ex2q rfl (ixT h1 aI0 ⟨by rw[ua];lia,s2,⟨_,rfl⟩,us++[p1],by rw[ui];rfl,?_⟩))
    rw[if_pos rfl]
    exact All2.app hu (.cons h2 .nil)
   |false =>
    refine iteF (ex2q rfl (ex2q rfl (ixT h1 aI0 ⟨sN3,fun r fr=>⟨by rw[ua];lia,s2.new fr,⟨_,rfl⟩,us++[r],by rw[ui];rfl,?_⟩⟩)))
    rw[if_neg (by decide)]
    rw[Bd.wy_id hc2]at h2
    have t3:=Tups.of (zj fr (.tup [.str "loose",.str k,.ref p1]))
    exact All2.app (IsBs.keep hu t3) (.cons ⟨p1,zf,h2.keep t3⟩ .nil)
  rintro τ ys H2 ⟨s2,_,us,rfl,hu⟩ l2 f2
  rw[<- rl1,uz (ud _)]at hu
  have s3:=s2.new (o:=.lst (us.map V.ref)) f2
  have s13:=s1.trans s3
  refine(ex2q rfl (ex2q rfl ⟨p,l2,b,us,(ex2q rfl ⟨hb.keep (.of s13),hz,zf,IsBs.keep hu (.of (zj f2 _)),by rw[ua],fun H3 r s4 hr3=>⟨sN2,fun r2 fr=>?_⟩⟩)⟩))
  refine q _ r2 ((s13.trans s4).new fr) ⟨r2,r,rfl,by rw[hh];exact zf,?_⟩
  have e:=JQ (k:=k) hL
  unfold Vc at e
  rw[if_pos hh]at e
  rw[e]
  exact hr3.keep (.of (zj fr _))
end
theorem YY{H:Hp}{cl:List (Str×Addr)}{fvs:List V}(nd:(cl.map (·.1)).Nodup)(na:(cl.map (·.2)).Nodup)(hl:fvs.length=cl.length)(h:∀(i:Nat)(p:Str×Addr)(v:V),cl[i]?=some p->fvs[i]?=some v->Cel H p.2 v):Clo H cl (cl.map (·.1)) fvs:=by
 have lk:∀{l:List (Str×Addr)}{x:Str}{a:Addr},(l.map (·.1)).Nodup->(x,a)∈l->l.lookup x=some a:=by
  intro l x a
  induction l with
  |nil=>intro _ h;cases h
  |cons p l ih =>
   intro n h
   rw[uu,uS]at n
   obtain⟨y,c⟩:=p
   rcases um.mp h with e|h
   ·cases e
    rw[Ug]
    simp
   ·have ne:(x == y)=false:=by
     rw[beq_eq_false_iff_ne]
     intro e
     exact n.1 (uG.mpr ⟨_,h,e⟩)
    rw[Ug,ne]
    exact ih n.2 h
 have ml:∀{l:List (Str×Addr)}{x:Str}{a:Addr},l.lookup x=some a->(x,a)∈l:=fun e=>u0 e
 refine⟨by rw[ua];exact hl,fun p hp=>?_,fun i x v e1 e2=>?_,fun x hx=>?_,fun x y a e1 e2=>?_⟩
 ·obtain⟨i,hi⟩:=List.mem_iff_getElem?.mp hp
  have:i < fvs.length:=by rw[hl];exact(uf.mp hi).1
  exact⟨_,h i p _ hi (uq this)⟩
 ·rw[ug]at e1
  obtain⟨p,hp,rfl⟩:=uj.mp e1
  exact⟨p.2,lk nd (uw hp),h i p v hp e2⟩
 ·obtain⟨p,hp,rfl⟩:=uG.mp hx
  exact⟨p.2,lk nd hp⟩
 ·have m1:=ml e1
  have m2:=ml e2
  have aux:∀{l:List (Str×Addr)},(l.map (·.2)).Nodup->(x,a)∈l->(y,a)∈l->x=y:=by
   intro l
   induction l with
   |nil=>intro _ h;cases h
   |cons p l ih =>
    intro n h1 h2
    rw[uu,uS]at n
    rcases um.mp h1 with e1|h1<;>rcases um.mp h2 with e2|h2
    ·rw[<- e1]at e2;exact(Prod.mk.inj e2).1.symm
    ·exact absurd (uG.mpr ⟨_,h2,by rw[<- e1]⟩) n.1
    ·exact absurd (uG.mpr ⟨_,h1,by rw[<- e2]⟩) n.1
    ·exact ih n.2 h1 h2
  exact aux na m1 m2
theorem Pub.same{H H3:Hp}{cvs:List (Addr×V)}(h:Pub H H3 cvs):Same H H3:=fun b u e=>by
 rw[h.old b]
 ·exact e
 ·intro z
  obtain⟨p,hp,rfl⟩:=uG.mp z
  rw[h.non p hp]at e;cases e
theorem yr{H:Hp}{as:List Addr}(hc:∀a∈as,∃v,Cel H a v):Tups H (zY H as):=fun p xs e=>zS hc e (by intro _ _ _ z;cases z)
theorem yW{H H':Hp}{as:List Addr}(s:Same (zY H as) H'):Same H (yT H' H as):=fun b u e=>by
 by_cases z:b∈as
 ·rw[x0 z];exact e
 ·rw[yo z];exact s b u (by rw[zU z];exact e)
theorem yX{H H':Hp}{as:List Addr}{b:Addr}{u:HO}(hn:∀a∈as,H' a=none)(e:H' b=some u):yT H' H as b=some u:=by
 rw[yo]
 ·exact e
 ·intro z;rw[hn b z]at e;cases e
def Zq:Expr->Expr
 |.Tuple [_,l] _ _=>l
 |.Call _ [_,l] _ _=>l
 |e=>e
def lmP:Expr->Arguments
 |.Lambda a _ _ _=>a
 |_=>z0 yI
def lmB:Expr->Expr
 |.Lambda _ b _ _=>b
 |e=>e
def lmS:Expr->Scope
 |.Lambda _ _ s _=>s
 |_=>zo yI
def xD:Expr->Pos
 |.Lambda _ _ _ p=>p
 |_=>⟨0,0,0,0⟩
def wn:Expr:=match zF yI with
 |[.If _ [_,.Return (some e) _] _ _,_]=>Zq e
 |_=>.Constant .none 0 ⟨0,0,0,0⟩
def wo:Expr:=match zF yI with
 |[_,.Return (some e) _]=>Zq e
 |_=>.Constant .none 0 ⟨0,0,0,0⟩
def xE:Str:=("begun_ways":Str)++(".<locals>.":Str)++("<lambda>":Str)
def ls4:List (Pos×Str):=[(xD wn,xE),(xD wo,xE)]
def cl4(c1 c2:Addr):List (Str×Addr):=[("deed",c2),("body",c1)]
def cl5(c1 c2:Addr):List (Str×Addr):=[("token",c1),("body",c2)]
abbrev vC(mg:Str->Option Value)(c1 c2 c:Addr)(ct:Value):FuncData:=lamC mg xE (lmP wn) (lmB wn) (lmS wn) (cl4 c1 c2) c ct
abbrev vD(mg:Str->Option Value)(c1 c2 c:Addr)(ct:Value):FuncData:=lamC mg xE (lmP wo) (lmB wo) (lmS wo) (cl5 c1 c2) c ct
theorem zbg:LamScope ["results","deed","body"] ["results"] ["deed","body"] (lmS wn):=⟨rfl,rfl,rfl,by decide +kernel,rfl,by decide +kernel,by decide +kernel,by decide +kernel,by decide +kernel⟩
theorem zbh:LamScope ["results","token","body"] ["results"] ["token","body"] (lmS wo):=⟨rfl,rfl,rfl,by decide +kernel,rfl,by decide +kernel,by decide +kernel,by decide +kernel,by decide +kernel⟩
theorem clo2{H:Hp}{x y:Str}{c1 c2:Addr}{v1 v2:V}(hxy:x≠y)(h1:Cel H c1 v1)(h2:Cel H c2 v2)(n:c1≠c2):Clo H [(x,c1),(y,c2)] [x,y] [v1,v2] :=
 YY (cl:=[(x,c1),(y,c2)]) (by simp[hxy]) (by simp[n]) rfl fun i p v e1 e2=>by
  match i,e1,e2 with
  |0,e1,e2=>cases e1;cases e2;exact h1
  |1,e1,e2=>cases e1;cases e2;exact h2
  |i+2,e1,_=>simp at e1
def Clo4(mg:Str->Option Value)(H:Hp)(k:Str)(b:Bd)(f:Addr):Prop:=∃c1 c2 c ct p pd x d b',b=.lt x d b'/\H f=some (FunO f (vC mg c1 c2 c ct))/\H c=some (CodO c xE)/\Cel H c1 (.ref p)/\Cel H c2 (.ref pd)/\c1≠c2/\IsBd H b p/\IsDd H (setT k d) pd
def Clo5(mg:Str->Option Value)(H:Hp)(k:Str)(b:Bd)(f:Addr):Prop:=∃c1 c2 c ct p,H f=some (FunO f (vD mg c1 c2 c ct))/\H c=some (CodO c xE)/\Cel H c1 (.str k)/\Cel H c2 (.ref p)/\c1≠c2/\IsBd H b p
def KN(H H':Hp):Prop:=∀b u,H b=some u->(∀ps,u≠.tbl ps)->(∀xs,u≠.lst xs)->(∀C dx fs,u≠.ins C dx fs)->H' b=some u
theorem KN.tups{H H':Hp}(h:KN H H'):Tups H H':=fun b xs e=>h b _ e (by intro _ z;cases z) (by intro _ z;cases z) (by intro _ _ _ z;cases z)
theorem KN.fun{H H':Hp}(h:KN H H'){f:Addr}{fd:FuncData}(e:H f=some (FunO f fd)):H' f=some (FunO f fd):=h _ _ e (by intro _ z;unfold FunO at z;cases z) (by intro _ z;unfold FunO at z;cases z) (by intro _ _ _ z;unfold FunO at z;cases z)
theorem KN.cod{H H':Hp}(h:KN H H'){c:Addr}{q:Str}(e:H c=some (CodO c q)):H' c=some (CodO c q):=h _ _ e (by intro _ z;unfold CodO at z;cases z) (by intro _ z;unfold CodO at z;cases z) (by intro _ _ _ z;unfold CodO at z;cases z)
theorem KN.cel{H H':Hp}(h:KN H H'){c:Addr}{v:V}(e:Cel H c v):Cel H' c v:=let ⟨o,e⟩:=e;⟨o,h _ _ e (by intro _ z;cases z) (by intro _ z;cases z) (by intro _ _ _ z;cases z)⟩
theorem KN.of{H H':Hp}(s:Same H H'):KN H H':=fun b u e _ _ _=>s b u e
theorem Clo4.keep{mg:Str->Option Value}{H H':Hp}{k:Str}{b:Bd}{f:Addr}(h:Clo4 mg H k b f)(s:KN H H'):Clo4 mg H' k b f:=by
 obtain⟨c1,c2,c,ct,p,pd,x,d,b',e,h1,h2,h3,h4,n,h5,h6⟩:=h
 exact⟨c1,c2,c,ct,p,pd,x,d,b',e,s.fun h1,s.cod h2,s.cel h3,s.cel h4,n,h5.keep s.tups,h6.keep s.tups⟩
theorem Clo5.keep{mg:Str->Option Value}{H H':Hp}{k:Str}{b:Bd}{f:Addr}(h:Clo5 mg H k b f)(s:KN H H'):Clo5 mg H' k b f:=by
 obtain⟨c1,c2,c,ct,p,h1,h2,h3,h4,n,h5⟩:=h
 exact⟨c1,c2,c,ct,p,s.fun h1,s.cod h2,s.cel h3,s.cel h4,n,h5.keep s.tups⟩
def zbi(mg:Str->Option Value)(f:Addr)(fd:FuncData):Sp:=fun vs H Q _=>∃(rl c1 c2 c p pd:Addr)(ct:Value)(k:Str)(n:Nat)(x:Str)(d:Dd)(b:Bd),vs=[.ref rl]/\fd=vC mg c1 c2 c ct/\H f=some (FunO f fd)/\H c=some (CodO c xE)/\Cel H c1 (.ref p)/\Cel H c2 (.ref pd)/\c1≠c2/\IsBd H (.lt x d b) p/\IsDd H (setT k d) pd/\isLD n d=true/\∀H' r,Same H H'->IsRW H' k n (.lt x d b) (.ref r)->Q (.ref r) H'
def zbj(mg:Str->Option Value)(f:Addr)(fd:FuncData):Sp:=fun vs H Q _=>∃(rl c1 c2 c p:Addr)(ct:Value)(k:Str)(n:Nat)(b:Bd)(rs:List V),vs=[.ref rl]/\fd=vD mg c1 c2 c ct/\H f=some (FunO f fd)/\H c=some (CodO c xE)/\Cel H c1 (.str k)/\Cel H c2 (.ref p)/\c1≠c2/\IsBd H b p/\b.sz<=1000000/\H rl=some (.lst rs)/\All2 (IsRW H k n) b.kd rs/\b.isL n=false/\∀H' r,Same H H'->IsRW H' k n b (.ref r)->Q (.ref r) H'
section
variable{P:Program}{w:World}{K:uc}{mg:Str->Option Value}{base:Heap}
theorem JW(f c1 c2 c:Addr)(ct:Value):FnOk P w K mg base CX0 4 f (vC mg c1 c2 c ct) ["results"] (zbi mg f (vC mg c1 c2 c ct)):=by
 refine wc (k:=3) zbg (fun vs H Q E h=>?_) (fun A outer s H vs Q E hr h=>?_)
 ·obtain⟨rl,_,_,_,_,_,_,_,_,_,_,_,rfl,_⟩:=h
  rfl
 ·obtain⟨rl,d1,d2,d0,p,pd,ct',k,n,x,d,b,rfl,efd,hf,hc,h1,h2,n1,hb,hd,hL,q⟩:=h
  have ecl:cl4 c1 c2=cl4 d1 d2:=congrArg FuncData.closure efd
  have ec:Value.ref c=Value.ref d0:=congrArg FuncData.code efd
  cases ec
  have e2:c2=d2:=by injection ecl with a b;exact(Prod.mk.inj a).2
  have e1:c1=d1:=by injection ecl with a b;injection b with a b;exact(Prod.mk.inj a).2
  subst e1;subst e2
  have C:=clo2 (x:="deed") (y:="body") (by decide) h2 h1 n1.symm
  refine⟨hf,hc,_,C,?_⟩
  have hcA:∀a∈(cl4 c1 c2).map (·.2),∃v,Cel H a v:=fun a ha=>by
   obtain⟨p,hp,rfl⟩:=uG.mp ha
   exact C.all p hp
  have tp:=yr hcA
  refine⟨_,(zt (jA2 (zu xa (yk xc (jv 2) yz (yA zn)) (zt (jA2 (jv 1) (xT 2)))) zT)),?_⟩
  obtain⟨p1,p2,hp,hd0,hb'⟩:=hb
  have hpm:=tp _ _ hp
  refine(ex2q rfl ⟨2,rfl,p,(ex2q rfl ⟨hpm,fun p3 H1 s1 h3=>(ex2q rfl (ex2q rfl (ixT (s1 _ _ hpm) aI3 ⟨sN2,fun t4 f4=>?_⟩)))⟩)⟩)
  refine⟨p3,t4,[.str "let",.str x],(ex2q rfl ⟨rfl,SqT.of (old f4 h3),SqT.of zf,(by intro z;cases z),sN4,(fun e=>by simp at e),fun _ r fr=>⟨sN2,fun r2 fr2 hnn=>?_⟩⟩)⟩
  have s2:Same (zY H ((cl4 c1 c2).map (·.2))) (upd (upd (upd H1 t4 (.tup [.ref pd,.ref p2])) r (.tup ([.str "let",.str x]++[.ref pd,.ref p2]))) r2 (.tup [.ref r,.bl true])):=(((show Same _ H1 from s1).new f4).new fr).new fr2
  refine q _ r2 (yW s2) ⟨r2,r,rfl,?_,?_⟩
  ·have e:(Bd.lt x d b).hasL n=true:=by rw[Bd.hasL,hL];rfl
   rw[e]
   exact yX hnn zf
  ·rw[Bd.wy,if_pos hL]
   exact⟨pd,p2,yX hnn (old fr2 zf),hd.keep (.of (yW s2)),hb'.keep (.of (yW s2))⟩
theorem JX(c1 c2 c:Addr)(ct:Value):Binds K (vC mg c1 c2 c ct) ["results"] []:=.all (us1 fun _=>rfl)
theorem JY(GJ:Ca P w K mg base CX0 2 "joined_ways" lS16 jQ)(f c1 c2 c:Addr)(ct:Value):FnOk P w K mg base CX0 3 f (vD mg c1 c2 c ct) ["results"] (zbj mg f (vD mg c1 c2 c ct)):=by
 refine wc (k:=2) zbh (fun vs H Q E h=>?_) (fun A outer s H vs Q E hr h=>?_)
 ·obtain⟨rl,_,_,_,_,_,_,_,_,_,rfl,_⟩:=h
  rfl
 ·obtain⟨rl,d1,d2,d0,p,ct',k,n,b,rs,rfl,efd,hf,hc,h1,h2,n1,hb,hz,hrl,hrs,hL,q⟩:=h
  have ecl:cl5 c1 c2=cl5 d1 d2:=congrArg FuncData.closure efd
  have ec:Value.ref c=Value.ref d0:=congrArg FuncData.code efd
  cases ec
  have e1:c1=d1:=by injection ecl with a b;exact(Prod.mk.inj a).2
  have e2:c2=d2:=by injection ecl with a b;injection b with a b;exact(Prod.mk.inj a).2
  subst e1;subst e2
  have C:=clo2 (x:="token") (y:="body") (by decide) h1 h2 n1
  refine⟨hf,hc,_,C,?_⟩
  have hcA:∀a∈(cl5 c1 c2).map (·.2),∃v,Cel H a v:=fun a ha=>by
   obtain⟨p,hp,rfl⟩:=uG.mp ha
   exact C.all p hp
  have tp:=yr hcA
  refine⟨_,(cA GJ hr (jA3 (jv 1) (jv 2) (jv 0))),?_⟩
  refine(ex2q rfl (ex2q rfl (ex2q rfl ⟨k,n,p,rl,b,rs,rfl,hb.keep tp,hz,zS hcA hrl (by intro _ _ _ z;cases z),hrs.imp fun _ _ z=>z.keep tp,hL,fun H' r s1 h1 hnn=>?_⟩)))
  refine q _ r (yW s1) ?_
  obtain⟨q1,p1,e,g1,g2⟩:=h1
  cases e
  have sp:Same H' (yT H' H ((cl5 c1 c2).map (·.2))):=fun b u e=>yX hnn e
  exact⟨r,p1,rfl,sp _ _ g1,g2.keep (.of sp)⟩
theorem JZ(c1 c2 c:Addr)(ct:Value):Binds K (vD mg c1 c2 c ct) ["results"] []:=.all (us1 fun _=>rfl)
end
end GN
namespace L2
open PySem
theorem TbG.same{T:Addr}{ls:List (Pos×Str)}{H H':Hp}(h:TbG T ls H)(s:Same H H'):TbG T ls H':=h.keep (fun ps e=>s _ _ e) fun c q e=>s _ _ e
theorem TbG.no{T:Addr}{ls:List (Pos×Str)}{H:Hp}(h:TbG T ls H){b:Addr}{u:HO}(e:H b=some u)(n:∀ps,u≠.tbl ps):b≠T:=fun z=>by
 obtain⟨ps,h,_⟩:=h
 rw[z,h]at e
 exact n _ (u9.inj e).symm
end L2
namespace GN
open PySem L2 K11
def IsKv(H:Hp)(l:List Bd)(vs:List V):Prop:=All2 (fun b v=>∃p,v=.ref p/\IsBd H b p) l vs
theorem IsKv.keep{H H':Hp}{l:List Bd}{vs:List V}(h:IsKv H l vs)(t:Tups H H'):IsKv H' l vs:=All2.imp h fun _ _ ⟨p,e,z⟩=>⟨p,e,z.keep t⟩
theorem IsBs.kv{H:Hp}{l:List Bd}{ps:List Addr}(h:IsBs H l ps):IsKv H l (ps.map V.ref):=by
 induction h with
 |nil=>exact .nil
 |cons a _ ih=>exact .cons (ex2q rfl (a)) ih
theorem IsKv.bs{H:Hp}:∀{l:List Bd}{vs:List V},IsKv H l vs->∃ps:List Addr,vs=ps.map V.ref/\IsBs H l ps
 |_,_,.nil=>⟨[],rfl,.nil⟩
 |_,_,.cons ⟨p,e,z⟩ r=>let ⟨ps,e2,h⟩:=IsKv.bs r;⟨p::ps,by rw[e,e2];rfl,.cons z h⟩
def wyK(n:Nat)(b:Bd):List Bd:=if b.isL n then[]else b.kd
def FinW(mg:Str->Option Value)(H:Hp)(k:Str)(n:Nat)(b:Bd)(f:Addr):Prop:=(b.isL n=true/\Clo4 mg H k b f)\/(b.isL n=false/\Clo5 mg H k b f)
theorem FinW.keep{mg:Str->Option Value}{H H':Hp}{k:Str}{n:Nat}{b:Bd}{f:Addr}(h:FinW mg H k n b f)(s:KN H H'):FinW mg H' k n b f:=h.imp (fun⟨a,c⟩=>⟨a,c.keep s⟩) fun⟨a,c⟩=>⟨a,c.keep s⟩
def PsW(mg:Str->Option Value)(T:Addr)(k:Str)(n:Nat)(b:Bd)(H:Hp)(Q:VK):Prop:=∀H' q l fl vs,KM (·=T) H H'->TbG T ls4 H'->H' q=some (.tup [.ref l,.ref fl])->H l=none->H' l=some (.lst vs)->IsKv H' (wyK n b) vs->FinW mg H' k n b fl->Q (.ref q) H'
def jU(mg:Str->Option Value)(T:Addr):Sp:=fun vs H Q _=>∃(k:Str)(n:Nat)(p:Addr)(b:Bd),vs=[.str k,.int (n:Nat),.ref p]/\IsBd H b p/\b.sz<=1000000/\TbG T ls4 H/\PsW mg T k n b H Q
section
variable{P:Program}{w:World}{K:uc}{mg:Str->Option Value}{base:Heap}{f:Addr}{fd:FuncData}
theorem scBegW:FnScope ["token","many","body","deed"] lS17 (zo yI):=.ok
theorem J0{c T:Addr}(F:FunC K "begun_ways" yI c f fd)(hB:BMn mg base)(hc:Uh K c T=true)(GL:Ca P w K mg base CX0 1 "is_left" lS22 Vl)(GW:Ca P w K mg base CX0 2 "bodies_within" ["body"] spBW):FnOk P w K mg base CX0 3 f fd lS17 (jU mg T):=by
 refine F.byR scBegW (fun vs H Q E h=>?_) (fun A outer s H vs Q E hr h fresh=>?_)
 ·obtain⟨k,n,p,b,rfl,_⟩:=h
  rfl
 obtain⟨k,n,p,b,rfl,hb,hz,hT,q⟩:=h
 have hr1:Room 1 _:=hr.mono (by decide)
 refine⟨_,
  (QM (zX (cA GL hr1 (jA2 (jv 2) (jv 1))))
   (jB (sE 3 scBegW.nd (zu xa (yk xc (xT 2) yz (yA zn)) (zt (jA1 (jv 0)))))
   (Yd (zt (jA2 (zy zD) (x9 (params:=lmP wn) (body:=lmB wn) (scope:=lmS wn) (pos:=xD wn) (T:=T) (qual:=xE) (cl:=cl4 (s.heap.objs.size+2) (s.heap.objs.size+3)) hB rfl hc rfl)))))
  (Yd (zt (jA2 (cA GW hr (jA1 (jv 2))) (x9 (params:=lmP wo) (body:=lmB wo) (scope:=lmS wo) (pos:=xD wo) (T:=T) (qual:=xE) (cl:=cl5 (s.heap.objs.size+1) (s.heap.objs.size+2)) hB rfl hc rfl))))),?_⟩
 have sl:=zK
 refine(ex2q rfl (ex2q rfl ⟨p,b,n,rfl,hb,(ex2q rfl ?_)⟩))
 cases hL:b.isL n with
 |true =>
  refine iteT ?_
  cases b with
  |lt x d b =>
   cases d with
   |mk t ns k0 =>
    obtain⟨p1,p2,hp,⟨q1,h1,h2⟩,hb'⟩:=id hb
    refine(ex2q rfl (ixT hp aI2 ⟨3,rfl,p1,(ex2q rfl ⟨h1,fun p3 H1 s1 h3=>(ex2q rfl ⟨sN1,fun t4 f4=>?_⟩)⟩)⟩))
    refine⟨p3,t4,[.str "make",.str t,.ref q1],(ex2q rfl ⟨rfl,SqT.of (old f4 h3),SqT.of zf,(by intro z;cases z),sN4,(fun e=>by simp at e),fun _ pd fd'=>?_⟩)⟩
    have s2:Same H (upd (upd H1 t4 (.tup [.str k])) pd (.tup ([.str "make",.str t,.ref q1]++[.str k]))):=((show Same H H1 from s1).new f4).new fd'
    have hd2:IsDd (upd (upd H1 t4 (.tup [.str k])) pd (.tup ([.str "make",.str t,.ref q1]++[.str k]))) (.mk t ns k) pd:=⟨q1,zf,s2 _ _ h2⟩
    dsimp only
    generalize upd (upd H1 t4 (.tup [.str k])) pd (.tup ([.str "make",.str t,.ref q1]++[.str k]))=H2 at *
    refine⟨sN0,fun l fl=>?_⟩
    have s3:=s2.new (o:=.lst []) fl
    have f0:H l=none:=s2.free fl
    have hd3:=hd2.keep (.of (zj fl (.lst [])))
    have el:=zf (H:=H2) (a:=l) (o:=.lst [])
    generalize upd H2 l (.lst [])=H3 at *
    refine yU (hT.same s3) (by unfold ls4;exact .head _) (fun p hp _=>by unfold ls4 at hp;simp at hp;rcases hp with rfl|rfl<;>rfl) fun H4 fl4 cc ct k4 T4 hfl nfT ncT hfl4 hcc=>?_
    refine⟨sN2,fun r fr=>?_⟩
    have no3:∀{b:Addr}{u:HO},H3 b=some u->(∀ps,u≠.tbl ps)->b≠T:=fun e n=>(hT.same s3).no e n
    have k5:KM (·=T) H3 (upd H4 r (.tup [.ref l,.ref fl4])):=fun b u n e=>old fr (k4 b u n e)
    have t5:Tups H3 (upd H4 r (.tup [.ref l,.ref fl4])):=fun b xs e=>k5 b _ (no3 e (by intro _ z;cases z)) e
    have T5:=T4.same (zj fr (.tup [.ref l,.ref fl4]))
    have hr5:=zf (H:=H4) (a:=r) (o:=.tup [.ref l,.ref fl4])
    have el5:=k5 _ _ (no3 el (by intro _ z;cases z)) el
    have hf5:=old (o:=.tup [.ref l,.ref fl4]) fr hfl4
    have hc5:=old (o:=.tup [.ref l,.ref fl4]) fr hcc
    generalize upd H4 r (.tup [.ref l,.ref fl4])=H5 at *
    refine⟨[(s.heap.objs.size+2,.ref p),(s.heap.objs.size+3,.ref pd)],fun x hx=>?_,fun H6 pb=>?_⟩
    ·simp only[um,Uc,or_false]at hx
     rcases hx with rfl|rfl
     ·exact⟨2,"body",rfl,rfl,rfl,.inl rfl⟩
     ·exact⟨3,"deed",rfl,rfl,rfl,.inl rfl⟩
    have s6:=Pub.same pb
    refine q H6 r l fl4 [] ((KM.of s3).trans (k5.trans (.of s6))) (T5.same s6) (s6 _ _ hr5) f0 (s6 _ _ el5) (by unfold wyK;rw[if_pos hL];exact .nil) (.inl ⟨hL,?_⟩)
    exact⟨_,_,cc,ct,p,pd,x,_,b,rfl,s6 _ _ hf5,s6 _ _ hc5,pb.cel (_,_) (.head _),pb.cel (_,_) (.tail _ (.head _)),by simp,((hb.keep (.of s3)).keep t5).keep (.of s6),(hd3.keep t5).keep (.of s6)⟩
   |_=>cases hL
  |_=>cases hL
 |false =>
  refine iteF ?_
  refine(ex2q rfl ⟨p,b,rfl,hb,hz,fun H3 l ps s3 f0 el hk=>?_⟩)
  refine yU (hT.same s3) (by unfold ls4;exact .tail _ (.head _)) (fun p hp _=>by unfold ls4 at hp;simp at hp;rcases hp with rfl|rfl<;>rfl) fun H4 fl4 cc ct k4 T4 hfl nfT ncT hfl4 hcc=>?_
  refine⟨sN2,fun r fr=>?_⟩
  have no3:∀{b:Addr}{u:HO},H3 b=some u->(∀ps,u≠.tbl ps)->b≠T:=fun e n=>(hT.same s3).no e n
  have k5:KM (·=T) H3 (upd H4 r (.tup [.ref l,.ref fl4])):=fun b u n e=>old fr (k4 b u n e)
  have t5:Tups H3 (upd H4 r (.tup [.ref l,.ref fl4])):=fun b xs e=>k5 b _ (no3 e (by intro _ z;cases z)) e
  have T5:=T4.same (zj fr (.tup [.ref l,.ref fl4]))
  have hr5:=zf (H:=H4) (a:=r) (o:=.tup [.ref l,.ref fl4])
  have el5:=k5 _ _ (no3 el (by intro _ z;cases z)) el
  have hf5:=old (o:=.tup [.ref l,.ref fl4]) fr hfl4
  have hc5:=old (o:=.tup [.ref l,.ref fl4]) fr hcc
  generalize upd H4 r (.tup [.ref l,.ref fl4])=H5 at *
  refine⟨[(s.heap.objs.size+1,.str k),(s.heap.objs.size+2,.ref p)],fun x hx=>?_,fun H6 pb=>?_⟩
  ·simp only[um,Uc,or_false]at hx
   rcases hx with rfl|rfl
   ·exact⟨0,"token",rfl,rfl,rfl,.inl rfl⟩
   ·exact⟨2,"body",rfl,rfl,rfl,.inl rfl⟩
  have s6:=Pub.same pb
  refine q H6 r l fl4 _ ((KM.of s3).trans (k5.trans (.of s6))) (T5.same s6) (s6 _ _ hr5) f0 (s6 _ _ el5) (by unfold wyK;rw[if_neg (by rw[hL];decide)];exact(hk.kv.keep t5).keep (.of s6)) (.inr ⟨hL,?_⟩)
  exact⟨_,_,cc,ct,p,s6 _ _ hf5,s6 _ _ hc5,pb.cel (_,_) (.head _),pb.cel (_,_) (.tail _ (.head _)),by simp,((hb.keep (.of s3)).keep t5).keep (.of s6)⟩
end
end GN
namespace L2
open PySem
theorem cutR{t:TS}{D:Ends}{σ:St}{H:Hp}{P:St->Hp->Prop}(h:∀D':Ends,D'.rt=D.rt->(∀σ H,P σ H->D'.nx σ H)->t D' σ H)(p:∀σ H,P σ H->D.nx σ H):t D σ H:=h D rfl p
end L2
namespace GN
open PySem L2
def vE(P:Program)(w:World)(K:uc)(mg:Str->Option Value)(base:Heap)(k:Nat):Sp:=fun vs H Q _=>∃(D:WoD P w K mg base k)(v:V)(root:D.Tk)(R:Addr->Prop),vs=[v,.ref D.fb]/\D.IT H R root v/\D.Ok (D.pre root) H/\(∀b,R b->H b≠none)/\(∀b,R b->¬ D.M b)/\D.wt root<=10000000 /\
 ((∃fd,H D.fb=some (FunO D.fb fd))/\¬ D.M D.fb\/uP K (.ref D.fb)=true) /\
 ∀H' v' R',KM D.M H H'->D.Ok (D.post root) H'->(∀b,R' b->¬ D.M b)->D.IR H' R' root v'->Q v' H'
section
variable{P:Program}{w:World}{K:uc}{mg:Str->Option Value}{base:Heap}{f cB fo:Addr}{fd fdo:FuncData}{k:Nat}
theorem scWorked:FnScope ["task","begin","waiting","last","pair","finish","result"] lS21 (zo jp):=.ok
theorem vF{i:Nat}{t:TA}{σ:St}{H:Hp}{Q:VK}{f:Addr}{vs:List V}(hi:σ[i]?=some (some (.ref f)))(ha:∀R:List V->Hp->Prop,R vs H->t σ H R)(h:CanC P w K mg base k H f vs Q E0):WT P w K mg base k E0 i t σ H Q:=by
 obtain⟨fd,ps,sp,F,b,q,c⟩:=h
 rcases c with c|c
 ·exact⟨f,hi,.inl ⟨⟨fd,c⟩,ha _ ⟨fd,ps,sp,F,b,c,q⟩⟩⟩
 ·exact⟨f,hi,.inr ⟨c,ha _ ⟨fd,ps,sp,F,b,q⟩⟩⟩
theorem jb(F:Fun K "worked_out" "worked_out" jp f fd)(N:Bn K cB)(GB:Ma P w K mg base CX0 1 "Begun" cB lS19 (YK cB))(GO:FnOk P w K mg base CX0 1 fo fdo ["results"] WU)(bO:Binds K fdo ["results"] [])(kO:uP K (.ref fo)=true)(mO:mg "only_one"=some (.ref fo))(m_len:mg "len"=none)(hk:2<=k):FnOk P w K mg base CX0 (k+1) f fd lS21 (vE P w K mg base k):=by
 refine F.by scWorked (fun vs H Q E h=>?_) (fun cdv A outer s H vs Q E hr h=>?_)
 ·obtain⟨D,v,root,R,rfl,_⟩:=h
  rfl
 obtain⟨D,v,root,R0,rfl,hIT,hOk,hR0,hRM0,hwt,hfb,q⟩:=h
 have hr2:Room (1+1) _:=hr.mono (by lia)
 refine⟨_,
  (zg (sE 2 scWorked.nd (zy (jA1 (Wx GB hr2 rfl xP (jA2 (zy (jA1 (jv 0))) (Jz (v:=.ref fo) rfl mO rfl))))))
  (zh (xn PassesOwn.never (zX zT)
   (zg (sE 3 scWorked.nd (xX z6 (jv 2) (yh zn)))
   (zh (zw (tN Zf (jL m_len (yH (jv 3))) (jL m_len (yH (jv 3))))
    (zg (sE 4 scWorked.nd (Zi hr (jv 1) xP (jA1 (xX z6 (yH (jv 3)) (jL m_len (yH (jv 3)))))))
    (zh (zO (yf ur uE uF zI (jv 2) (jA1 (Wx GB hr2 rfl xP (jA2 (xT 4) (xT 4))))))))
    (zg (sE 5 scWorked.nd (yH (jv 3)))
    (zg (sE 6 scWorked.nd (Zi hr (jv 5) xP (jA1 (yH (jv 3)))))
    (zg (zO (vf ur Uj Uk vi (jv 2)))
    (zg (zw (tN zx (jL m_len (jv 2)) zn)
     (zh (zp (jv 6))) zr)
    (zh (zO (yf ur uE uF zI (yH (xX z6 (jv 2) (yh zn))) (jA1 (jv 6))))))))))))))),?_⟩
 have sl:=zK
 refine(ex2q rfl ⟨sN1,fun l0 hl0=>?_⟩)
 have s0:Same H (upd H l0 (.lst [v])):=fun b u e=>by rw[zi (zk e hl0)];exact e
 have hl0':=zf (H:=H) (a:=l0) (o:=.lst [v])
 generalize upd H l0 (.lst [v])=H1 at *
 intro x dx hx hdx nxd
 refine⟨x,dx,l0,fo,rfl,zf,fun H2 ra kp hra hra2 hx2=>⟨rfl,sN1,fun wl hwl=>?_⟩⟩
 have hM:∀b,H b=none->¬ D.M b:=fun b e m=>D.okM hOk m e
 have s12:Same H1 H2:=fun b u e=>kp b u (zk e hx) (by rw[zi (zk e hx),zi (zk e hdx)];exact e)
 have s2:Same H H2:=s0.trans s12
 have s3:Same H (upd H2 wl (.lst [.ref x])):=s2.new hwl
 have nra:ra≠x:=fun z=>by
  rw[z,zf]at hra
  cases hra
 have nrd:ra≠dx:=fun z=>by
  rw[z,zi nxd,zf]at hra
  cases hra
 have hra1:H1 ra=none:=by
  rw[zi nra,zi nrd]at hra
  exact hra
 have hra0:H ra=none:=s0.free hra1
 have hx0:H x=none:=s0.free hx
 have nl0:l0≠ra:=zk hl0' hra1
 have nwr:ra≠wl:=zk hra2 hwl
 have nwx:x≠wl:=zk hx2 hwl
 have nwl:l0≠wl:=zk (s12 _ _ hl0') hwl
 have hwl0:H wl=none:=s2.free hwl
 refine⟨fun m σ H'=>∃(es:List (En D.Tk))(cur:D.S)(R:Addr->Prop)(y3 y4 y5 y6:Option V),m=mall D es/\σ=[some v,some (.ref D.fb),some (.ref wl),y3,y4,y5,y6]/\KM D.M H H'/\D.Ok cur H'/\H' wl=some (.lst (es.reverse.map fun e=>V.ref e.bo))/\¬ R wl/\(∀e∈es,EnOk D cB fo root H' R e)/\(∀e∈es,H e.ra=none)/\Lnk D es/\(∀b,R b->H' b≠none)/\(∀b,R b->¬ D.M b)/\(wl::es.map (·.ra)).Nodup/\mall D es<=D.wt root+1/\(∀e∈es,e.ts.length<=10000000)/\Stk D root cur es,
  ⟨_,[⟨x,dx,l0,ra,fo,none,[root],[]⟩],D.pre root,(fun b=>R0 b\/b=l0),none,none,none,none,rfl,rfl,.of s3,D.okk hOk (fun b u e _=>s3 b u e),zf,?_,?_,?_,.bot rfl,?_,?_,?_,?_,?_,⟨⟨rfl,rfl⟩,trivial⟩⟩,?_⟩
 ·rintro(z|z)
  ·exact hR0 _ z hwl0
  ·exact nwl z.symm
 ·intro e he
  rw[uB.mp he]
  refine⟨by rw[zi nwx];exact hx2,hM _ hx0,⟨[v],by rw[zi nwl];exact s12 _ _ hl0',.cons (D.itk hIT hOk (fun b u e _ _=>s3 b u e) fun b z=>.inl z) .nil⟩,.inr rfl,by rw[zi nwr];exact hra2,?_,hM _ hra0,uN _,.nil,rfl,rfl⟩
  rintro(z|z)
  ·exact hR0 _ z hra0
  ·exact nl0 z.symm
 ·intro e he
  rw[uB.mp he]
  exact hra0
 ·rintro b (z|z)
  ·cases e:H b with
   |none=>exact absurd e (hR0 b z)
   |some u=>rw[s3 b u e];simp
  ·rw[z,zi nwl,s12 _ _ hl0'];simp
 ·rintro b (z|z)
  ·exact hRM0 b z
  ·rw[z];exact hM _ hl0
 ·show[wl,ra].Nodup
  simp[nwr.symm]
 ·unfold mall mlow
  simp
  lia
 ·intro e he
  rw[uB.mp he]
  show 1<=10000000
  decide
 rintro m σ Ha ⟨es,cur,R,y3,y4,y5,y6,rfl,rfl,kHa,okA,hwlA,nRw,hes,hra,lk,hRd,hRM,nd,hms,hln,stk⟩
 refine(ex2q rfl (iteT ⟨_,fun _ _ h=>h,?_⟩))
 refine cutR (fun D_ rt_ fin=>?_) (fun _ _ h=>h)
 have hMA:∀b,Ha b=none->¬ D.M b:=fun b e m=>D.okM okA m e
 have mwl:¬ D.M wl:=hM _ hwl0
 cases es with
 |nil=>cases lk
 |cons e es =>
 have he:=hes e (.head _)
 have eo:=he.o
 obtain⟨ws,hw,hIT'⟩:=he.w
 have wlen:=hIT'.len
 have els:((e::es).reverse.map fun e=>V.ref e.bo)=(es.reverse.map fun e=>V.ref e.bo)++[.ref e.bo]:=by simp
 rw[els]at hwlA
 have elen:=WW D (e::es)
 rw[uo]at elen
 have dr:∀t,e.ts[e.rs.length]?=some t->e.ts.drop e.rs.length=t::e.ts.drop (e.rs.length+1):=fun t ht=>(List.drop_eq_getElem_cons (uf.mp ht).1).trans (by rw[(uf.mp ht).2])
 refine(ex2q rfl (ex2q rfl ⟨wl,_,_,_,rfl,rfl,SqL.of hwlA,zC _ _,?_⟩))
 refine(ex2q rfl ⟨e.bo,cB,e.dx,_,_,rfl,eo,N.cl,N.b3,rfl,_,_,rfl,.inl (SqL.of he.r),(ex2q rfl ⟨e.bo,cB,e.dx,_,_,rfl,eo,N.cl,N.b1,rfl,_,_,rfl,.inl (SqL.of hw),(ex4q rfl rfl (ex2q rfl ?_))⟩)⟩)
 refine ite2 (fun c=>?_) (fun c=>?_)
 ·rw[decide_eq_true_eq]at c
  have c:e.rs.length < ws.length:=by lia
  obtain⟨t,ht,hIt⟩:=hIT'.get (uq c)
  obtain⟨sk1,sk2⟩:=stk
  rw[dr t ht]at sk1
  obtain⟨spre,sk3⟩:=sk1
  refine vF rfl (fun R h=>(ex2q rfl ⟨e.bo,cB,e.dx,_,_,rfl,eo,N.cl,N.b1,rfl,(ex2q rfl ⟨e.bo,cB,e.dx,_,_,rfl,eo,N.cl,N.b3,rfl,_,_,rfl,.inl (SqL.of he.r),_,_,_,_,rfl,rfl,SqL.of hw,zL (uq c),h⟩)⟩)) (D.beg hIt (show D.Ok (D.pre t) Ha by rw[spre];exact okA) hRd hRM fun Hb pq l fl vs R' kB okB hq hl hlB sub sub' dom' Rl hks hfin=>?_)
  refine(ex2q rfl ⟨.inl ⟨rfl,_,SqL.of (kB _ _ mwl hwlA)⟩,(ex2q rfl (ixT hq aI0 (ex2q rfl (ixT hq aI1 (fun x' dx' hx' hdx' nxd'=>?_)))))⟩)
  refine⟨x',dx',l,fl,rfl,zf,fun Hc rb kp' hrb hrb2 hxc=>⟨rfl,?_⟩⟩
  have sbc:Same Hb Hc:=fun b u e=>kp' b u (zk e hx') (by rw[zi (zk e hx'),zi (zk e hdx')];exact e)
  have nrx:rb≠x':=fun z=>by
   rw[z,zf]at hrb
   cases hrb
  have nrd':rb≠dx':=fun z=>by
   rw[z,zi nxd',zf]at hrb
   cases hrb
  have hrbB:Hb rb=none:=by
   rw[zi nrx,zi nrd']at hrb
   exact hrb
  have okC:D.Ok (D.mid t) Hc:=D.okk okB fun b u e _=>sbc b u e
  have hMB:∀b,Hb b=none->¬ D.M b:=fun b e m=>D.okM okB m e
  have hwlC:Hc wl=some (.lst ((es.reverse.map fun e=>V.ref e.bo)++[.ref e.bo])):=sbc _ _ (kB _ _ mwl hwlA)
  refine⟨wl,(ex4q rfl rfl ⟨hwlC,by rw[ub,ua,u6];show es.length+1 < _;lia,?_⟩)⟩
  have nR'w:¬ R' wl:=fun z=>by
   rcases sub' _ z with z|z
   ·exact nRw z
   ·rw[hwlA]at z;cases z
  have kzA:Kz D.M R Ha (upd Hc wl (.lst ((es.reverse.map fun e=>V.ref e.bo)++[.ref e.bo]++[.ref x']))):=fun b u q1 q2 q3=>by
   rw[zi]
   ·exact sbc _ _ (kB _ _ q2 q1)
   ·intro z
    rw[z,hwlA]at q1
    cases q1
    rw[z]at q3
    exact nRw (q3 _ rfl)
  have kzB:Kz D.M R' Hb (upd Hc wl (.lst ((es.reverse.map fun e=>V.ref e.bo)++[.ref e.bo]++[.ref x']))):=fun b u q1 q2 q3=>by
   rw[zi]
   ·exact sbc _ _ q1
   ·intro z
    rw[z,kB _ _ mwl hwlA]at q1
    cases q1
    rw[z]at q3
    exact nR'w (q3 _ rfl)
  have nx':x'≠wl:=zk (by exact kB _ _ mwl hwlA) hx' |>.symm
  have nrb:rb≠wl:=(zk (kB _ _ mwl hwlA) hrbB).symm
  have nl:l≠wl:=fun z=>nR'w (z ▸ Rl)
  have nolds:∀e'∈e::es,Hc e'.ra=some (.lst e'.rs)/\e'.ra≠wl/\¬ R' e'.ra:=fun e' he'=>by
   have h':=hes e' he'
   refine⟨sbc _ _ (kB _ _ h'.nM h'.r),fun z=>?_,fun z=>?_⟩
   ·have:=(uS.mp nd).1
    exact this (z ▸ uG.mpr ⟨e',he',rfl⟩)
   ·rcases sub' _ z with z|z
    ·exact h'.nr z
    ·rw[h'.r]at z;cases z
  refine fin _ _ ⟨_,?_,⟨x',dx',l,rb,fl,some t,D.kids t,[]⟩ :: e::es,D.mid t,R',_,_,_,_,rfl,rfl,?_,D.okk okC ?_,?_,nR'w,?_,?_,.up lk rfl ht,?_,?_,?_,?_,?_,⟨D.chn t,sk3,sk2⟩⟩
  ·show 1+(((D.kids t).drop 0).map D.wt).sum+mlow D (e::es) < 1+((e.ts.drop e.rs.length).map D.wt).sum+mlow D es
   rw[dr t ht]
   have:=D.wk t
   rw[show mlow D (e::es)=1+((e.ts.drop (e.rs.length+1)).map D.wt).sum+mlow D es from rfl]
   simp only[List.drop_zero,uu,uW]
   lia
  ·exact((kHa.trans kB).trans (.of sbc)).put hwl0
  ·intro b u q1 q2
   rw[zi]
   ·exact q1
   ·intro z
    rw[z,hwlC]at q1
    cases q1
    rw[z]at q2
    exact mwl (q2 _ rfl)
  ·rw[zf]
   simp
  ·intro e' he'
   rcases um.mp he' with rfl|he'
   ·exact⟨by rw[zi nx'];exact hxc,hMB _ hx',⟨vs,by rw[zi nl];exact sbc _ _ hlB,hks.imp fun a b q=>D.itk q okB kzB fun _ z=>z⟩,Rl,by rw[zi nrb];exact hrb2,fun z=>dom' _ z hrbB,hMB _ hrbB,uN _,.nil,D.ifk hfin okB kzB fun _ z=>z,rfl⟩
   ·obtain⟨n1,n2,n3⟩:=nolds e' he'
    exact(hes e' he').keep okA kzA hRM sub (by rw[zi n2];exact n1) n3
  ·intro e' he'
   rcases um.mp he' with rfl|he'
   ·exact(kHa.trans kB).free (hMB _ hrbB) hrbB
   ·exact hra e' he'
  ·intro b z
   by_cases hb:b=wl
   ·rw[hb,zf];simp
   ·rw[zi hb]
    cases q:Hb b with
    |none=>exact absurd q (dom' b z)
    |some u=>rw[sbc _ _ q];simp
  ·intro b z
   rcases sub' b z with z|z
   ·exact hRM b z
   ·exact hMA b z
  ·rw[uu,uS]at *
   refine⟨fun z=>?_,uS.mpr ⟨fun z=>?_,nd.2⟩⟩
   ·rcases um.mp z with z|z
    ·exact nrb z.symm
    ·exact nd.1 z
   ·obtain⟨e',he',z⟩:=uG.mp z
    have:=kB _ _ (hes e' he').nM (hes e' he').r
    rw[z,hrbB]at this
    cases this
  ·refine uD ?_ hms
   show 1+(((D.kids t).drop 0).map D.wt).sum+mlow D (e::es)<=1+((e.ts.drop e.rs.length).map D.wt).sum+mlow D es
   rw[dr t ht]
   have:=D.wk t
   rw[show mlow D (e::es)=1+((e.ts.drop (e.rs.length+1)).map D.wt).sum+mlow D es from rfl]
   simp only[List.drop_zero,uu,uW]
   lia
  ·intro e' he'
   rcases um.mp he' with rfl|he'
   ·have h1:=D.wk t
    have h2:D.wt t<=mall D (e::es):=by
     show _<=1+((e.ts.drop e.rs.length).map D.wt).sum+mlow D es
     rw[dr t ht,uu,uW]
     lia
    have h3:=WX D (D.kids t)
    show(D.kids t).length<=10000000
    lia
   ·exact hln e' he'
 ·have c:¬ e.rs.length < ws.length:=fun z=>c (decide_eq_true (by lia))
  have le:=he.le
  have rr:=he.rr
  obtain⟨sk1,sk2⟩:=stk
  rw[List.drop_eq_nil_of_le (by lia)]at sk1
  have sk1:cur=eEnd D root e:=sk1
  rw[uz (by lia)]at rr
  refine(ex2q rfl ⟨e.bo,cB,e.dx,_,_,rfl,eo,N.cl,N.b2,rfl,?_⟩)
  have pop:∀{Hb:Hp},Hb wl=some (.lst ((es.reverse.map fun e=>V.ref e.bo)++[.ref e.bo]))->∀{Q:VK},Q (.ref e.bo) (upd Hb wl (.lst (es.reverse.map fun e=>V.ref e.bo)))->rPop (.ref wl) [] Hb Q:=fun h Q q=>⟨wl,_,.ref e.bo,rfl,rfl,h,by simp,by rw[List.dropLast_concat];exact q⟩
  cases htk:e.tk with
  |none =>
   have ecur:cur=D.post root:=by rw[sk1];unfold eEnd;rw[htk]
   subst ecur
   have fin:=he.fin
   rw[htk]at fin
   obtain⟨e1,e2⟩:=fin
   have es0:es=[]:=by
    cases lk with
    |bot _=>rfl
    |up _ q _=>rw[htk]at q;cases q
   subst es0
   rw[e2]at rr
   have hrs:=he.r
   generalize e.rs=rs at *
   cases rr with
   |cons hv hn =>
   cases hn
   rw[e1]
   refine vF rfl (fun R h=>(ex2q rfl ⟨e.bo,cB,e.dx,_,_,rfl,eo,N.cl,N.b3,rfl,h⟩)) ⟨fdo,_,_,GO.mono (by lia),bO,⟨e.ra,_,[],rfl,hrs,?_⟩,.inr kO⟩
   refine(ex2q rfl ⟨.inl ⟨rfl,_,SqL.of hwlA⟩,pop hwlA ?_⟩)
   refine(ex2q rfl ⟨_,_,rfl,.inl (SqL.of zf),rfl,(ex2q rfl (iteT (ex2q rfl ?_)))⟩)
   rw[rt_]
   refine q _ _ R (kHa.put hwl0) (D.okk okA fun b u q1 q2=>?_) hRM (D.irk hv okA (fun b u q1 q2 q3=>?_) fun _ z=>z)
   ·rw[zi]
    ·exact q1
    ·intro z
     rw[z,hwlA]at q1
     cases q1
     rw[z]at q2
     exact mwl (q2 _ rfl)
   ·rw[zi]
    ·exact q1
    ·intro z
     rw[z,hwlA]at q1
     cases q1
     rw[z]at q3
     exact nRw (q3 _ rfl)
  |some t =>
   have eE:eEnd D root e=D.post t:=by unfold eEnd;rw[htk]
   have ecur:cur=D.post t:=sk1.trans eE
   subst ecur
   rw[eE]at sk2
   have fin:=he.fin
   rw[htk]at fin
   obtain⟨e1,e2⟩:=fin
   rw[e2]at rr
   cases lk with
   |bot q=>rw[htk]at q;cases q
   |@up _ e' es' t' lk' q ht' =>
   rw[htk]at q
   cases q
   have he':=hes e' (.tail _ (.head _))
   have ndA:=nd
   rw[uu,uu,uS,uS,uS]at ndA
   obtain⟨nd1,nd2,nd3,nd4⟩:=ndA
   have nwe:e.ra≠wl:=fun z=>nd1 (z ▸ .head _)
   have nwe':e'.ra≠wl:=fun z=>nd1 (z ▸ .tail _ (.head _))
   have nee':e'.ra≠e.ra:=fun z=>nd2 (z ▸ .head _)
   have kzR:Kz D.M R Ha Ha:=fun b u q _ _=>q
   refine vF rfl (fun R h=>(ex2q rfl ⟨e.bo,cB,e.dx,_,_,rfl,eo,N.cl,N.b3,rfl,h⟩)) (D.fin (R:=fun b=>R b\/b=e.ra) (D.ifk e1 okA kzR fun _ z=>.inl z) okA ?_ ?_ (.inr rfl) he.r (rr.imp fun a b q=>D.irk q okA kzR fun _ z=>.inl z) fun Hb rv R' kB okB sub sub' dom' hIR=>?_)
   ·rintro b (z|z)
    ·exact hRd b z
    ·rw[z,he.r];simp
   ·rintro b (z|z)
    ·exact hRM b z
    ·rw[z];exact he.nM
   have hwlB:=kB _ _ mwl hwlA
   have heB:=kB _ _ he'.nM he'.r
   have hoB:=kB _ _ he'.nb he'.o
   have no':e'.bo≠wl:=xh hoB hwlB (by unfold BO;intro z;cases z)
   refine(ex2q rfl ⟨.inl ⟨rfl,_,SqL.of hwlB⟩,pop hwlB ?_⟩)
   have els':((e'::es').reverse.map fun e=>V.ref e.bo)=(es'.reverse.map fun e=>V.ref e.bo)++[.ref e'.bo]:=by simp
   rw[els']
   refine(ex2q rfl ⟨_,_,rfl,.inl (SqL.of zf),rfl,(ex2q rfl (iteN ?_ ?_))⟩)
   ·rw[ub]
    exact decide_eq_false (by intro z;have:=V.int.inj z;simp at this;lia)
   refine(ex2q rfl (ex2q rfl ⟨wl,_,_,_,rfl,rfl,SqL.of zf,zC _ _,e'.bo,cB,e'.dx,_,.ref e'.ra,rfl,by rw[zi no'];exact hoB,N.cl,N.b3,rfl,.inl ⟨rfl,_,SqL.of (by rw[zi nwe'];exact heB)⟩,(ex2q rfl ⟨e'.ra,(ex4q rfl rfl ⟨by rw[zi nwe'];exact heB,?_,?_⟩)⟩)⟩))
   ·have:=(uf.mp ht').1
    have:=hln e' (.tail _ (.head _))
    lia
   have nR'w:¬ R' wl:=fun z=>by
    rcases sub' _ z with(z|z)|z
    ·exact nRw z
    ·exact nwe z.symm
    ·rw[hwlA]at z;cases z
   have nR':∀e1∈e'::es',¬ R' e1.ra:=fun e1 h1 z=>by
    rcases sub' _ z with(z|z)|z
    ·exact(hes e1 (.tail _ h1)).nr z
    ·exact nd2 (z ▸ uG.mpr ⟨e1,h1,rfl⟩)
    ·rw[(hes e1 (.tail _ h1)).r]at z;cases z
   have kzB:Kz D.M R' Hb (upd (upd Hb wl (.lst ((es'.reverse.map fun e=>V.ref e.bo)++[.ref e'.bo]))) e'.ra (.lst (e'.rs++[rv]))):=fun b u q1 q2 q3=>by
    have n1:b≠e'.ra:=fun z=>by
     rw[z,heB]at q1
     cases q1
     rw[z]at q3
     exact nR' e' (.head _) (q3 _ rfl)
    have n2:b≠wl:=fun z=>by
     rw[z,hwlB]at q1
     cases q1
     rw[z]at q3
     exact nR'w (q3 _ rfl)
    rw[zi n1,zi n2]
    exact q1
   have kzA:Kz D.M R Ha (upd (upd Hb wl (.lst ((es'.reverse.map fun e=>V.ref e.bo)++[.ref e'.bo]))) e'.ra (.lst (e'.rs++[rv]))):=fun b u q1 q2 q3=>kzB b u (kB _ _ q2 q1) q2 fun xs z=>sub _ (.inl (q3 xs z))
   have subR:∀b,R b->R' b:=fun b z=>sub _ (.inl z)
   refine fin _ _ ⟨_,?_,{ e' with rs:=e'.rs++[rv] } :: es',D.post t,R',_,_,_,_,rfl,rfl,((kHa.trans kB).put hwl0).put (hra e' (.tail _ (.head _))),D.okk okB ?_,?_,nR'w,?_,?_,?_,?_,?_,?_,?_,?_,?_⟩
   ·show 1+((e'.ts.drop (e'.rs++[rv]).length).map D.wt).sum+mlow D es' < 1+((e.ts.drop e.rs.length).map D.wt).sum+(1+((e'.ts.drop (e'.rs.length+1)).map D.wt).sum+mlow D es')
    rw[ub,Ui]
    lia
   ·intro b u q1 q2
    have n1:b≠e'.ra:=fun z=>by
     rw[z,heB]at q1
     cases q1
     rw[z]at q2
     exact he'.nM (q2 _ rfl)
    have n2:b≠wl:=fun z=>by
     rw[z,hwlB]at q1
     cases q1
     rw[z]at q2
     exact mwl (q2 _ rfl)
    rw[zi n1,zi n2]
    exact q1
   ·rw[zi nwe'.symm,zf]
    simp
   ·intro e1 h1
    rcases um.mp h1 with rfl|h1
    ·obtain⟨o,nb,⟨ws',w1,w2⟩,Rw,r,nr',nM,le',rr',fin⟩:=he'
     refine⟨kzA _ _ o nb (by intro xs q;unfold BO at q;cases q),nb,⟨ws',kzA _ _ w1 (hRM _ Rw) (fun _ _=>Rw),w2.imp fun a b q=>D.itk q okA kzA subR⟩,subR _ Rw,zf,nR' e' (.head _),nM,?_,?_,?_⟩
     ·show(e'.rs++[rv]).length<=_
      rw[ub,Ui]
      exact(uf.mp ht').1
     ·show All2 _ (e'.ts.take (e'.rs++[rv]).length) (e'.rs++[rv])
      rw[ub,Ui,uJ,ht']
      exact(rr'.imp fun a b q=>D.irk q okA kzA subR).app (.cons (D.irk hIR okB kzB fun _ z=>z) .nil)
     ·show(match e'.tk with|none=>_|some t=>_)
      cases q:e'.tk with
      |none=>rw[q]at fin;exact fin
      |some t=>rw[q]at fin;exact⟨D.ifk fin.1 okA kzA subR,fin.2⟩
    ·have h1':=hes e1 (.tail _ (.tail _ h1))
     have m1:e1.ra≠e'.ra:=fun z=>nd3 (z ▸ uG.mpr ⟨e1,h1,rfl⟩)
     have m2:e1.ra≠wl:=fun z=>nd1 (z ▸ .tail _ (.tail _ (uG.mpr ⟨e1,h1,rfl⟩)))
     exact h1'.keep okA kzA hRM subR (by rw[zi m1,zi m2];exact kB _ _ h1'.nM h1'.r) (nR' e1 (.tail _ h1))
   ·intro e1 h1
    rcases um.mp h1 with rfl|h1
    ·exact hra e' (.tail _ (.head _))
    ·exact hra e1 (.tail _ (.tail _ h1))
   ·cases lk' with
    |bot q=>exact .bot q
    |up a b c=>exact .up a b c
   ·intro b z
    have:=dom' b z
    unfold upd
    split
    ·simp
    ·split
     ·simp
     ·exact this
   ·intro b z
    rcases sub' b z with(z|z)|z
    ·exact hRM b z
    ·rw[z];exact he.nM
    ·exact hMA b z
   ·exact uS.mpr ⟨fun z=>nd1 (.tail _ z),uS.mpr ⟨nd3,nd4⟩⟩
   ·refine uD ?_ hms
    show 1+((e'.ts.drop (e'.rs++[rv]).length).map D.wt).sum+mlow D es'<=1+((e.ts.drop e.rs.length).map D.wt).sum+(1+((e'.ts.drop (e'.rs.length+1)).map D.wt).sum+mlow D es')
    rw[ub,Ui]
    lia
   ·intro e1 h1
    rcases um.mp h1 with rfl|h1
    ·exact hln e' (.tail _ (.head _))
    ·exact hln e1 (.tail _ (.tail _ h1))
   ·refine⟨?_,sk2.2⟩
    show Chn D.pre D.post (D.post t) (e'.ts.drop (e'.rs++[rv]).length) _
    rw[ub,Ui]
    exact sk2.1
end
end GN
namespace GN
open PySem L2 K11
def wp:Expr:=match zF xW with
 |[_,_,_,_,.Return (some (.BinOp _ _ (.Tuple [_,.Subscript e _ _] _ _) _)) _]=>Zq e
 |_=>.Constant .none 0 ⟨0,0,0,0⟩
def Zr:Str:=("with_token":Str)++(".<locals>.":Str)++("<lambda>":Str)
def ls3:List (Pos×Str):=[(xD wp,Zr)]
def cl3(c1 c2:Addr):List (Str×Addr):=[("token",c1),("many",c2)]
abbrev vG(mg:Str->Option Value)(c1 c2 c:Addr)(ct:Value):FuncData:=lamC mg Zr (lmP wp) (lmB wp) (lmS wp) (cl3 c1 c2) c ct
theorem zbk:LamScope ["body","token","many"] ["body"] ["token","many"] (lmS wp):=⟨rfl,rfl,rfl,by decide +kernel,rfl,by decide +kernel,by decide +kernel,by decide +kernel,by decide +kernel⟩
def zbl(mg:Str->Option Value)(T:Addr)(f:Addr)(fd:FuncData):Sp:=fun vs H Q _=>∃(p c1 c2 c:Addr)(ct:Value)(k:Str)(n:Nat)(b:Bd),vs=[.ref p]/\fd=vG mg c1 c2 c ct/\H f=some (FunO f fd)/\H c=some (CodO c Zr)/\Cel H c1 (.str k)/\Cel H c2 (.int (n:Nat))/\c1≠c2/\IsBd H b p/\b.sz<=1000000/\TbG T ls4 H/\PsW mg T k n b H Q
section
variable{P:Program}{w:World}{K:uc}{mg:Str->Option Value}{base:Heap}
theorem J1{T:Addr}(GB:Ca P w K mg base CX0 3 "begun_ways" lS17 (jU mg T))(f c1 c2 c:Addr)(ct:Value):FnOk P w K mg base CX0 4 f (vG mg c1 c2 c ct) ["body"] (zbl mg T f (vG mg c1 c2 c ct)):=by
 refine wc (k:=3) zbk (fun vs H Q E h=>?_) (fun A outer s H vs Q E hr h=>?_)
 ·obtain⟨p,_,_,_,_,_,_,_,rfl,_⟩:=h
  rfl
 ·obtain⟨p,d1,d2,d0,ct',k,n,b,rfl,efd,hf,hc,h1,h2,n1,hb,hz,hT,q⟩:=h
  have ecl:cl3 c1 c2=cl3 d1 d2:=congrArg FuncData.closure efd
  have ec:Value.ref c=Value.ref d0:=congrArg FuncData.code efd
  cases ec
  have e1:c1=d1:=by injection ecl with a b;exact(Prod.mk.inj a).2
  have e2:c2=d2:=by injection ecl with a b;injection b with a b;exact(Prod.mk.inj a).2
  subst e1;subst e2
  have C:=clo2 (x:="token") (y:="many") (by decide) h1 h2 n1
  refine⟨hf,hc,_,C,?_⟩
  have hcA:∀a∈(cl3 c1 c2).map (·.2),∃v,Cel H a v:=fun a ha=>by
   obtain⟨p,hp,rfl⟩:=uG.mp ha
   exact C.all p hp
  have tp:=yr hcA
  refine⟨_,(cA GB hr (jA3 (jv 1) (jv 2) (jv 0))),?_⟩
  refine(ex2q rfl (ex2q rfl (ex2q rfl ⟨k,n,p,b,rfl,hb.keep tp,hz,hT.keep (fun ps e=>zS hcA e (by intro _ _ _ z;cases z)) (fun c q e=>zS hcA e (by intro _ _ _ z;unfold CodO at z;cases z)),fun H' r l fl vs k1 T1 hr1 hl hl1 hk hfin hnn=>?_⟩)))
  have sp:Same H' (yT H' H ((cl3 c1 c2).map (·.2))):=fun b u e=>yX hnn e
  have out:∀{b:Addr}{u:HO},H' b=some u->zY H ((cl3 c1 c2).map (·.2)) b=none->H b=none:=fun{b u} e n=>by
   rw[zU]at n
   ·exact n
   ·intro z;rw[hnn b z]at e;cases e
  refine q _ r l fl vs (fun b u n e=>?_) (T1.same sp) (sp _ _ hr1) (out hl1 hl) (sp _ _ hl1) (hk.keep (.of sp)) (hfin.keep (.of sp))
  by_cases z:b∈(cl3 c1 c2).map (·.2)
  ·rw[x0 z];exact e
  ·rw[yo z]
   exact k1 b u n (by rw[zU z];exact e)
theorem J2(c1 c2 c:Addr)(ct:Value):Binds K (vG mg c1 c2 c ct) ["body"] []:=.all (us1 fun _=>rfl)
end
structure WOk(mg:Str->Option Value)(T fl c1 c2 cc:Addr)(ct:Value)(k:Str)(n:Nat)(H:Hp):Prop where
 t:TbG T ls4 H
 f:H fl=some (FunO fl (vG mg c1 c2 cc ct))
 c:H cc=some (CodO cc Zr)
 e1:Cel H c1 (.str k)
 e2:Cel H c2 (.int (n:Nat))
 ne:c1≠c2
section
variable{mg:Str->Option Value}{T fl c1 c2 cc:Addr}{ct:Value}{k:Str}{n:Nat}{H H':Hp}
theorem WOk.keep(h:WOk mg T fl c1 c2 cc ct k n H)(s:KN H H')(t:TbG T ls4 H'):WOk mg T fl c1 c2 cc ct k n H':=⟨t,s.fun h.f,s.cod h.c,s.cel h.e1,s.cel h.e2,h.ne⟩
theorem WOk.kz(h:WOk mg T fl c1 c2 cc ct k n H){R:Addr->Prop}(z:Kz (·=T) R H H'):KN H H':=fun b u e n1 n2 _=>z b u e (h.t.no e n1) fun xs q=>absurd q (n2 xs)
theorem WOk.km(h:WOk mg T fl c1 c2 cc ct k n H)(z:KM (·=T) H H'):KN H H':=fun b u e n1 _ _=>z b u (h.t.no e n1) e
end
theorem Zs{T:Type}:∀l:List T,Chn (fun _:T=>()) (fun _=>()) () l ()
 |[]=>rfl
 |_::l=>⟨rfl,Zs l⟩
theorem YZ(n:Nat)(b:Bd):bsz (wyK n b) < b.sz:=by
 unfold wyK
 split
 ·exact b.sz_pos
 ·exact Vk b
theorem jV:∀{l:List Bd}{b:Bd},b∈l->b.sz<=bsz l
 |c::l,b,h=>by
  unfold bsz
  rw[uu,uW]
  rcases um.mp h with rfl|h
  ·lia
  ·have:=jV h
   unfold bsz at this
   lia
theorem All2.memP{α β:Type}{F:α->β->Prop}{Pr:α->Prop}:∀{l:List α}{m:List β},All2 F l m->(∀a∈l,Pr a)->All2 (fun a b=>Pr a/\F a b) l m
 |_,_,.nil,_=>.nil
 |_,_,.cons a r,h=>.cons ⟨h _ (.head _),a⟩ (All2.memP r fun a ha=>h a (.tail _ ha))
section
variable{P:Program}{w:World}{K:uc}{mg:Str->Option Value}{base:Heap}
def zbm{T:Addr}(GB:Ca P w K mg base CX0 3 "begun_ways" lS17 (jU mg T))(GJ:Ca P w K mg base CX0 2 "joined_ways" lS16 jQ)(fl c1 c2 cc:Addr)(ct:Value)(k:Str)(n:Nat):WoD P w K mg base 4 where
 Tk:=Bd
 M:=fun b=>b=T
 fb:=fl
 wt:=fun b=>3*b.sz
 kids:=fun b=>wyK n b
 wk:=fun b=>by
  have h:=YZ n b
  have e:∀l:List Bd,(l.map fun b:Bd=>3*b.sz).sum=3*bsz l:=by
   intro l
   induction l with
   |nil=>rfl
   |cons p l ih =>
    unfold bsz at ih ⊢
    rw[uu,uu,uW,uW,ih]
    lia
  rw[e]
  lia
 IT:=fun H _ b v=>b.sz<=1000000/\∃p,v=.ref p/\IsBd H b p
 IR:=fun H _ b v=>IsRW H k n b v
 IF:=fun H _ b v=>b.sz<=1000000/\∃f,v=.ref f/\FinW mg H k n b f
 S:=Unit
 pre:=fun _=>()
 mid:=fun _=>()
 post:=fun _=>()
 chn:=fun _=>Zs _
 Ok:=fun _ H=>WOk mg T fl c1 c2 cc ct k n H
 itk:=fun⟨h,p,e,hb⟩ ok z _=>⟨h,p,e,hb.keep (ok.kz z).tups⟩
 irk:=fun h ok z _=>h.keep (ok.kz z).tups
 ifk:=fun⟨h,f,e,hf⟩ ok z _=>⟨h,f,e,hf.keep (ok.kz z)⟩
 okk:=fun{H H' s} ok z=>ok.keep (fun b u e n1 n2 n3=>z b u e fun xs q=>absurd q (n2 xs)) (ok.t.keep (fun ps e=>z _ _ e (by intro _ q;cases q)) fun c q e=>z _ _ e (by intro _ q;unfold CodO at q;cases q))
 okM:=fun{H b s} ok z=>by
  obtain⟨ps,q,_⟩:=ok.t
  rw[z,q];simp
 beg:=fun{H R t v Q}⟨hz,p,e,hb⟩ ok hRd hRM q=>by
  subst e
  refine⟨_,_,_,J1 GB fl c1 c2 cc ct,J2 c1 c2 cc ct,⟨p,c1,c2,cc,ct,k,n,t,rfl,rfl,ok.f,ok.c,ok.e1,ok.e2,ok.ne,hb,hz,ok.t,fun H' r l f2 vs k1 t2 hr hl hl1 hk hfin=>?_⟩,.inl ok.f⟩
  have ok':=ok.keep (ok.km k1) t2
  refine q H' r l f2 vs (fun b=>R b\/b=l) k1 ok' hr hl hl1 (fun _ z=>.inl z) ?_ ?_ (.inr rfl) ?_ ⟨hz,f2,rfl,hfin⟩
  ·rintro b (z|rfl)
   ·exact .inl z
   ·exact .inr hl
  ·rintro b (z|rfl)
   ·cases e:H b with
    |none=>exact absurd e (hRd b z)
    |some u=>rw[k1 b u (fun y=>hRM b z y) e];simp
   ·rw[hl1];simp
  ·refine(All2.memP hk (Pr:=fun c:Bd=>c.sz<=1000000) fun a ha=>?_).imp fun a b h=>h
   have:=jV ha
   have:=YZ n t
   lia
 fin:=fun{H R t f2 rl rs Q} hh ok hRd hRM hRr hrl hrs q=>by
  obtain⟨hz,f,e,hf⟩:=hh
  cases e
  have q':∀H' r,Same H H'->IsRW H' k n t (.ref r)->Q (.ref r) H':=fun H' r s1 h=>q H' (.ref r) R (.of s1) (ok.keep (.of s1) (ok.t.same s1)) (fun _ z=>z) (fun _ z=>.inl z) (fun b z=>by
   cases e:H b with
   |none=>exact absurd e (hRd b z)
   |some u=>rw[s1 b u e];simp) h
  rcases hf with⟨hL,hf⟩|⟨hL,hf⟩
  ·obtain⟨d1,d2,c,ct',p,pd,x,d,b',e,h1,h2,h3,h4,n1,h5,h6⟩:=hf
   subst e
   exact⟨_,_,_,JW f2 d1 d2 c ct',JX d1 d2 c ct',⟨rl,d1,d2,c,p,pd,ct',k,n,x,d,b',rfl,rfl,h1,h2,h3,h4,n1,h5,h6,hL,q'⟩,.inl h1⟩
  ·obtain⟨d1,d2,c,ct',p,h1,h2,h3,h4,n1,h5⟩:=hf
   unfold wyK at hrs
   rw[if_neg (by rw[hL];decide)]at hrs
   exact⟨_,_,_,(JY GJ f2 d1 d2 c ct').mono (by decide),JZ d1 d2 c ct',⟨rl,d1,d2,c,p,ct',k,n,t,rs,rfl,rfl,h1,h2,h3,h4,n1,h5,hz,hrl,hrs,hL,q'⟩,.inl h1⟩
end
def ArmR.tk(nx:Nat->Nat)(a:ArmR)(n:Nat):ArmR×Nat:=if armK a.m a.ns a.b then(⟨a.t,a.ns,a.m,tokS (nx n),a.b.wy (tokS (nx n)) a.ns.length⟩,nx n)else(a,n)
def MK(to T3 T4:Addr)(b:Addr):Prop:=b=to\/b=T3\/b=T4
structure TA3(cT T3 T4 to dx td:Addr)(tk:List Str)(n:Nat)(H:Hp):Prop where
 k:TkA cT H to dx td tk n
 t3:TbG T3 ls3 H
 t4:TbG T4 ls4 H
def Y0(cT T3 T4:Addr):Sp:=fun vs H Q _=>∃(to dx td pa:Addr)(tk:List Str)(n:Nat)(a:ArmR),vs=[.ref to,.ref pa]/\IsAr H a pa/\a.b.sz<=1000000/\TA3 cT T3 T4 to dx td tk n H/\(a.tk (nxT tk) n).2<=LIMT/\∀H' r,KM (MK to T3 T4) H H'->TA3 cT T3 T4 to dx td tk (a.tk (nxT tk) n).2 H'->IsAr H' (a.tk (nxT tk) n).1 r->Q (.ref r) H'
theorem TkA.same{cT to dx td:Addr}{tk:List Str}{n:Nat}{H H':Hp}(h:TkA cT H to dx td tk n)(s:Same H H'):TkA cT H' to dx td tk n:=⟨s _ _ h.o,s _ _ h.t⟩
theorem TA3.same{cT T3 T4 to dx td:Addr}{tk:List Str}{n:Nat}{H H':Hp}(h:TA3 cT T3 T4 to dx td tk n H)(s:Same H H'):TA3 cT T3 T4 to dx td tk n H':=⟨h.k.same s,h.t3.same s,h.t4.same s⟩
theorem TA3.nt{cT T3 T4 to dx td:Addr}{tk:List Str}{n:Nat}{H:Hp}(h:TA3 cT T3 T4 to dx td tk n H){b:Addr}{u:HO}(e:H b=some u)(n1:∀ps,u≠.tbl ps)(n2:∀C dx fs,u≠.ins C dx fs):¬ MK to T3 T4 b:=by
 rintro(rfl|z|z)
 ·rw[h.k.o]at e
  exact n2 _ _ _ (u9.inj e).symm
 ·exact h.t3.no e n1 z
 ·exact h.t4.no e n1 z
theorem TA3.kn{cT T3 T4 to dx td:Addr}{tk:List Str}{n:Nat}{H H':Hp}(h:TA3 cT T3 T4 to dx td tk n H)(k:KM (MK to T3 T4) H H'):KN H H':=fun b u e n1 n2 n3=>k b u (h.nt e n1 n3) e
section
variable{P:Program}{w:World}{K:uc}{mg:Str->Option Value}{base:Heap}{f cT:Addr}{fd:FuncData}
theorem scWithT:FnScope ["tokens","arm","many","token"] ["tokens","arm"] (zo xW):=.ok
theorem J3:(["tokens","arm","many","token","body"]:List Str).Nodup:=by decide +kernel
theorem Vr{c T3 T4:Addr}(F:FunC K "with_token" xW c f fd)(N:Tn K cT)(hB:BMn mg base)(hc:Uh K c T3=true)(nT:T3≠T4)(GI:Ca P w K mg base CX0 3 "bodies_in" ["body"] Q0)(GL:Ca P w K mg base CX0 1 "is_left" lS22 Vl)(GN':Me P w K mg base CX0 2 cT "new_token" ["self"] (Vn cT))(GB:Ca P w K mg base CX0 3 "begun_ways" lS17 (jU mg T4))(GJ:Ca P w K mg base CX0 2 "joined_ways" lS16 jQ)(GW:Ca P w K mg base CX0 5 "worked_out" lS21 (vE P w K mg base 4))(m_len:mg "len"=none)(m_any:mg "any"=none):FnOk P w K mg base CX0 6 f fd ["tokens","arm"] (Y0 cT T3 T4):=by
 refine F.by scWithT (fun vs H Q E h=>?_) (fun A outer s H vs Q E hr h=>?_)
 ·obtain⟨to,dx,td,pa,tk,n,a,rfl,_⟩:=h
  rfl
 obtain⟨to,dx,td,pa,tk,n,a,rfl,ha,hz,hT,hlim,q⟩:=h
 have hr1:Room 1 _:=hr.mono (by decide)
 have hr2:Room 2 _:=hr.mono (by decide)
 have hr3:Room 3 _:=hr.mono (by decide)
 refine⟨_,
  (zg (sE 2 scWithT.nd (jL m_len (xT 1)))
  (zg (zw (jW.pt (vd (tN v7 (xT 1) zq) (xG (tN zx (jv 2) zn))))
   (zh (zp (jv 1))) zr)
  (zg (zw (xH (zX (xk (wf rfl) rfl m_any PyProof.Rows.boot_any (jA1 (yM ["body"] rfl (ye (cA GI hr3 (jA1 (xT 1)))) (fun _ _ _ _ _=>(gN 4 J3)) (fun _ _ _ _ _=>zW) (fun _ _ _ _ _=>(cA GL hr1 (jA2 (jv 4) (jv 2)))))))))
   (zh (zp (jv 1))) zr)
  (zg (sE 3 scWithT.nd (Z3 (jv 0) N.cl GN' hr2 xP))
  (zh (zp (zu xa (yk xc (jv 1) yz (yA zn)) (zt (jA2 (jv 3) (yd zP (WS (E:=E0) GW hr scWithT.nd rfl (fun _=>rfl) (jA2 (xT 1) (x9 (params:=lmP wp) (body:=lmB wp) (scope:=lmS wp) (pos:=xD wp) (T:=T3) (qual:=Zr) (cl:=cl3 (s.heap.objs.size+2) (s.heap.objs.size+1)) hB rfl hc rfl))) zn (fun _ _=>rfl))))))))))),?_⟩
 have sl:=zK
 obtain⟨q1,sb,h1,h2,hb⟩:=id ha
 have keep:armK a.m a.ns a.b=false->Q (.ref pa) H:=fun e=>q _ pa KM.refl (by unfold ArmR.tk;rw[if_neg (by rw[e];decide)];exact hT) (by unfold ArmR.tk;rw[if_neg (by rw[e];decide)];exact ha)
 refine(ex2q rfl (ixT h1 aI1 ⟨q1,(ex2q rfl ⟨.inr (SqT.of h2),?_⟩)⟩))
 rw[ua]
 refine(ex2q rfl (ixT h1 aI2 ⟨rfl,(ex2q rfl ?_)⟩))
 by_cases cm:¬ a.m="take"
 ·refine zE (show(!decide (V.str a.m=V.str "take"))=true by rw[decide_eq_false fun y=>cm (V.str.inj y)];rfl) (iteT (ex2q rfl (keep ?_)))
  unfold armK
  rw[decide_eq_false cm]
  rfl
 replace cm:a.m="take":=Decidable.not_not.mp cm
 refine iteE (show(!decide (V.str a.m=V.str "take"))=false by rw[decide_eq_true (congrArg V.str cm)];rfl) ?_
 refine(ex2q rfl ⟨rfl,(ex2q rfl ?_)⟩)
 by_cases c0:a.ns.length=0
 ·refine zE (decide_eq_true (by rw[c0];rfl)) (ex2q rfl (keep ?_))
  unfold armK
  rw[c0]
  simp
 refine iteE (decide_eq_false fun y=>c0 (by have:=V.int.inj y;lia)) (nxtC ?_)
 refine(ex2q rfl (ixT h1 aI4 ⟨sb,a.b,rfl,hb,hz,fun H1 l rs s1 hl hrs lrs=>?_⟩))
 have ll:=All2.len hrs
 refine⟨l,rfl,⟨_,SqL.of hl⟩,yL (xs:=rs.map V.ref) (fun j τ ys H'=>H1=H'/\(∃v,τ=[some (.ref to),some (.ref pa),some (.int (a.ns.length:Nat)),none,v])/\ys=((a.b.all.take j).map (Bd.isL a.ns.length)).map V.bl) ⟨rfl,⟨none,rfl⟩,rfl⟩ (fun j τ ys H' _ h=>SqL.of (h.1 ▸ hl)) ?_ ?_⟩
 ·rintro j v τ ys H2 hv ⟨rfl,⟨v',rfl⟩,rfl⟩
  rw[ug]at hv
  obtain⟨r,hr',rfl⟩:=uj.mp hv
  obtain⟨b,hb',hB'⟩:=All2.get hrs hr'
  have hj:=(uf.mp hb').1
  refine(ex2q rfl (ex2q rfl ⟨r,b,a.ns.length,rfl,hB',by rw[ua,ua,uM];lia,rfl,⟨_,rfl⟩,?_⟩))
  rw[uJ,hb']
  simp
 rintro τ ys H2 ⟨rfl,_,rfl⟩ l1 f1
 rw[ua,<- ll,uz (ud _)]
 have s2:=s1.new (o:=.lst ((a.b.all.map (Bd.isL a.ns.length)).map V.bl)) f1
 refine⟨l1,a.b.all.map (Bd.isL a.ns.length),rfl,SqL.of zf,(ex2q rfl ?_)⟩
 have ea:(a.b.all.map (Bd.isL a.ns.length)).any _root_.id=a.b.hasL a.ns.length:=by rw[<- Bd.all_any,List.any_map];rfl
 rw[ea]
 generalize upd H1 l1 (.lst ((a.b.all.map (Bd.isL a.ns.length)).map V.bl))=H2 at *
 cases hh:a.b.hasL a.ns.length with
 |false =>
  have e:armK a.m a.ns a.b=false:=by unfold armK;rw[hh];simp
  refine iteT (ex2q rfl (q _ pa (.of s2) ?_ ?_))
  ·unfold ArmR.tk;rw[if_neg (by rw[e];decide)];exact hT.same s2
  ·unfold ArmR.tk;rw[if_neg (by rw[e];decide)];exact ha.keep (.of s2)
 |true =>
 have e:armK a.m a.ns a.b=true:=by unfold armK;rw[hh,decide_eq_true cm,decide_eq_true c0];rfl
 have et:a.tk (nxT tk) n=(⟨a.t,a.ns,a.m,tokS (nxT tk n),a.b.wy (tokS (nxT tk n)) a.ns.length⟩,nxT tk n):=by unfold ArmR.tk;rw[if_pos e]
 rw[et]at hlim q
 refine iteF (nxtC ?_)
 have T2:=hT.same s2
 refine(ex2q rfl ⟨to,dx,(ex2q rfl ⟨T2.k.o,rfl,to,dx,td,tk,n,rfl,T2.k,hlim,fun H3 k3 K3=>?_⟩)⟩)
 have no3:∀{b:Addr}{u:HO},H2 b=some u->(∀C dx fs,u≠.ins C dx fs)->b≠to:=fun{b u} e n z=>by
  rw[z,T2.k.o]at e
  exact n _ _ _ (u9.inj e).symm
 have n3:KN H2 H3:=fun b u e _ _ n=>k3 b u (no3 e n) e
 have t33:TbG T3 ls3 H3:=T2.t3.keep (fun ps e=>k3 _ _ (no3 e (by intro _ _ _ z;cases z)) e) fun c q e=>n3.cod e
 have t43:TbG T4 ls4 H3:=T2.t4.keep (fun ps e=>k3 _ _ (no3 e (by intro _ _ _ z;cases z)) e) fun c q e=>n3.cod e
 have k03:KM (MK to T3 T4) H H3:=fun b u nb e=>k3 b u (fun z=>nb (.inl z)) (s2 _ _ e)
 have t03:Tups H H3:=(Tups.of s2).trans n3.tups
 clear T2 k3 n3 no3
 generalize hk:tokS (nxT tk n)=k at *
 refine(ex2q rfl ⟨3,rfl,pa,(ex2q rfl ⟨t03 _ _ h1,fun p3 H4 s4 h3=>(ex2q rfl ?_)⟩)⟩)
 have s4:Same H3 H4:=s4
 have t34:=t33.same s4
 have t44:=t43.same s4
 have K4:=K3.same s4
 refine(ex2q rfl (ixT (s4 _ _ (t03 _ _ h1)) aI4 (yU t34 (by unfold ls3;exact .head _) (fun p hp _=>by unfold ls3 at hp;rw[uB.mp hp]) fun H5 fl cc ct k5 t35 hfl nfT ncT hfl5 hcc=>?_)))
 have no5:∀{b:Addr}{u:HO},H4 b=some u->(∀ps,u≠.tbl ps)->b≠T3:=fun e n=>t34.no e n
 have n5:KN H4 H5:=fun b u e n _ _=>k5 b u (no5 e n) e
 have t45:TbG T4 ls4 H5:=t44.keep (fun ps e=>k5 _ _ nT.symm e) fun c q e=>n5.cod e
 have K5:TkA cT H5 to dx td tk (nxT tk n):=⟨k5 _ _ (no5 K4.o (by intro _ z;cases z)) K4.o,k5 _ _ (no5 K4.t (by intro _ z;cases z)) K4.t⟩
 refine⟨[(s.heap.objs.size+2,.str k),(s.heap.objs.size+1,.int (a.ns.length:Nat))],fun x hx=>?_,fun H6 pb=>?_⟩
 ·simp only[um,Uc,or_false]at hx
  rcases hx with rfl|rfl
  ·exact⟨3,"token",rfl,rfl,rfl,.inl rfl⟩
  ·exact⟨2,"many",rfl,rfl,rfl,.inl rfl⟩
 have s6:=Pub.same pb
 have ok6:WOk mg T4 fl (s.heap.objs.size+2) (s.heap.objs.size+1) cc ct k a.ns.length H6:=⟨t45.same s6,s6 _ _ hfl5,s6 _ _ hcc,pb.cel (_,_) (.head _),pb.cel (_,_) (.tail _ (.head _)),by simp⟩
 have t06:Tups H H6:=((t03.trans (.of s4)).trans n5.tups).trans (.of s6)
 refine⟨zbm GB GJ fl (s.heap.objs.size+2) (s.heap.objs.size+1) cc ct k a.ns.length,.ref sb,a.b,fun _=>False,rfl,⟨hz,sb,rfl,hb.keep t06⟩,ok6,fun _ z=>z.elim,fun _ z=>z.elim,?_,.inl ⟨⟨_,ok6.f⟩,ok6.t.no ok6.f (by intro _ z;unfold FunO at z;cases z)⟩,fun H7 v R' k7 ok7 _ hv hcel=>?_⟩
 ·show 3*a.b.sz<=10000000
  lia
 have hcA:∀x∈([(s.heap.objs.size+2,V.str k),(s.heap.objs.size+1,V.int (a.ns.length:Nat))]:List (Addr×V)).map (·.1),∃v,Cel H7 x v:=fun x hx=>by
  obtain⟨y,hy,rfl⟩:=uG.mp hx
  exact⟨_,hcel y hy⟩
 obtain⟨q7,p7,rfl,g1,g2⟩:=hv
 have tm:=yr hcA
 have k57:KM (·=T4) H5 (zY H7 (([(s.heap.objs.size+2,V.str k),(s.heap.objs.size+1,V.int (a.ns.length:Nat))]:List (Addr×V)).map (·.1))):=fun b u nb e=>by
  rw[zU]
  ·exact k7 b u nb (s6 _ _ e)
  ·intro z
   obtain⟨x,hx,rfl⟩:=uG.mp z
   rw[pb.non x hx]at e
   cases e
 have t47:TbG T4 ls4 (zY H7 (([(s.heap.objs.size+2,V.str k),(s.heap.objs.size+1,V.int (a.ns.length:Nat))]:List (Addr×V)).map (·.1))):=ok7.t.keep (fun ps e=>zS hcA e (by intro _ _ _ z;cases z)) fun c q e=>zS hcA e (by intro _ _ _ z;unfold CodO at z;cases z)
 have g1:=tm _ _ g1
 have g2:=g2.keep tm
 generalize zY H7 (([(s.heap.objs.size+2,V.str k),(s.heap.objs.size+1,V.int (a.ns.length:Nat))]:List (Addr×V)).map (·.1))=H8 at *
 have no8:∀{b:Addr}{u:HO},H5 b=some u->(∀ps,u≠.tbl ps)->b≠T4:=fun e n=>t45.no e n
 have K8:TkA cT H8 to dx td tk (nxT tk n):=⟨k57 _ _ (no8 K5.o (by intro _ z;cases z)) K5.o,k57 _ _ (no8 K5.t (by intro _ z;cases z)) K5.t⟩
 have n8:KN H5 H8:=fun b u e n _ _=>k57 b u (no8 e n) e
 have t38:TbG T3 ls3 H8:=t35.keep (fun ps e=>k57 _ _ nT e) fun c q e=>n8.cod e
 have k08:KM (MK to T3 T4) H H8:=fun b u nb e=>k57 b u (fun z=>nb (.inr (.inr z))) (k5 b u (fun z=>nb (.inr (.inl z))) (s4 _ _ (k03 b u nb e)))
 have t08:Tups H H8:=((t03.trans (.of s4)).trans n5.tups).trans n8.tups
 have h38:=n8.tups _ _ (n5.tups _ _ h3)
 refine ixT g1 aI0 ⟨sN2,fun t9 f9=>?_⟩
 refine⟨p3,t9,[.str a.t,.ref q1,.str a.m],(ex2q rfl ⟨rfl,SqT.of (old f9 h38),SqT.of zf,(by intro z;cases z),sN5,(fun e=>by simp at e),fun _ r fr=>?_⟩)⟩
 have s9:Same H8 (upd (upd H8 t9 (.tup [.str k,.ref p7])) r (.tup ([.str a.t,.ref q1,.str a.m]++[.str k,.ref p7]))):=(zj f9 _).new fr
 exact q _ r (k08.trans (.of s9)) ⟨K8.same s9,t38.same s9,t47.same s9⟩ ⟨q1,p7,zf,s9 _ _ (t08 _ _ h2),g2.keep (.of s9)⟩
end
mutual
theorem Bd.wy_sz{k:Str}{n:Nat}:∀b:Bd,b.sz<=(b.wy k n).sz
 |.give x=>by rw[Bd.wy];lia
 |.lt x d b=>by
  have:=Bd.wy_sz (k:=k) (n:=n) b
  rw[Bd.wy]
  split
  ·rw[Bd.sz,Bd.sz];lia
  ·rw[Bd.sz,Bd.sz];lia
 |.hold x y b=>by have:=Bd.wy_sz (k:=k) (n:=n) b;rw[Bd.wy,Bd.sz,Bd.sz];lia
 |.drop x b=>by have:=Bd.wy_sz (k:=k) (n:=n) b;rw[Bd.wy,Bd.sz,Bd.sz];lia
 |.loose x b=>by have:=Bd.wy_sz (k:=k) (n:=n) b;rw[Bd.wy,Bd.sz,Bd.sz];lia
 |.iff x b c=>by
  have h1:=Bd.wy_sz (k:=k) (n:=n) b
  have h2:=Bd.wy_sz (k:=k) (n:=n) c
  have l:∀z:Bd,(Bd.loose k z).sz=z.sz+1:=fun z=>by rw[Bd.sz]
  rw[Bd.wy]
  split
  ·rw[Bd.sz,Bd.sz]
   split<;>split<;>(try rw[l])<;>(try rw[l])<;>lia
  ·lia
 |.cs x as=>by
  have:=Arms.wy_sz (k:=k) (n:=n) as
  rw[Bd.wy]
  split
  ·rw[Bd.sz,Bd.sz];lia
  ·lia
theorem Arms.wy_sz{k:Str}{n:Nat}:∀as:Arms,as.sz<=(as.wy k n).sz
 |.nil=>by rw[Arms.wy];lia
 |.cons t ns m k' b r=>by
  have h1:=Bd.wy_sz (k:=k) (n:=n) b
  have h2:=Arms.wy_sz (k:=k) (n:=n) r
  rw[Arms.wy,Arms.sz,Arms.sz]
  split
  ·lia
  ·rw[Bd.sz];lia
end
mutual
theorem Bd.wy_sz2{k:Str}{n:Nat}:∀b:Bd,(b.wy k n).sz+1<=2*b.sz
 |.give x=>by rw[Bd.wy,Bd.sz];lia
 |.lt x d b=>by
  have:=Bd.wy_sz2 (k:=k) (n:=n) b
  have:=b.sz_pos
  rw[Bd.wy]
  split
  ·rw[Bd.sz,Bd.sz];lia
  ·rw[Bd.sz,Bd.sz];lia
 |.hold x y b=>by have:=Bd.wy_sz2 (k:=k) (n:=n) b;rw[Bd.wy,Bd.sz,Bd.sz];lia
 |.drop x b=>by have:=Bd.wy_sz2 (k:=k) (n:=n) b;rw[Bd.wy,Bd.sz,Bd.sz];lia
 |.loose x b=>by have:=Bd.wy_sz2 (k:=k) (n:=n) b;rw[Bd.wy,Bd.sz,Bd.sz];lia
 |.iff x b c=>by
  have h1:=Bd.wy_sz2 (k:=k) (n:=n) b
  have h2:=Bd.wy_sz2 (k:=k) (n:=n) c
  have:=b.sz_pos
  have:=c.sz_pos
  have l:∀z:Bd,(Bd.loose k z).sz=z.sz+1:=fun z=>by rw[Bd.sz]
  rw[Bd.wy]
  split
  ·rw[Bd.sz,Bd.sz]
   split<;>split<;>(try rw[l])<;>(try rw[l])<;>lia
  ·rw[Bd.sz];lia
 |.cs x as=>by
  have:=Arms.wy_sz2 (k:=k) (n:=n) as
  rw[Bd.wy]
  split
  ·rw[Bd.sz,Bd.sz];lia
  ·rw[Bd.sz];lia
theorem Arms.wy_sz2{k:Str}{n:Nat}:∀as:Arms,(as.wy k n).sz<=2*as.sz
 |.nil=>by rw[Arms.wy,Arms.sz];lia
 |.cons t ns m k' b r=>by
  have h1:=Bd.wy_sz2 (k:=k) (n:=n) b
  have h2:=Arms.wy_sz2 (k:=k) (n:=n) r
  have:=b.sz_pos
  rw[Arms.wy,Arms.sz,Arms.sz]
  split
  ·lia
  ·rw[Bd.sz];lia
end
section
variable{nx:Nat->Nat}
theorem Y1:∀(as:Arms)(n:Nat),as.sz<=(as.tk nx n).1.sz/\(as.tk nx n).1.sz<=2*as.sz
 |.nil,n=>by unfold Arms.tk;show Arms.nil.sz<=Arms.nil.sz/\Arms.nil.sz<=_;lia
 |.cons t ns m k b r,n=>by
  unfold Arms.tk
  have h:=Bd.wy_sz (k:=tokS (nx n)) (n:=ns.length) b
  have h':=Bd.wy_sz2 (k:=tokS (nx n)) (n:=ns.length) b
  have h1:=Y1 r (nx n)
  have h2:=Y1 r n
  split
  ·show _<=(Arms.cons t ns m (tokS (nx n)) (b.wy (tokS (nx n)) ns.length) (r.tk nx (nx n)).1).sz/\(Arms.cons t ns m (tokS (nx n)) (b.wy (tokS (nx n)) ns.length) (r.tk nx (nx n)).1).sz<=_
   rw[Arms.sz,Arms.sz]
   lia
  ·show _<=(Arms.cons t ns m k b (r.tk nx n).1).sz/\(Arms.cons t ns m k b (r.tk nx n).1).sz<=_
   rw[Arms.sz,Arms.sz]
   lia
theorem Vs(b:Bd)(n:Nat):b.sz<=(b.chg nx n).1.sz:=by
 cases b with
 |cs x as =>
  show _<=(Bd.cs x (as.tk nx n).1).sz
  have:=(Y1 (nx:=nx) as n).1
  rw[Bd.sz,Bd.sz]
  lia
 |_=>exact ud _
theorem Zt:∀{as:Arms}{l:List Bd},All2 (fun b c:Bd=>b.sz<=c.sz) as.bs l->as.sz<=(as.wb l).sz
 |.nil,l,h=>by unfold Arms.bs at h;cases h;exact ud _
 |.cons t ns m k b r,l,h=>by
  unfold Arms.bs at h
  cases h with
  |cons h1 h2=>have:=Zt h2;unfold Arms.wb;rw[Arms.sz,Arms.sz];lia
theorem Zu{b:Bd}{l:List Bd}(h:All2 (fun b c:Bd=>b.sz<=c.sz) b.kd l):b.sz<=(b.wb l).sz:=by
 cases b with
 |give x=>exact ud _
 |cs x as=>have:=Zt (as:=as) h;unfold Bd.wb;rw[Bd.sz,Bd.sz];lia
 |iff x b c =>
  cases h with
  |cons h1 h=>cases h with
   |cons h2 h=>cases h;show _<=(Bd.iff _ _ _).sz;rw[Bd.sz,Bd.sz];lia
 |lt x d b=>cases h with
  |cons h1 h=>cases h;show _<=(Bd.lt _ _ _).sz;rw[Bd.sz,Bd.sz];lia
 |hold x d b=>cases h with
  |cons h1 h=>cases h;show _<=(Bd.hold _ _ _).sz;rw[Bd.sz,Bd.sz];lia
 |drop x b=>cases h with
  |cons h1 h=>cases h;show _<=(Bd.drop _ _).sz;rw[Bd.sz,Bd.sz];lia
 |loose x b=>cases h with
  |cons h1 h=>cases h;show _<=(Bd.loose _ _).sz;rw[Bd.sz,Bd.sz];lia
theorem jX{g:Bd->Nat->Bd×Nat}(hg:∀b n,b.sz<=(g b n).1.sz):∀(l:List Bd)(n:Nat),All2 (fun b c:Bd=>b.sz<=c.sz) l (mapL g l n).1
 |[],_=>.nil
 |b::l,n=>by unfold mapL;exact .cons (hg b n) (jX hg l _)
theorem Q2:∀(f:Nat)(b:Bd)(n:Nat),b.sz<=(AB nx f b n).1.sz
 |0,b,n=>ud _
 |f+1,b,n=>by
  have h1:=Vs (nx:=nx) b n
  have h2:=Zu (b:=(b.chg nx n).1) (jX (g:=AB nx f) (Q2 f) (b.chg nx n).1.kd (b.chg nx n).2)
  show _<=((b.chg nx n).1.wb (mapL (AB nx f) (b.chg nx n).1.kd (b.chg nx n).2).1).sz
  lia
variable(hnx:∀n,n < nx n)
include hnx
theorem tk_n:∀(as:Arms)(n:Nat),n<=(as.tk nx n).2
 |.nil,n=>ud _
 |.cons t ns m k b r,n=>by
  unfold Arms.tk
  have:=hnx n
  have h1:=tk_n r (nx n)
  have h2:=tk_n r n
  split
  ·show n<=(r.tk nx (nx n)).2;lia
  ·exact h2
theorem zb5(b:Bd)(n:Nat):n<=(b.chg nx n).2:=by
 cases b with
 |cs x as=>exact tk_n hnx as n
 |_=>exact ud _
theorem xr{g:Bd->Nat->Bd×Nat}(hg:∀b n,n<=(g b n).2):∀(l:List Bd)(n:Nat),n<=(mapL g l n).2
 |[],n=>ud _
 |b::l,n=>by
  unfold mapL
  have h1:=hg b n
  have h2:=xr hg l (g b n).2
  show n<=(mapL g l (g b n).2).2
  lia
theorem AB_n:∀(f:Nat)(b:Bd)(n:Nat),n<=(AB nx f b n).2
 |0,b,n=>ud _
 |f+1,b,n=>by
  have h1:=zb5 hnx b n
  have h2:=xr hnx (AB_n f) (b.chg nx n).1.kd (b.chg nx n).2
  show n<=(mapL (AB nx f) (b.chg nx n).1.kd (b.chg nx n).2).2
  lia
theorem Zv{f:Nat}:∀(l:List Bd)(n:Nat),∀t∈ksL nx f l n,t.post nx<=(mapL (AB nx f) l n).2
 |[],_,t,h=>by cases h
 |b::l,n,t,h=>by
  unfold ksL at h
  unfold mapL
  rcases um.mp h with rfl|h
  ·exact xr hnx (AB_n hnx f) l _
  ·exact Zv l _ t h
omit hnx
structure TOk(nx:Nat->Nat)(t:ATk):Prop where
 m:t.b.mu<=t.f
 z:(t.res nx).sz<=1000000
 p:t.post nx<=LIMT
theorem Bd.mu_pos(b:Bd):0 < b.mu:=by cases b<;>rw[Bd.mu]<;>lia
theorem J4{f:Nat}{l:List Bd}{n:Nat}{t:ATk}(h:t∈ksL nx f l n):t.b∈l:=by
 have:t.b∈(ksL nx f l n).map (·.b):=uG.mpr ⟨t,h,rfl⟩
 rwa [Ve]at this
include hnx in
theorem TOk.kid{f n:Nat}{b:Bd}(h:TOk nx ⟨f+1,n,b⟩){t:ATk}(ht:t∈ksL nx f (b.chg nx n).1.kd (b.chg nx n).2):TOk nx t:=by
 have h1:=vy (J4 ht)
 have h2:=QZ _ _ t ht
 refine⟨?_,?_,uD (Zv hnx _ _ t ht) h.p⟩
 ·have:=h.m
  have:b.mu<=f+1:=this
  lia
 ·have hz:((b.chg nx n).1.wb (mapL (AB nx f) (b.chg nx n).1.kd (b.chg nx n).2).1).sz<=1000000:=h.z
  have h3:=QW (b:=(b.chg nx n).1) (l:=(mapL (AB nx f) (b.chg nx n).1.kd (b.chg nx n).2).1) (xq _ _)
  rw[<- wg]at h3 hz
  have h4:(t.res nx).sz<=bsz ((ksL nx f (b.chg nx n).1.kd (b.chg nx n).2).map (ATk.res nx)):=jV (uG.mpr ⟨t,ht,rfl⟩)
  unfold bsz at h4
  lia
theorem TOk.chg{f n:Nat}{b:Bd}(h:TOk nx ⟨f+1,n,b⟩):(b.chg nx n).1.sz<=1000000:=by
 have hz:((b.chg nx n).1.wb (mapL (AB nx f) (b.chg nx n).1.kd (b.chg nx n).2).1).sz<=1000000:=h.z
 have h2:=Zu (b:=(b.chg nx n).1) (jX (g:=AB nx f) (Q2 f) (b.chg nx n).1.kd (b.chg nx n).2)
 lia
include hnx in
theorem TOk.mid{f n:Nat}{b:Bd}(h:TOk nx ⟨f+1,n,b⟩):(b.chg nx n).2<=LIMT:=uD (xr hnx (AB_n hnx f) (b.chg nx n).1.kd (b.chg nx n).2) h.p
def tkL(nx:Nat->Nat):List ArmR->Nat->List ArmR×Nat
 |[],n=>([],n)
 |a::l,n=>((a.tk nx n).1::(tkL nx l (a.tk nx n).2).1,(tkL nx l (a.tk nx n).2).2)
theorem Zw:∀(as:Arms)(n:Nat),(as.tk nx n).1.l=(tkL nx as.l n).1/\(as.tk nx n).2=(tkL nx as.l n).2
 |.nil,n=>⟨rfl,rfl⟩
 |.cons t ns m k b r,n=>by
  unfold Arms.tk
  show _=(tkL nx (⟨t,ns,m,k,b⟩ :: r.l) n).1/\_=(tkL nx (⟨t,ns,m,k,b⟩ :: r.l) n).2
  unfold tkL ArmR.tk
  by_cases c:armK m ns b=true
  ·rw[if_pos c,if_pos c]
   obtain⟨h1,h2⟩:=Zw r (nx n)
   exact⟨by show _::(r.tk nx (nx n)).1.l=_;rw[h1],h2⟩
  ·rw[if_neg c,if_neg c]
   obtain⟨h1,h2⟩:=Zw r n
   exact⟨by show _::(r.tk nx n).1.l=_;rw[h1],h2⟩
theorem Zx:∀(l:List ArmR)(a:ArmR)(n:Nat),tkL nx (l++[a]) n=((tkL nx l n).1++[(a.tk nx (tkL nx l n).2).1],(a.tk nx (tkL nx l n).2).2)
 |[],a,n=>rfl
 |x::l,a,n=>by
  show((x.tk nx n).1::(tkL nx (l++[a]) (x.tk nx n).2).1,(tkL nx (l++[a]) (x.tk nx n).2).2)=_
  rw[Zx l]
  rfl
include hnx in
theorem J5(a:ArmR)(n:Nat):n<=(a.tk nx n).2:=by
 unfold ArmR.tk
 have:=hnx n
 split
 ·show n<=nx n;lia
 ·exact ud _
include hnx in
theorem Q3:∀(l:List ArmR)(n:Nat),n<=(tkL nx l n).2
 |[],n=>ud _
 |a::l,n=>by
  have h1:=J5 hnx a n
  have h2:=Q3 l (a.tk nx n).2
  show n<=(tkL nx l (a.tk nx n).2).2
  lia
include hnx in
theorem Zy:∀(l:List ArmR)(j n:Nat),(tkL nx (l.take j) n).2<=(tkL nx l n).2
 |[],j,n=>by rw[List.take_nil];exact ud _
 |a::l,0,n=>Q3 hnx (a::l) n
 |a::l,j+1,n=>Zy l j (a.tk nx n).2
end
def wq:Expr:=match zF wS with
 |[_,_,.Return (some e) _]=>Zq e
 |_=>.Constant .none 0 ⟨0,0,0,0⟩
def Zz:Str:=("begun_tokens":Str)++(".<locals>.":Str)++("<lambda>":Str)
def ls2:List (Pos×Str):=[(xD wq,Zz)]
def cl2(c1:Addr):List (Str×Addr):=[("changed",c1)]
abbrev vH(mg:Str->Option Value)(c1 c:Addr)(ct:Value):FuncData:=lamC mg Zz (lmP wq) (lmB wq) (lmS wq) (cl2 c1) c ct
theorem zbn:LamScope ["results","changed"] ["results"] ["changed"] (lmS wq):=⟨rfl,rfl,rfl,by decide +kernel,rfl,by decide +kernel,by decide +kernel,by decide +kernel,by decide +kernel⟩
theorem clo1{H:Hp}{x:Str}{c1:Addr}{v1:V}(h1:Cel H c1 v1):Clo H [(x,c1)] [x] [v1] :=
 YY (cl:=[(x,c1)]) (by simp) (by simp) rfl fun i p v e1 e2=>by
  match i,e1,e2 with
  |0,e1,e2=>cases e1;cases e2;exact h1
  |i+1,e1,_=>simp at e1
def Clo2(mg:Str->Option Value)(H:Hp)(b:Bd)(f:Addr):Prop:=∃c1 c ct p,H f=some (FunO f (vH mg c1 c ct))/\H c=some (CodO c Zz)/\Cel H c1 (.ref p)/\IsBd H b p
theorem Clo2.keep{mg:Str->Option Value}{H H':Hp}{b:Bd}{f:Addr}(h:Clo2 mg H b f)(s:KN H H'):Clo2 mg H' b f:=by
 obtain⟨c1,c,ct,p,h1,h2,h3,h4⟩:=h
 exact⟨c1,c,ct,p,s.fun h1,s.cod h2,s.cel h3,h4.keep s.tups⟩
def zbo(mg:Str->Option Value)(f:Addr)(fd:FuncData):Sp:=fun vs H Q _=>∃(rl c1 c p:Addr)(ct:Value)(b:Bd)(ps:List Addr)(cs:List Bd),vs=[.ref rl]/\fd=vH mg c1 c ct/\H f=some (FunO f fd)/\H c=some (CodO c Zz)/\Cel H c1 (.ref p)/\IsBd H b p/\b.sz<=1000000/\H rl=some (.lst (ps.map V.ref))/\IsBs H cs ps/\cs.length=b.kd.length/\∀H' r,Same H H'->IsBd H' (b.wb cs) r->Q (.ref r) H'
def MK4(to T2 T3 T4:Addr)(b:Addr):Prop:=b=to\/b=T2\/b=T3\/b=T4
structure TA4(cT T2 T3 T4 to dx td:Addr)(tk:List Str)(n:Nat)(H:Hp):Prop where
 k:TkA cT H to dx td tk n
 t2:TbG T2 ls2 H
 t3:TbG T3 ls3 H
 t4:TbG T4 ls4 H
section
variable{cT T2 T3 T4 to dx td:Addr}{tk:List Str}{n:Nat}{H H':Hp}
theorem TA4.same(h:TA4 cT T2 T3 T4 to dx td tk n H)(s:Same H H'):TA4 cT T2 T3 T4 to dx td tk n H':=⟨h.k.same s,h.t2.same s,h.t3.same s,h.t4.same s⟩
theorem TA4.nt(h:TA4 cT T2 T3 T4 to dx td tk n H){b:Addr}{u:HO}(e:H b=some u)(n1:∀ps,u≠.tbl ps)(n2:∀C dx fs,u≠.ins C dx fs):¬ MK4 to T2 T3 T4 b:=by
 rintro(rfl|z|z|z)
 ·rw[h.k.o]at e
  exact n2 _ _ _ (u9.inj e).symm
 ·exact h.t2.no e n1 z
 ·exact h.t3.no e n1 z
 ·exact h.t4.no e n1 z
theorem TA4.kn(h:TA4 cT T2 T3 T4 to dx td tk n H)(k:KM (MK4 to T2 T3 T4) H H'):KN H H':=fun b u e n1 n2 n3=>k b u (h.nt e n1 n3) e
end
def PsT(mg:Str->Option Value)(cT T2 T3 T4 to dx td:Addr)(tk:List Str)(n:Nat)(b:Bd)(H:Hp)(Q:VK):Prop:=∀H' q l fl vs,KM (MK4 to T2 T3 T4) H H'->TA4 cT T2 T3 T4 to dx td tk (b.chg (nxT tk) n).2 H'->H' q=some (.tup [.ref l,.ref fl])->H l=none->H' l=some (.lst vs)->IsKv H' (b.chg (nxT tk) n).1.kd vs->Clo2 mg H' (b.chg (nxT tk) n).1 fl->Q (.ref q) H'
def jY(mg:Str->Option Value)(cT T2 T3 T4:Addr):Sp:=fun vs H Q _=>∃(to dx td p:Addr)(tk:List Str)(n:Nat)(b:Bd),vs=[.ref to,.ref p]/\IsBd H b p/\(b.chg (nxT tk) n).1.sz<=1000000/\(b.chg (nxT tk) n).2<=LIMT/\TA4 cT T2 T3 T4 to dx td tk n H/\PsT mg cT T2 T3 T4 to dx td tk n b H Q
theorem jc{a:ArmR}:∀{as:Arms},a∈as.l->a.b.sz<=as.sz
 |.nil,h=>by unfold Arms.l at h;cases h
 |.cons t ns m k b r,h=>by
  unfold Arms.l at h
  rw[Arms.sz]
  rcases um.mp h with rfl|h
  ·show b.sz<=_;lia
  ·have:=jc h;lia
section
variable{P:Program}{w:World}{K:uc}{mg:Str->Option Value}{base:Heap}
theorem J6(GW:Ca P w K mg base CX0 1 "with_bodies" lS18 spWB)(f c1 c:Addr)(ct:Value):FnOk P w K mg base CX0 2 f (vH mg c1 c ct) ["results"] (zbo mg f (vH mg c1 c ct)):=by
 refine wc (k:=1) zbn (fun vs H Q E h=>?_) (fun A outer s H vs Q E hr h=>?_)
 ·obtain⟨rl,_,_,_,_,_,_,_,rfl,_⟩:=h
  rfl
 ·obtain⟨rl,d1,d0,p,ct',b,ps,cs,rfl,efd,hf,hc,h1,hb,hz,hrl,hcs,hlen,q⟩:=h
  have ecl:cl2 c1=cl2 d1:=congrArg FuncData.closure efd
  have ec:Value.ref c=Value.ref d0:=congrArg FuncData.code efd
  cases ec
  have e1:c1=d1:=by injection ecl with a b;exact(Prod.mk.inj a).2
  subst e1
  have C:=clo1 (x:="changed") h1
  refine⟨hf,hc,_,C,?_⟩
  have hcA:∀a∈(cl2 c1).map (·.2),∃v,Cel H a v:=fun a ha=>by
   obtain⟨p,hp,rfl⟩:=uG.mp ha
   exact C.all p hp
  have tp:=yr hcA
  refine⟨_,(cA GW hr (jA2 (jv 1) (jv 0))),?_⟩
  refine(ex2q rfl (ex2q rfl ⟨p,rl,b,ps,cs,rfl,hb.keep tp,hz,zS hcA hrl (by intro _ _ _ z;cases z),hcs.keep tp,hlen,fun H' r s1 h1 hnn=>?_⟩))
  have sp:Same H' (yT H' H ((cl2 c1).map (·.2))):=fun b u e=>yX hnn e
  exact q _ r (yW s1) (h1.keep (.of sp))
theorem J7(c1 c:Addr)(ct:Value):Binds K (vH mg c1 c ct) ["results"] []:=.all (us1 fun _=>rfl)
variable{f cT:Addr}{fd:FuncData}
theorem scBegT:FnScope ["tokens","body","changed"] lS20 (zo wS):=.ok
theorem zbp:(["tokens","body","changed","arm"]:List Str).Nodup:=by decide +kernel
theorem J8{c T2 T3 T4:Addr}(F:FunC K "begun_tokens" wS c f fd)(hB:BMn mg base)(hc:Uh K c T2=true)(n23:T2≠T3)(n24:T2≠T4)(GT:Ca P w K mg base CX0 6 "with_token" ["tokens","arm"] (Y0 cT T3 T4))(GW:Ca P w K mg base CX0 2 "bodies_within" ["body"] spBW)(m_tuple:mg "tuple"=none):FnOk P w K mg base CX0 7 f fd lS20 (jY mg cT T2 T3 T4):=by
 refine F.byR scBegT (fun vs H Q E h=>?_) (fun A outer s H vs Q E hr h fresh=>?_)
 ·obtain⟨to,dx,td,p,tk,n,b,rfl,_⟩:=h
  rfl
 obtain⟨to,dx,td,p,tk,n,b,rfl,hb,hz,hlim,hT,q⟩:=h
 have hr2:Room 2 _:=hr.mono (by decide)
 refine⟨_,
  (jB (sE 2 scBegT.nd (jv 1))
  (QM (tN zx (xT 1) zq)
   (jB (sE 2 scBegT.nd (zt (jA3 zq (xT 1) (zG zB rfl m_tuple uI (jA1 (yM ["arm"] rfl (yn (xT 1)) (fun _ _ _ _ _=>(gN 3 zbp)) (fun _ _ _ _ _=>zW) (fun _ _ _ _ _=>(cA GT hr (jA2 (jv 0) (jv 3)))))))))) zaW)
  (Yd (zt (jA2 (cA GW hr2 (jA1 (jv 2))) (x9 (params:=lmP wq) (body:=lmB wq) (scope:=lmS wq) (pos:=xD wq) (T:=T2) (qual:=Zz) (cl:=cl2 (s.heap.objs.size+2)) hB rfl hc rfl)))))),?_⟩
 have sl:=zK
 have hnx:∀m,m < nxT tk m:=fun m=>(wF tk m).1
 have fm:(∃(z:Str)(r:List V),H p=some (.tup (.str z::r))/\z≠"case"/\b.chg (nxT tk) n=(b,n))\/∃x as,b=.cs x as:=by
  cases b with
  |give x=>exact .inl ⟨_,_,hb,by decide,rfl⟩
  |hold x y b=>obtain⟨_,hp,_⟩:=hb;exact .inl ⟨_,_,hp,by decide,rfl⟩
  |drop x b=>obtain⟨_,hp,_⟩:=hb;exact .inl ⟨_,_,hp,by decide,rfl⟩
  |loose x b=>obtain⟨_,hp,_⟩:=hb;exact .inl ⟨_,_,hp,by decide,rfl⟩
  |iff x b c=>obtain⟨_,_,hp,_⟩:=hb;exact .inl ⟨_,_,hp,by decide,rfl⟩
  |lt x d b=>obtain⟨_,_,hp,_⟩:=hb;exact .inl ⟨_,_,hp,by decide,rfl⟩
  |cs x as=>exact .inr ⟨x,as,rfl⟩
 rcases fm with⟨z,r0,hp,hne,e⟩|⟨x,as,rfl⟩
 ·refine(ex2q rfl ?_)
  refine(ex2q rfl (ixT hp aI0 ⟨rfl,(ex2q rfl (iteE (decide_eq_false fun y=>hne (V.str.inj y)) ?_))⟩))
  have T1:TA4 cT T2 T3 T4 to dx td tk (b.chg (nxT tk) n).2 H:=by rw[e];exact hT
  have hb1:IsBd H (b.chg (nxT tk) n).1 p:=by rw[e];exact hb
  have k1:KM (MK4 to T2 T3 T4) H H:=KM.refl
  generalize hp1:p=p1 at *
  refine(ex2q rfl ⟨p1,(b.chg (nxT tk) n).1,rfl,hb1,hz,fun H3 l ps s3 f3 el hk=>?_⟩)
  have T3':=T1.same s3
  refine yU T3'.t2 (by unfold ls2;exact .head _) (fun p hp _=>by unfold ls2 at hp;rw[uB.mp hp]) fun H4 fl4 cc ct k4 t24 hfl nfT ncT hfl4 hcc=>?_
  refine⟨sN2,fun r fr=>?_⟩
  have no3:∀{b:Addr}{u:HO},H3 b=some u->(∀ps,u≠.tbl ps)->b≠T2:=fun e n=>T3'.t2.no e n
  have k5:KM (·=T2) H3 (upd H4 r (.tup [.ref l,.ref fl4])):=fun b u n e=>old fr (k4 b u n e)
  have n5:KN H3 (upd H4 r (.tup [.ref l,.ref fl4])):=fun b u e n _ _=>k5 b u (no3 e n) e
  have t25:=t24.same (zj fr (.tup [.ref l,.ref fl4]))
  have t35:TbG T3 ls3 (upd H4 r (.tup [.ref l,.ref fl4])):=T3'.t3.keep (fun ps e=>k5 _ _ n23.symm e) fun c q e=>n5.cod e
  have t45:TbG T4 ls4 (upd H4 r (.tup [.ref l,.ref fl4])):=T3'.t4.keep (fun ps e=>k5 _ _ n24.symm e) fun c q e=>n5.cod e
  have K5:TkA cT (upd H4 r (.tup [.ref l,.ref fl4])) to dx td tk (b.chg (nxT tk) n).2:=⟨k5 _ _ (no3 T3'.k.o (by intro _ z;cases z)) T3'.k.o,k5 _ _ (no3 T3'.k.t (by intro _ z;cases z)) T3'.k.t⟩
  have hr5:=zf (H:=H4) (a:=r) (o:=.tup [.ref l,.ref fl4])
  have el5:=k5 _ _ (no3 el (by intro _ z;cases z)) el
  have hf5:=old (o:=.tup [.ref l,.ref fl4]) fr hfl4
  have hc5:=old (o:=.tup [.ref l,.ref fl4]) fr hcc
  generalize upd H4 r (.tup [.ref l,.ref fl4])=H5 at *
  refine⟨[(s.heap.objs.size+2,.ref p1)],fun x hx=>?_,fun H6 pb=>?_⟩
  ·rw[uB.mp hx]
   exact⟨2,"changed",rfl,rfl,rfl,.inl rfl⟩
  have s6:=Pub.same pb
  have k06:KM (MK4 to T2 T3 T4) H H6:=fun b u nb e=>s6 _ _ (k5 b u (fun z=>nb (.inr (.inl z))) (s3 _ _ (k1 b u nb e)))
  refine q H6 r l fl4 _ k06 ⟨K5.same s6,t25.same s6,t35.same s6,t45.same s6⟩ (s6 _ _ hr5) ?_ (s6 _ _ el5) ((hk.kv.keep n5.tups).keep (.of s6)) ?_
  ·cases e:H l with
   |none=>rfl
   |some u =>
    exfalso
    have:¬ MK4 to T2 T3 T4 l:=fun z=>by
     rcases z with z|z|z|z
     ·rw[z,T1.k.o]at f3;cases f3
     ·obtain⟨ps,h,_⟩:=T1.t2;rw[z,h]at f3;cases f3
     ·obtain⟨ps,h,_⟩:=T1.t3;rw[z,h]at f3;cases f3
     ·obtain⟨ps,h,_⟩:=T1.t4;rw[z,h]at f3;cases f3
    rw[k1 l u this e]at f3
    cases f3
  ·exact⟨_,cc,ct,p1,s6 _ _ hf5,s6 _ _ hc5,pb.cel (_,_) (.head _),((hb1.keep (.of s3)).keep n5.tups).keep (.of s6)⟩
 ·obtain⟨q1,ts,hp,hts,has⟩:=id hb
  have aa:=vz has
  have al:=All2.len aa
  have hb0:(Bd.cs x as).sz<=1000000:=uD (Vs (nx:=nxT tk) _ n) hz
  rw[Bd.sz]at hb0
  have asl:=Arms.lLen as
  have hlim2:(tkL (nxT tk) as.l n).2<=LIMT:=by rw[<- (Zw as n).2];exact hlim
  refine(ex2q rfl ?_)
  refine(ex2q rfl (ixT hp aI0 ⟨rfl,(ex2q rfl (iteT ?_))⟩))
  refine(ex2q rfl (ixT hp aI1 (ex2q rfl (ixT hp aI2 ⟨q1,rfl,⟨_,SqT.of hts⟩,jz (xs:=ts.map V.ref) (fun j τ ys H'=>KM (MK to T3 T4) H H'/\TA3 cT T3 T4 to dx td tk (tkL (nxT tk) (as.l.take j) n).2 H'/\(∃v,τ=[some (.ref to),some (.ref p),some (.ref p),v])/\∃us:List Addr,ys=us.map V.ref/\All2 (IsAr H') (tkL (nxT tk) (as.l.take j) n).1 us) ⟨KM.refl,⟨hT.k,hT.t3,hT.t4⟩,⟨none,rfl⟩,[],rfl,.nil⟩ (fun j τ ys H' _ h=>SqT.of (h.1 _ _ (fun z=>hT.nt hts (by intro _ z;cases z) (by intro _ _ _ z;cases z) (z.imp id .inr)) hts)) ?_ ?_⟩))))
  ·rintro j v τ ys H1 hv ⟨k1,T1,⟨v',rfl⟩,us,rfl,hu⟩
   rw[ug]at hv
   obtain⟨t,ht,rfl⟩:=uj.mp hv
   obtain⟨a,ha,hA⟩:=All2.get aa ht
   have hj:j < as.l.length:=(uf.mp ha).1
   have az:=jc (uw ha)
   have tp1:Tups H H1:=fun b xs e=>k1 b _ (fun z=>hT.nt e (by intro _ z;cases z) (by intro _ _ _ z;cases z) (z.imp id .inr)) e
   have sn:=Zx (nx:=nxT tk) (as.l.take j) a n
   have tj:as.l.take (j+1)=as.l.take j++[a]:=by rw[uJ,ha];rfl
   have lm:=Zy hnx as.l (j+1) n
   rw[tj,sn]at lm
   have ul:=All2.len hu
   have ll:∀(l:List ArmR)(n:Nat),(tkL (nxT tk) l n).1.length=l.length:=by
    intro l
    induction l with
    |nil=>intro n;rfl
    |cons a l ih=>intro n;unfold tkL;rw[uo,uo,ih]
   rw[ll,uM]at ul
   refine(ex2q rfl (ex2q rfl ⟨to,dx,td,t,tk,_,a,rfl,hA.keep tp1,by lia,T1,by lia,fun H2 r k2 T2' hr2'=>⟨by rw[ua];lia,k1.trans k2,?_,⟨_,rfl⟩,us++[r],by rw[ui];rfl,?_⟩⟩))
   ·rw[tj,sn];exact T2'
   ·rw[tj,sn]
    exact(hu.imp fun _ _ z=>z.keep (T1.kn k2).tups).app (.cons hr2' .nil)
  rintro τ ys H1 ⟨k1',T1',_,us,rfl,hu⟩ l2 f2
  rw[ua,<- al,uz (ud _)]at T1' hu
  refine⟨l2,(ex2q rfl (.inl ⟨SqL.of zf,fun t3 f3=>⟨sN3,fun p1 fp=>?_⟩⟩))⟩
  have s1:Same H1 (upd (upd (upd H1 l2 (.lst (us.map V.ref))) t3 (.tup (us.map V.ref))) p1 (.tup [.str "case",.str x,.ref t3])):=((zj f2 _).new f3).new fp
  have e2:(Bd.chg (nxT tk) (.cs x as) n)=(.cs x (as.tk (nxT tk) n).1,(as.tk (nxT tk) n).2):=rfl
  have hb1:IsBd (upd (upd (upd H1 l2 (.lst (us.map V.ref))) t3 (.tup (us.map V.ref))) p1 (.tup [.str "case",.str x,.ref t3])) (Bd.chg (nxT tk) (.cs x as) n).1 p1:=⟨t3,us,zf,old fp zf,vA (by rw[(Zw as n).1];exact hu.imp fun _ _ z=>z.keep (.of s1))⟩
  have k1:KM (MK4 to T2 T3 T4) H (upd (upd (upd H1 l2 (.lst (us.map V.ref))) t3 (.tup (us.map V.ref))) p1 (.tup [.str "case",.str x,.ref t3])):=fun b u nb e=>s1 _ _ (k1' b u (fun z=>nb (z.imp id .inr)) e)
  have nt2:¬ MK to T3 T4 T2:=fun z=>by
   rcases z with z|z|z
   ·obtain⟨ps,h,_⟩:=hT.t2;rw[z,hT.k.o]at h;cases h
   ·exact n23 z
   ·exact n24 z
  have T1:TA4 cT T2 T3 T4 to dx td tk (Bd.chg (nxT tk) (.cs x as) n).2 (upd (upd (upd H1 l2 (.lst (us.map V.ref))) t3 (.tup (us.map V.ref))) p1 (.tup [.str "case",.str x,.ref t3])):=by
   rw[e2,(Zw as n).2]
   refine⟨T1'.k.same s1,(hT.t2.keep (fun ps e=>k1' _ _ nt2 e) fun c q e=>k1' _ _ (fun z=>hT.nt e (by intro _ z;unfold CodO at z;cases z) (by intro _ _ _ z;unfold CodO at z;cases z) (z.imp id .inr)) e).same s1,T1'.t3.same s1,T1'.t4.same s1⟩
  dsimp only
  generalize upd (upd (upd H1 l2 (.lst (us.map V.ref))) t3 (.tup (us.map V.ref))) p1 (.tup [.str "case",.str x,.ref t3])=H2 at *
  generalize hbx:Bd.cs x as=b at *
  refine(ex2q rfl ⟨p1,(b.chg (nxT tk) n).1,rfl,hb1,hz,fun H3 l ps s3 f3 el hk=>?_⟩)
  have T3':=T1.same s3
  refine yU T3'.t2 (by unfold ls2;exact .head _) (fun p hp _=>by unfold ls2 at hp;rw[uB.mp hp]) fun H4 fl4 cc ct k4 t24 hfl nfT ncT hfl4 hcc=>?_
  refine⟨sN2,fun r fr=>?_⟩
  have no3:∀{b:Addr}{u:HO},H3 b=some u->(∀ps,u≠.tbl ps)->b≠T2:=fun e n=>T3'.t2.no e n
  have k5:KM (·=T2) H3 (upd H4 r (.tup [.ref l,.ref fl4])):=fun b u n e=>old fr (k4 b u n e)
  have n5:KN H3 (upd H4 r (.tup [.ref l,.ref fl4])):=fun b u e n _ _=>k5 b u (no3 e n) e
  have t25:=t24.same (zj fr (.tup [.ref l,.ref fl4]))
  have t35:TbG T3 ls3 (upd H4 r (.tup [.ref l,.ref fl4])):=T3'.t3.keep (fun ps e=>k5 _ _ n23.symm e) fun c q e=>n5.cod e
  have t45:TbG T4 ls4 (upd H4 r (.tup [.ref l,.ref fl4])):=T3'.t4.keep (fun ps e=>k5 _ _ n24.symm e) fun c q e=>n5.cod e
  have K5:TkA cT (upd H4 r (.tup [.ref l,.ref fl4])) to dx td tk (b.chg (nxT tk) n).2:=⟨k5 _ _ (no3 T3'.k.o (by intro _ z;cases z)) T3'.k.o,k5 _ _ (no3 T3'.k.t (by intro _ z;cases z)) T3'.k.t⟩
  have hr5:=zf (H:=H4) (a:=r) (o:=.tup [.ref l,.ref fl4])
  have el5:=k5 _ _ (no3 el (by intro _ z;cases z)) el
  have hf5:=old (o:=.tup [.ref l,.ref fl4]) fr hfl4
  have hc5:=old (o:=.tup [.ref l,.ref fl4]) fr hcc
  generalize upd H4 r (.tup [.ref l,.ref fl4])=H5 at *
  refine⟨[(s.heap.objs.size+2,.ref p1)],fun x hx=>?_,fun H6 pb=>?_⟩
  ·rw[uB.mp hx]
   exact⟨2,"changed",rfl,rfl,rfl,.inl rfl⟩
  have s6:=Pub.same pb
  have k06:KM (MK4 to T2 T3 T4) H H6:=fun b u nb e=>s6 _ _ (k5 b u (fun z=>nb (.inr (.inl z))) (s3 _ _ (k1 b u nb e)))
  refine q H6 r l fl4 _ k06 ⟨K5.same s6,t25.same s6,t35.same s6,t45.same s6⟩ (s6 _ _ hr5) ?_ (s6 _ _ el5) ((hk.kv.keep n5.tups).keep (.of s6)) ?_
  ·cases e:H l with
   |none=>rfl
   |some u =>
    exfalso
    have:¬ MK4 to T2 T3 T4 l:=fun z=>by
     rcases z with z|z|z|z
     ·rw[z,T1.k.o]at f3;cases f3
     ·obtain⟨ps,h,_⟩:=T1.t2;rw[z,h]at f3;cases f3
     ·obtain⟨ps,h,_⟩:=T1.t3;rw[z,h]at f3;cases f3
     ·obtain⟨ps,h,_⟩:=T1.t4;rw[z,h]at f3;cases f3
    rw[k1 l u this e]at f3
    cases f3
  ·exact⟨_,cc,ct,p1,s6 _ _ hf5,s6 _ _ hc5,pb.cel (_,_) (.head _),((hb1.keep (.of s3)).keep n5.tups).keep (.of s6)⟩
end
def wr:Expr:=match zF xV with
 |[.Return (some (.BinOp _ _ (.Tuple [e] _ _) _)) _]=>Zq e
 |_=>.Constant .none 0 ⟨0,0,0,0⟩
def ZA:Str:=("anew_def":Str)++(".<locals>.":Str)++("<lambda>":Str)
def ls1:List (Pos×Str):=[(xD wr,ZA)]
def cl1(c1:Addr):List (Str×Addr):=[("tokens",c1)]
abbrev vI(mg:Str->Option Value)(c1 c:Addr)(ct:Value):FuncData:=lamC mg ZA (lmP wr) (lmB wr) (lmS wr) (cl1 c1) c ct
theorem zbq:LamScope ["body","tokens"] ["body"] ["tokens"] (lmS wr):=⟨rfl,rfl,rfl,by decide +kernel,rfl,by decide +kernel,by decide +kernel,by decide +kernel,by decide +kernel⟩
def zbr(mg:Str->Option Value)(cT T2 T3 T4:Addr)(f:Addr)(fd:FuncData):Sp:=fun vs H Q _=>∃(p c1 c to dx td:Addr)(ct:Value)(tk:List Str)(n:Nat)(b:Bd),vs=[.ref p]/\fd=vI mg c1 c ct/\H f=some (FunO f fd)/\H c=some (CodO c ZA)/\Cel H c1 (.ref to)/\IsBd H b p/\(b.chg (nxT tk) n).1.sz<=1000000/\(b.chg (nxT tk) n).2<=LIMT/\TA4 cT T2 T3 T4 to dx td tk n H/\PsT mg cT T2 T3 T4 to dx td tk n b H Q
section
variable{P:Program}{w:World}{K:uc}{mg:Str->Option Value}{base:Heap}{cT T2 T3 T4:Addr}
theorem J9(GB:Ca P w K mg base CX0 7 "begun_tokens" lS20 (jY mg cT T2 T3 T4))(f c1 c:Addr)(ct:Value):FnOk P w K mg base CX0 8 f (vI mg c1 c ct) ["body"] (zbr mg cT T2 T3 T4 f (vI mg c1 c ct)):=by
 refine wc (k:=7) zbq (fun vs H Q E h=>?_) (fun A outer s H vs Q E hr h=>?_)
 ·obtain⟨p,_,_,_,_,_,_,_,_,_,rfl,_⟩:=h
  rfl
 ·obtain⟨p,d1,d0,to,dx,td,ct',tk,n,b,rfl,efd,hf,hc,h1,hb,hz,hlim,hT,q⟩:=h
  have ecl:cl1 c1=cl1 d1:=congrArg FuncData.closure efd
  have ec:Value.ref c=Value.ref d0:=congrArg FuncData.code efd
  cases ec
  have e1:c1=d1:=by injection ecl with a b;exact(Prod.mk.inj a).2
  subst e1
  have C:=clo1 (x:="tokens") h1
  refine⟨hf,hc,_,C,?_⟩
  have hcA:∀a∈(cl1 c1).map (·.2),∃v,Cel H a v:=fun a ha=>by
   obtain⟨p,hp,rfl⟩:=uG.mp ha
   exact C.all p hp
  have tp:=yr hcA
  have mk:∀{b:Addr}{u:HO},H b=some u->(∀o c v,u≠.frz o (CelO c v))->zY H ((cl1 c1).map (·.2)) b=some u:=fun e n=>zS hcA e n
  have tm:∀{T:Addr}{ls:List (Pos×Str)},TbG T ls H->TbG T ls (zY H ((cl1 c1).map (·.2))):=fun h=>h.keep (fun ps e=>mk e (by intro _ _ _ z;cases z)) (fun c q e=>mk e (by intro _ _ _ z;unfold CodO at z;cases z))
  have hTm:TA4 cT T2 T3 T4 to dx td tk n (zY H ((cl1 c1).map (·.2))):=⟨⟨mk hT.k.o (by intro _ _ _ z;unfold TO at z;cases z),mk hT.k.t (by intro _ _ _ z;cases z)⟩,tm hT.t2,tm hT.t3,tm hT.t4⟩
  refine⟨_,(cA GB hr (jA2 (jv 1) (jv 0))),?_⟩
  refine(ex2q rfl (ex2q rfl ⟨to,dx,td,p,tk,n,b,rfl,hb.keep tp,hz,hlim,hTm,fun H' r l fl vs k1 T1 hr1 hl hl1 hk hfin hnn=>?_⟩))
  have sp:Same H' (yT H' H ((cl1 c1).map (·.2))):=fun b u e=>yX hnn e
  have out:∀{b:Addr}{u:HO},H' b=some u->zY H ((cl1 c1).map (·.2)) b=none->H b=none:=fun{b u} e n=>by
   rw[zU]at n
   ·exact n
   ·intro z;rw[hnn b z]at e;cases e
  refine q _ r l fl vs (fun b u n e=>?_) (T1.same sp) (sp _ _ hr1) (out hl1 hl) (sp _ _ hl1) (hk.keep (.of sp)) (hfin.keep (.of sp))
  by_cases z:b∈(cl1 c1).map (·.2)
  ·rw[x0 z];exact e
  ·rw[yo z]
   exact k1 b u n (by rw[zU z];exact e)
theorem q8(c1 c:Addr)(ct:Value):Binds K (vI mg c1 c ct) ["body"] []:=.all (us1 fun _=>rfl)
structure AOk(mg:Str->Option Value)(cT T2 T3 T4 to dx td fl c1 cc:Addr)(ct:Value)(tk:List Str)(n:Nat)(H:Hp):Prop where
 a:TA4 cT T2 T3 T4 to dx td tk n H
 f:H fl=some (FunO fl (vI mg c1 cc ct))
 c:H cc=some (CodO cc ZA)
 e1:Cel H c1 (.ref to)
theorem All2.mapl{α β γ:Type}{F:α->β->Prop}{g:γ->α}:∀{l:List γ}{m:List β},All2 (fun c b=>F (g c) b) l m->All2 F (l.map g) m
 |_,_,.nil=>.nil
 |_,_,.cons a r=>.cons a (All2.mapl r)
theorem All2.unmapl{α β γ:Type}{F:α->β->Prop}{g:γ->α}:∀{l:List γ}{m:List β},All2 F (l.map g) m->All2 (fun c b=>F (g c) b) l m
 |[],_,.nil=>.nil
 |_::_,_,.cons a r=>.cons a (All2.unmapl r)
noncomputable def anewWo (GB:Ca P w K mg base CX0 7 "begun_tokens" lS20 (jY mg cT T2 T3 T4)) (GW:Ca P w K mg base CX0 1 "with_bodies" lS18 spWB) (to dx td fl c1 cc:Addr) (ct:Value) (tk:List Str):WoD P w K mg base 8 where
 Tk:=ATk
 M:=MK4 to T2 T3 T4
 fb:=fl
 wt:=ATk.wt (nxT tk)
 kids:=ATk.kids (nxT tk)
 wk:=JR
 IT:=fun H _ t v=>TOk (nxT tk) t/\∃p,v=.ref p/\IsBd H t.b p
 IR:=fun H _ t v=>∃p,v=.ref p/\IsBd H (t.res (nxT tk)) p
 IF:=fun H _ t v=>TOk (nxT tk) t/\∃f,v=.ref f/\Clo2 mg H (t.b.chg (nxT tk) t.n).1 f
 S:=Nat
 pre:=ATk.n
 mid:=ATk.mid (nxT tk)
 post:=ATk.post (nxT tk)
 chn:=Vf
 Ok:=fun n H=>AOk mg cT T2 T3 T4 to dx td fl c1 cc ct tk n H
 itk:=fun⟨h,p,e,hb⟩ ok z _=>⟨h,p,e,hb.keep fun b xs e=>z b _ e (ok.a.nt e (by intro _ z;cases z) (by intro _ _ _ z;cases z)) (by intro _ z;cases z)⟩
 irk:=fun⟨p,e,hb⟩ ok z _=>⟨p,e,hb.keep fun b xs e=>z b _ e (ok.a.nt e (by intro _ z;cases z) (by intro _ _ _ z;cases z)) (by intro _ z;cases z)⟩
 ifk:=fun⟨h,f,e,hf⟩ ok z _=>⟨h,f,e,hf.keep fun b u e n1 n2 n3=>z b u e (ok.a.nt e n1 n3) fun xs q=>absurd q (n2 xs)⟩
 okk:=fun{H H' s} ok z=>by
  have g:∀b u,H b=some u->(∀xs,u≠.lst xs)->H' b=some u:=fun b u e n=>z b u e fun xs q=>absurd q (n xs)
  have t:∀{T:Addr}{ls:List (Pos×Str)},TbG T ls H->TbG T ls H':=fun h=>h.keep (fun ps e=>g _ _ e (by intro _ z;cases z)) fun c q e=>g _ _ e (by intro _ z;unfold CodO at z;cases z)
  have s:KN H H':=fun b u e _ n _=>g b u e n
  exact⟨⟨⟨g _ _ ok.a.k.o (by intro _ z;unfold TO at z;cases z),g _ _ ok.a.k.t (by intro _ z;cases z)⟩,t ok.a.t2,t ok.a.t3,t ok.a.t4⟩,s.fun ok.f,s.cod ok.c,s.cel ok.e1⟩
 okM:=fun{H b s} ok z=>by
  rcases z with z|z|z|z
  ·rw[z,ok.a.k.o];simp
  ·obtain⟨ps,q,_⟩:=ok.a.t2;rw[z,q];simp
  ·obtain⟨ps,q,_⟩:=ok.a.t3;rw[z,q];simp
  ·obtain⟨ps,q,_⟩:=ok.a.t4;rw[z,q];simp
 beg:=fun{H R t v Q}⟨hz,p,e,hb⟩ ok hRd hRM q=>by
  subst e
  have hnx:∀m,m < nxT tk m:=fun m=>(wF tk m).1
  obtain⟨f,n,b⟩:=t
  cases f with
  |zero=>have:=hz.m;have:=b.mu_pos;exact absurd hz.m (by show ¬ b.mu<=0;lia)
  |succ f =>
  refine⟨_,_,_,J9 GB fl c1 cc ct,q8 c1 cc ct,⟨p,c1,cc,to,dx,td,ct,tk,n,b,rfl,rfl,ok.f,ok.c,ok.e1,hb,hz.chg,hz.mid hnx,ok.a,fun H' r l f2 vs k1 t2 hr hl hl1 hk hfin=>?_⟩,.inl ok.f⟩
  have kn:=ok.a.kn k1
  refine q H' r l f2 vs (fun b=>R b\/b=l) k1 ⟨t2,kn.fun ok.f,kn.cod ok.c,kn.cel ok.e1⟩ hr hl hl1 (fun _ z=>.inl z) ?_ ?_ (.inr rfl) ?_ ⟨hz,f2,rfl,hfin⟩
  ·rintro b (z|rfl)
   ·exact .inl z
   ·exact .inr hl
  ·rintro b (z|rfl)
   ·cases e:H b with
    |none=>exact absurd e (hRd b z)
    |some u=>rw[k1 b u (fun y=>hRM b z y) e];simp
   ·rw[hl1];simp
  ·have hk2:IsKv H' ((ksL (nxT tk) f (b.chg (nxT tk) n).1.kd (b.chg (nxT tk) n).2).map ATk.b) vs:=by rw[Ve];exact hk
   have hk':All2 (fun(t:ATk) v=>∃p,v=V.ref p/\IsBd H' t.b p) (ksL (nxT tk) f (b.chg (nxT tk) n).1.kd (b.chg (nxT tk) n).2) vs:=All2.unmapl hk2
   exact All2.memP hk' fun t ht=>hz.kid hnx ht
 fin:=fun{H R t f2 rl rs Q} hh ok hRd hRM hRr hrl hrs q=>by
  obtain⟨hz,f',e,hf⟩:=hh
  cases e
  obtain⟨f,n,b⟩:=t
  cases f with
  |zero=>have:=b.mu_pos;exact absurd hz.m (by show ¬ b.mu<=0;lia)
  |succ f =>
  obtain⟨d1,c,ct',p,h1,h2,h3,h4⟩:=hf
  have hrs':IsKv H ((ksL (nxT tk) f (b.chg (nxT tk) n).1.kd (b.chg (nxT tk) n).2).map (ATk.res (nxT tk))) rs:=All2.mapl hrs
  rw[wg]at hrs'
  obtain⟨ps,rfl,hps⟩:=hrs'.bs
  refine⟨_,_,_,(J6 GW f2 d1 c ct').mono (by decide),J7 d1 c ct',⟨rl,d1,c,p,ct',_,ps,(ex2q rfl ⟨rfl,h1,h2,h3,h4,hz.chg,hrl,hps,xq _ _,fun H' r s1 hr=>?_⟩)⟩,.inl h1⟩
  refine q H' (.ref r) R (.of s1) ⟨ok.a.same s1,s1 _ _ ok.f,s1 _ _ ok.c,(KN.of s1).cel ok.e1⟩ (fun _ z=>z) (fun _ z=>.inl z) (fun b z=>by
   cases e:H b with
   |none=>exact absurd e (hRd b z)
   |some u=>rw[s1 b u e];simp) ⟨r,rfl,hr⟩
variable{f:Addr}{fd:FuncData}
noncomputable def Df.an (nx:Nat->Nat) (d:Df) (n:Nat):Df×Nat:=(⟨d.g,d.ps,d.os,(AB nx d.b.mu d.b n).1⟩,(AB nx d.b.mu d.b n).2)
structure TA5(cT T1 T2 T3 T4 to dx td:Addr)(tk:List Str)(n:Nat)(H:Hp):Prop where
 a:TA4 cT T2 T3 T4 to dx td tk n H
 t1:TbG T1 ls1 H
def MK5(to T1 T2 T3 T4:Addr)(b:Addr):Prop:=b=T1\/MK4 to T2 T3 T4 b
def Vt(cT T1 T2 T3 T4:Addr):Sp:=fun vs H Q _=>∃(to dx td o:Addr)(tk:List Str)(n:Nat)(d:Df),vs=[.ref to,.ref o]/\IsDf H d o/\TOk (nxT tk) ⟨d.b.mu,n,d.b⟩/\TA5 cT T1 T2 T3 T4 to dx td tk n H/\∀H' r,KM (MK5 to T1 T2 T3 T4) H H'->TA5 cT T1 T2 T3 T4 to dx td tk (d.an (nxT tk) n).2 H'->IsDf H' (d.an (nxT tk) n).1 r->Q (.ref r) H'
theorem scADef:FnScope ["tokens","one"] ["tokens","one"] (zo xV):=.ok
theorem q9{c T1:Addr}(F:FunC K "anew_def" xV c f fd)(hB:BMn mg base)(hc:Uh K c T1=true)(n2:T1≠T2)(n3:T1≠T3)(n4:T1≠T4)(GB:Ca P w K mg base CX0 7 "begun_tokens" lS20 (jY mg cT T2 T3 T4))(GW:Ca P w K mg base CX0 1 "with_bodies" lS18 spWB)(GO:Ca P w K mg base CX0 9 "worked_out" lS21 (vE P w K mg base 8)):FnOk P w K mg base CX0 10 f fd ["tokens","one"] (Vt cT T1 T2 T3 T4):=by
 refine F.by scADef (fun vs H Q E h=>?_) (fun A outer s H vs Q E hr h=>?_)
 ·obtain⟨to,dx,td,o,tk,n,d,rfl,_⟩:=h
  rfl
 obtain⟨to,dx,td,o,tk,n,d,rfl,hI,hz,hT,q⟩:=h
 refine⟨_,
  (zh (zp (zu xa (yk xc (jv 1) yz (yA zn)) (zt (jA1 (WS (E:=E0) GO hr scADef.nd rfl (fun _=>rfl) (jA2 (xT 1) (x9 (params:=lmP wr) (body:=lmB wr) (scope:=lmS wr) (pos:=xD wr) (T:=T1) (qual:=ZA) (cl:=cl1 (s.heap.objs.size+1)) hB rfl hc rfl)))))))),?_⟩
 have sl:=zK
 obtain⟨pp,po,pb,h1,h2,h3,h4⟩:=id hI
 refine(ex2q rfl ⟨3,rfl,o,(ex2q rfl ⟨h1,fun p3 H4 s4 g3=>?_⟩)⟩)
 have s4:Same H H4:=s4
 have t14:=hT.t1.same s4
 have a4:=hT.a.same s4
 refine(ex2q rfl (ixT (s4 _ _ h1) aI3 (yU t14 (by unfold ls1;exact .head _) (fun p hp _=>by unfold ls1 at hp;rw[uB.mp hp]) fun H5 fl cc ct k5 t15 hfl nfT ncT hfl5 hcc=>?_)))
 have no5:∀{b:Addr}{u:HO},H4 b=some u->(∀ps,u≠.tbl ps)->b≠T1:=fun e n=>t14.no e n
 have n5:KN H4 H5:=fun b u e n _ _=>k5 b u (no5 e n) e
 have tb:∀{T:Addr}{ls:List (Pos×Str)},T1≠T->TbG T ls H4->TbG T ls H5:=fun n h=>h.keep (fun ps e=>k5 _ _ n.symm e) fun c q e=>n5.cod e
 have a5:TA4 cT T2 T3 T4 to dx td tk n H5:=⟨⟨k5 _ _ (no5 a4.k.o (by intro _ z;unfold TO at z;cases z)) a4.k.o,k5 _ _ (no5 a4.k.t (by intro _ z;cases z)) a4.k.t⟩,tb n2 a4.t2,tb n3 a4.t3,tb n4 a4.t4⟩
 refine⟨[(s.heap.objs.size+1,.ref to)],fun x hx=>?_,fun H6 pb'=>?_⟩
 ·rw[uB.mp hx]
  exact⟨0,"tokens",rfl,rfl,rfl,.inl rfl⟩
 have s6:=Pub.same pb'
 have ok6:AOk mg cT T2 T3 T4 to dx td fl (s.heap.objs.size+1) cc ct tk n H6:=⟨a5.same s6,s6 _ _ hfl5,s6 _ _ hcc,pb'.cel (_,_) (.head _)⟩
 have t06:Tups H H6:=((Tups.of s4).trans n5.tups).trans (.of s6)
 refine⟨anewWo GB GW to dx td fl (s.heap.objs.size+1) cc ct tk,.ref pb,⟨d.b.mu,n,d.b⟩,fun _=>False,rfl,⟨hz,pb,rfl,h4.keep t06⟩,ok6,fun _ z=>z.elim,fun _ z=>z.elim,?_,.inl ⟨⟨_,ok6.f⟩,ok6.a.nt ok6.f (by intro _ z;unfold FunO at z;cases z) (by intro _ _ _ z;unfold FunO at z;cases z)⟩,fun H7 v R' k7 ok7 _ hv hcel=>?_⟩
 ·show 3*(ATk.res (nxT tk) ⟨d.b.mu,n,d.b⟩).sz<=10000000
  have:=hz.z
  lia
 have hcA:∀x∈([(s.heap.objs.size+1,V.ref to)]:List (Addr×V)).map (·.1),∃v,Cel H7 x v:=fun x hx=>by
  obtain⟨y,hy,rfl⟩:=uG.mp hx
  exact⟨_,hcel y hy⟩
 obtain⟨p7,rfl,g2⟩:=hv
 have tm:=yr hcA
 have k57:KM (MK4 to T2 T3 T4) H5 (zY H7 (([(s.heap.objs.size+1,V.ref to)]:List (Addr×V)).map (·.1))):=fun b u nb e=>by
  rw[zU]
  ·exact k7 b u nb (s6 _ _ e)
  ·intro z
   obtain⟨x,hx,rfl⟩:=uG.mp z
   rw[pb'.non x hx]at e
   cases e
 have mk:∀{b:Addr}{u:HO},H7 b=some u->(∀o c v,u≠.frz o (CelO c v))->zY H7 (([(s.heap.objs.size+1,V.ref to)]:List (Addr×V)).map (·.1)) b=some u:=fun e n=>zS hcA e n
 have tmm:∀{T:Addr}{ls:List (Pos×Str)},TbG T ls H7->TbG T ls (zY H7 (([(s.heap.objs.size+1,V.ref to)]:List (Addr×V)).map (·.1))):=fun h=>h.keep (fun ps e=>mk e (by intro _ _ _ z;cases z)) (fun c q e=>mk e (by intro _ _ _ z;unfold CodO at z;cases z))
 have a8:TA4 cT T2 T3 T4 to dx td tk (d.an (nxT tk) n).2 (zY H7 (([(s.heap.objs.size+1,V.ref to)]:List (Addr×V)).map (·.1))):=⟨⟨mk ok7.a.k.o (by intro _ _ _ z;unfold TO at z;cases z),mk ok7.a.k.t (by intro _ _ _ z;cases z)⟩,tmm ok7.a.t2,tmm ok7.a.t3,tmm ok7.a.t4⟩
 have g2:=g2.keep tm
 generalize zY H7 (([(s.heap.objs.size+1,V.ref to)]:List (Addr×V)).map (·.1))=H8 at *
 have n8:KN H5 H8:=a5.kn k57
 have nt1:¬ MK4 to T2 T3 T4 T1:=fun z=>by
  rcases z with z|z|z|z
  ·obtain⟨ps,h,_⟩:=hT.t1;rw[z,hT.a.k.o]at h;cases h
  ·exact n2 z
  ·exact n3 z
  ·exact n4 z
 have t18:TbG T1 ls1 H8:=t15.keep (fun ps e=>k57 _ _ nt1 e) fun c q e=>n8.cod e
 have k08:KM (MK5 to T1 T2 T3 T4) H H8:=fun b u nb e=>k57 b u (fun z=>nb (.inr z)) (k5 b u (fun z=>nb (.inl z)) (s4 _ _ e))
 have t08:Tups H H8:=((Tups.of s4).trans n5.tups).trans n8.tups
 have g38:=n8.tups _ _ (n5.tups _ _ g3)
 refine⟨sN1,fun t9 f9=>?_⟩
 refine⟨p3,t9,[.str d.g,.ref pp,.ref po],(ex2q rfl ⟨rfl,SqT.of (old f9 g38),SqT.of zf,(by intro z;cases z),sN4,(fun e=>by simp at e),fun _ r fr=>?_⟩)⟩
 have s9:Same H8 (upd (upd H8 t9 (.tup [.ref p7])) r (.tup ([.str d.g,.ref pp,.ref po]++[.ref p7]))):=(zj f9 _).new fr
 exact q _ r (k08.trans (.of s9)) ⟨a8.same s9,t18.same s9⟩ ⟨pp,po,p7,zf,s9 _ _ (t08 _ _ h2),s9 _ _ (t08 _ _ h3),g2.keep (.of s9)⟩
end
def mkD:Dd->List (Nat×Str)
 |.mk _ ns k=>[(ns.length,k)]
 |_=>[]
mutual
def Bd.mks:Bd->List (Nat×Str)
 |.give _=>[]
 |.lt _ d b=>mkD d++b.mks
 |.hold _ _ b=>b.mks
 |.drop _ b=>b.mks
 |.loose _ b=>b.mks
 |.iff _ b c=>b.mks++c.mks
 |.cs _ as=>as.mks
def Arms.mks:Arms->List (Nat×Str)
 |.nil=>[]
 |.cons _ _ _ _ b r=>b.mks++r.mks
end
mutual
def Bd.atk:Bd->List Str
 |.give _=>[]
 |.lt _ _ b=>b.atk
 |.hold _ _ b=>b.atk
 |.drop _ b=>b.atk
 |.loose _ b=>b.atk
 |.iff _ b c=>b.atk++c.atk
 |.cs _ as=>as.atk
def Arms.atk:Arms->List Str
 |.nil=>[]
 |.cons _ _ _ k b r=>k::(b.atk++r.atk)
end
mutual
def Bd.cd:Bd->Nat
 |.give _=>0
 |.lt _ _ b=>b.cd
 |.hold _ _ b=>b.cd
 |.drop _ b=>b.cd
 |.loose _ b=>b.cd
 |.iff _ b c=>max b.cd c.cd
 |.cs _ as=>as.cd+1
def Arms.cd:Arms->Nat
 |.nil=>0
 |.cons _ _ _ _ b r=>max b.cd r.cd
end
mutual
def Bd.na:Bd->Nat
 |.give _=>0
 |.lt _ _ b=>b.na
 |.hold _ _ b=>b.na
 |.drop _ b=>b.na
 |.loose _ b=>b.na
 |.iff _ b c=>b.na+c.na
 |.cs _ as=>as.na
def Arms.na:Arms->Nat
 |.nil=>0
 |.cons _ _ _ _ b r=>b.na+r.na+1
end
mutual
theorem Bd.na_sz:∀b:Bd,b.na<=b.sz
 |.give _=>by rw[Bd.na];lia
 |.lt _ _ b=>by have:=Bd.na_sz b;rw[Bd.na,Bd.sz];lia
 |.hold _ _ b=>by have:=Bd.na_sz b;rw[Bd.na,Bd.sz];lia
 |.drop _ b=>by have:=Bd.na_sz b;rw[Bd.na,Bd.sz];lia
 |.loose _ b=>by have:=Bd.na_sz b;rw[Bd.na,Bd.sz];lia
 |.iff _ b c=>by have:=Bd.na_sz b;have:=Bd.na_sz c;rw[Bd.na,Bd.sz];lia
 |.cs _ as=>by have:=Arms.na_sz as;rw[Bd.na,Bd.sz];lia
theorem Arms.na_sz:∀as:Arms,as.na<=as.sz
 |.nil=>by rw[Arms.na];lia
 |.cons _ _ _ _ b r=>by have:=Bd.na_sz b;have:=Arms.na_sz r;rw[Arms.na,Arms.sz];lia
end
theorem hasD(n:Nat)(d:Dd):isLD n d=(mkD d).any fun q=>decide (q.1=n) && decide (q.2=""):=by
 cases d<;>simp[isLD,mkD]
mutual
theorem Bd.hasL_mks{n:Nat}:∀b:Bd,b.hasL n=b.mks.any fun q=>decide (q.1=n) && decide (q.2="")
 |.give _=>by rw[Bd.hasL,Bd.mks];rfl
 |.lt _ d b=>by rw[Bd.hasL,Bd.mks,Ur,Bd.hasL_mks b,hasD]
 |.hold _ _ b=>by rw[Bd.hasL,Bd.mks,Bd.hasL_mks b]
 |.drop _ b=>by rw[Bd.hasL,Bd.mks,Bd.hasL_mks b]
 |.loose _ b=>by rw[Bd.hasL,Bd.mks,Bd.hasL_mks b]
 |.iff _ b c=>by rw[Bd.hasL,Bd.mks,Ur,Bd.hasL_mks b,Bd.hasL_mks c]
 |.cs _ as=>by rw[Bd.hasL,Bd.mks,Arms.hasL_mks as]
theorem Arms.hasL_mks{n:Nat}:∀as:Arms,as.hasL n=as.mks.any fun q=>decide (q.1=n) && decide (q.2="")
 |.nil=>by rw[Arms.hasL,Arms.mks];rfl
 |.cons _ _ _ _ b r=>by rw[Arms.hasL,Arms.mks,Ur,Bd.hasL_mks b,Arms.hasL_mks r]
end
def RM(T:Str->Prop)(a b:Nat×Str):Prop:=a.1=b.1/\(b.2=a.2\/(a.2=""/\T b.2))
theorem RM.id{T:Str->Prop}:∀l:List (Nat×Str),All2 (RM T) l l
 |[]=>.nil
 |_::l=>.cons ⟨rfl,.inl rfl⟩ (RM.id l)
theorem RM.comp{T U V:Str->Prop}(hT:∀k,T k->k≠"")(t:∀k,T k->V k)(u:∀k,U k->V k):∀{a b c:List (Nat×Str)},All2 (RM T) a b->All2 (RM U) b c->All2 (RM V) a c
 |_,_,_,.nil,.nil=>.nil
 |_,_,_,.cons ⟨e1,h1⟩ r1,.cons ⟨e2,h2⟩ r2=>by
  refine .cons ⟨e1.trans e2,?_⟩ (RM.comp hT t u r1 r2)
  rcases h1 with h1|⟨h1,h1'⟩<;>rcases h2 with h2|⟨h2,h2'⟩
  ·exact .inl (h2.trans h1)
  ·exact .inr ⟨by rw[<- h1];exact h2,u _ h2'⟩
  ·exact .inr ⟨h1,by rw[h2];exact t _ h1'⟩
  ·exact absurd h2 (hT _ h1')
theorem RM.mono{T U:Str->Prop}(t:∀k,T k->U k){a b:List (Nat×Str)}(h:All2 (RM T) a b):All2 (RM U) a b:=h.imp fun _ _ ⟨e,h⟩=>⟨e,h.imp (fun z=>z) fun⟨x,y⟩=>⟨x,t _ y⟩⟩
mutual
theorem Bd.wy_mks{k:Str}{n:Nat}:∀b:Bd,All2 (RM (·=k)) b.mks (b.wy k n).mks
 |.give _=>by rw[Bd.wy];exact RM.id _
 |.lt x d b=>by
  rw[Bd.wy]
  split
  ·rename_i h
   rw[Bd.mks,Bd.mks]
   refine All2.app ?_ (RM.id _)
   cases d with
   |mk t ns k0 =>
    have h:(decide (ns.length=n) && decide (k0=""))=true:=h
    simp at h
    exact .cons ⟨rfl,.inr ⟨h.2,rfl⟩⟩ .nil
   |_=>exact RM.id _
  ·rw[Bd.mks,Bd.mks]
   exact All2.app (RM.id _) (Bd.wy_mks b)
 |.hold _ _ b=>by rw[Bd.wy,Bd.mks,Bd.mks];exact Bd.wy_mks b
 |.drop _ b=>by rw[Bd.wy,Bd.mks,Bd.mks];exact Bd.wy_mks b
 |.loose _ b=>by rw[Bd.wy,Bd.mks,Bd.mks];exact Bd.wy_mks b
 |.iff x b c=>by
  have h1:=Bd.wy_mks (k:=k) (n:=n) b
  have h2:=Bd.wy_mks (k:=k) (n:=n) c
  have l:∀z:Bd,(Bd.loose k z).mks=z.mks:=fun z=>by rw[Bd.mks]
  rw[Bd.wy]
  split
  ·rw[Bd.mks,Bd.mks]
   refine All2.app ?_ ?_
   ·split
    ·exact h1
    ·rw[l];exact RM.id _
   ·split
    ·exact h2
    ·rw[l];exact RM.id _
  ·exact RM.id _
 |.cs x as=>by
  have h:=Arms.wy_mks (k:=k) (n:=n) as
  rw[Bd.wy]
  split
  ·rw[Bd.mks,Bd.mks];exact h
  ·exact RM.id _
theorem Arms.wy_mks{k:Str}{n:Nat}:∀as:Arms,All2 (RM (·=k)) as.mks (as.wy k n).mks
 |.nil=>by rw[Arms.wy];exact RM.id _
 |.cons t ns m k' b r=>by
  have h1:=Bd.wy_mks (k:=k) (n:=n) b
  have h2:=Arms.wy_mks (k:=k) (n:=n) r
  rw[Arms.wy,Arms.mks,Arms.mks]
  refine All2.app ?_ h2
  split
  ·exact h1
  ·rw[Bd.mks];exact RM.id _
end
mutual
theorem Bd.wy_has{k:Str}{n:Nat}:∀b:Bd,b.hasL n=true->(n,k)∈(b.wy k n).mks
 |.give _,h=>by rw[Bd.hasL]at h;cases h
 |.lt x d b,h=>by
  rw[Bd.hasL]at h
  rw[Bd.wy]
  split
  ·rename_i h
   rw[Bd.mks]
   cases d with
   |mk t ns k0 =>
    have h:(decide (ns.length=n) && decide (k0=""))=true:=h
    simp at h
    rw[<- h.1]
    exact .head _
   |_=>cases h
  ·rename_i hd
   rw[Bd.mks]
   refine uh _ (Bd.wy_has b ?_)
   rcases Bool.or_eq_true_iff.mp h with h|h
   ·exact absurd h hd
   ·exact h
 |.hold _ _ b,h=>by rw[Bd.hasL]at h;rw[Bd.wy,Bd.mks];exact Bd.wy_has b h
 |.drop _ b,h=>by rw[Bd.hasL]at h;rw[Bd.wy,Bd.mks];exact Bd.wy_has b h
 |.loose _ b,h=>by rw[Bd.hasL]at h;rw[Bd.wy,Bd.mks];exact Bd.wy_has b h
 |.iff x b c,h=>by
  have h1:=Bd.wy_has (k:=k) (n:=n) b
  have h2:=Bd.wy_has (k:=k) (n:=n) c
  rw[Bd.hasL]at h
  rw[Bd.wy,if_pos h,Bd.mks]
  rcases Bool.or_eq_true_iff.mp h with h|h
  ·refine uk _ ?_
   rw[if_pos h]
   exact h1 h
  ·refine uh _ ?_
   rw[if_pos h]
   exact h2 h
 |.cs x as,h=>by
  rw[Bd.hasL]at h
  rw[Bd.wy,if_pos h,Bd.mks]
  exact Arms.wy_has as h
theorem Arms.wy_has{k:Str}{n:Nat}:∀as:Arms,as.hasL n=true->(n,k)∈(as.wy k n).mks
 |.nil,h=>by rw[Arms.hasL]at h;cases h
 |.cons t ns m k' b r,h=>by
  have h1:=Bd.wy_has (k:=k) (n:=n) b
  have h2:=Arms.wy_has (k:=k) (n:=n) r
  rw[Arms.hasL]at h
  rw[Arms.wy,Arms.mks]
  rcases Bool.or_eq_true_iff.mp h with h|h
  ·refine uk _ ?_
   rw[if_pos h]
   exact h1 h
  ·exact uh _ (h2 h)
end
mutual
def Bd.ar:Bd->List ArmR
 |.give _=>[]
 |.lt _ _ b=>b.ar
 |.hold _ _ b=>b.ar
 |.drop _ b=>b.ar
 |.loose _ b=>b.ar
 |.iff _ b c=>b.ar++c.ar
 |.cs _ as=>as.l++as.ar
def Arms.ar:Arms->List ArmR
 |.nil=>[]
 |.cons _ _ _ _ b r=>b.ar++r.ar
end
mutual
theorem Bd.wy_st{k:Str}{n:Nat}:∀b:Bd,(b.wy k n).atk=b.atk/\(b.wy k n).cd=b.cd/\(b.wy k n).na=b.na/\(b.wy k n).ar.length=b.ar.length
 |.give _=>by rw[Bd.wy];exact⟨rfl,rfl,rfl,rfl⟩
 |.lt x d b=>by
  obtain⟨h1,h2,h3,h4⟩:=Bd.wy_st (k:=k) (n:=n) b
  rw[Bd.wy]
  split
  ·refine⟨by rw[Bd.atk,Bd.atk],by rw[Bd.cd,Bd.cd],by rw[Bd.na,Bd.na],by rw[Bd.ar,Bd.ar]⟩
  ·refine⟨by rw[Bd.atk,Bd.atk,h1],by rw[Bd.cd,Bd.cd,h2],by rw[Bd.na,Bd.na,h3],by rw[Bd.ar,Bd.ar,h4]⟩
 |.hold _ _ b=>by
  obtain⟨h1,h2,h3,h4⟩:=Bd.wy_st (k:=k) (n:=n) b
  rw[Bd.wy]
  exact⟨by rw[Bd.atk,Bd.atk,h1],by rw[Bd.cd,Bd.cd,h2],by rw[Bd.na,Bd.na,h3],by rw[Bd.ar,Bd.ar,h4]⟩
 |.drop _ b=>by
  obtain⟨h1,h2,h3,h4⟩:=Bd.wy_st (k:=k) (n:=n) b
  rw[Bd.wy]
  exact⟨by rw[Bd.atk,Bd.atk,h1],by rw[Bd.cd,Bd.cd,h2],by rw[Bd.na,Bd.na,h3],by rw[Bd.ar,Bd.ar,h4]⟩
 |.loose _ b=>by
  obtain⟨h1,h2,h3,h4⟩:=Bd.wy_st (k:=k) (n:=n) b
  rw[Bd.wy]
  exact⟨by rw[Bd.atk,Bd.atk,h1],by rw[Bd.cd,Bd.cd,h2],by rw[Bd.na,Bd.na,h3],by rw[Bd.ar,Bd.ar,h4]⟩
 |.iff x b c=>by
  obtain⟨h1,h2,h3,h4⟩:=Bd.wy_st (k:=k) (n:=n) b
  obtain⟨g1,g2,g3,g4⟩:=Bd.wy_st (k:=k) (n:=n) c
  have l:∀z:Bd,(Bd.loose k z).atk=z.atk/\(Bd.loose k z).cd=z.cd/\(Bd.loose k z).na=z.na/\(Bd.loose k z).ar=z.ar:=fun z=>⟨by rw[Bd.atk],by rw[Bd.cd],by rw[Bd.na],by rw[Bd.ar]⟩
  have e:∀z:Bd,(z.wy k n).atk=z.atk->(z.wy k n).cd=z.cd->(z.wy k n).na=z.na->(z.wy k n).ar.length=z.ar.length->(if z.hasL n then z.wy k n else .loose k z).atk=z.atk/\(if z.hasL n then z.wy k n else .loose k z).cd=z.cd/\(if z.hasL n then z.wy k n else .loose k z).na=z.na/\(if z.hasL n then z.wy k n else .loose k z).ar.length=z.ar.length:=fun z a1 a2 a3 a4=>by
   obtain⟨l1,l2,l3,l4⟩:=l z
   split
   ·exact⟨a1,a2,a3,a4⟩
   ·exact⟨l1,l2,l3,by rw[l4]⟩
  obtain⟨p1,p2,p3,p4⟩:=e b h1 h2 h3 h4
  obtain⟨q1,q2,q3,q4⟩:=e c g1 g2 g3 g4
  rw[Bd.wy]
  split
  ·exact⟨by rw[Bd.atk,Bd.atk,p1,q1],by rw[Bd.cd,Bd.cd,p2,q2],by rw[Bd.na,Bd.na,p3,q3],by rw[Bd.ar,Bd.ar,ub,ub,p4,q4]⟩
  ·exact⟨rfl,rfl,rfl,rfl⟩
 |.cs x as=>by
  obtain⟨h1,h2,h3,h4,h5⟩:=Arms.wy_st (k:=k) (n:=n) as
  rw[Bd.wy]
  split
  ·exact⟨by rw[Bd.atk,Bd.atk,h1],by rw[Bd.cd,Bd.cd,h2],by rw[Bd.na,Bd.na,h3],by rw[Bd.ar,Bd.ar,ub,ub,h4,h5]⟩
  ·exact⟨rfl,rfl,rfl,rfl⟩
theorem Arms.wy_st{k:Str}{n:Nat}:∀as:Arms,(as.wy k n).atk=as.atk/\(as.wy k n).cd=as.cd/\(as.wy k n).na=as.na/\(as.wy k n).l.length=as.l.length/\(as.wy k n).ar.length=as.ar.length
 |.nil=>by rw[Arms.wy];exact⟨rfl,rfl,rfl,rfl,rfl⟩
 |.cons t ns m k' b r=>by
  obtain⟨h1,h2,h3,h4⟩:=Bd.wy_st (k:=k) (n:=n) b
  obtain⟨g1,g2,g3,g4,g5⟩:=Arms.wy_st (k:=k) (n:=n) r
  have l:∀z:Bd,(Bd.loose k z).atk=z.atk/\(Bd.loose k z).cd=z.cd/\(Bd.loose k z).na=z.na/\(Bd.loose k z).ar=z.ar:=fun z=>⟨by rw[Bd.atk],by rw[Bd.cd],by rw[Bd.na],by rw[Bd.ar]⟩
  obtain⟨l1,l2,l3,l4⟩:=l b
  rw[Arms.wy]
  split
  ·exact⟨by rw[Arms.atk,Arms.atk,h1,g1],by rw[Arms.cd,Arms.cd,h2,g2],by rw[Arms.na,Arms.na,h3,g3],by rw[Arms.l,Arms.l,uo,uo,g4],by rw[Arms.ar,Arms.ar,ub,ub,h4,g5]⟩
  ·exact⟨by rw[Arms.atk,Arms.atk,l1,g1],by rw[Arms.cd,Arms.cd,l2,g2],by rw[Arms.na,Arms.na,l3,g3],by rw[Arms.l,Arms.l,uo,uo,g4],by rw[Arms.ar,Arms.ar,ub,ub,l4,g5]⟩
end
def stB(n:Nat)(free:List Str)(b:Bd):Bool:=b.mks.any fun q=>decide (q.1=n) && (decide (q.2="") || decide (q.2∈free))
def wiB(b:Bd):List Str:=b.atk.filter fun k=>decide (k≠"")
def xJ(a:ArmR):Bool:=decide (a.k≠"") == (decide (a.m="take") && (decide (a.ns.length≠0) && stB a.ns.length (wiB a.b++[a.k]) a.b))
def Tk(lo hi:Nat)(k:Str):Prop:=∃j,lo < j/\j<=hi/\k=tokS j
theorem Tk.mono{lo hi lo' hi':Nat}{k:Str}(h:Tk lo hi k)(h1:lo'<=lo)(h2:hi<=hi'):Tk lo' hi' k:=let ⟨j,a,b,c⟩:=h;⟨j,by lia,by lia,c⟩
theorem All2.memL{α β:Type}{F:α->β->Prop}:∀{l:List α}{m:List β}{a:α},All2 F l m->a∈l->∃b∈m,F a b
 |_,_,_,.nil,h=>by cases h
 |_,_,_,.cons h r,hm=>by
  rcases um.mp hm with rfl|hm
  ·exact⟨_,.head _,h⟩
  ·obtain⟨b,h1,h2⟩:=All2.memL r hm
   exact⟨b,.tail _ h1,h2⟩
theorem All2.memR{α β:Type}{F:α->β->Prop}:∀{l:List α}{m:List β}{b:β},All2 F l m->b∈m->∃a∈l,F a b
 |_,_,_,.nil,h=>by cases h
 |_,_,_,.cons h r,hm=>by
  rcases um.mp hm with rfl|hm
  ·exact⟨_,.head _,h⟩
  ·obtain⟨b,h1,h2⟩:=All2.memR r hm
   exact⟨b,.tail _ h1,h2⟩
structure Fc(b:Bd)(n:Nat)(r:Bd×Nat):Prop where
 le:n<=r.2
 r1:All2 (RM (Tk n r.2)) b.mks r.1.mks
 r2:∀k∈r.1.atk,k=""\/Tk n r.2 k
 r3:r.1.ar.length=b.ar.length
 r4:∀a∈r.1.ar,xJ a=true
structure FcA(as:Arms)(c:Nat)(r:Arms×Nat):Prop where
 r1:All2 (RM (Tk c r.2)) as.mks r.1.mks
 r2:∀k∈r.1.atk,k=""\/Tk c r.2 k
 r3:r.1.l.length=as.l.length
 r3':r.1.ar.length=as.ar.length
 r4:∀a∈r.1.l,xJ a=true
 r4':∀a∈r.1.ar,xJ a=true
def resA(g:Bd->Nat->Bd×Nat)(as:Arms)(m:Nat):Arms×Nat:=(as.wb (mapL g as.bs m).1,(mapL g as.bs m).2)
def Old(n:Nat)(l:List (Nat×Str)):Prop:=∀q∈l,q.2=""\/∃j,j<=n/\q.2=tokS j
theorem Old.mono{n n':Nat}{l:List (Nat×Str)}(h:Old n l)(e:n<=n'):Old n' l:=fun q hq=>(h q hq).imp id fun⟨j,a,b⟩=>⟨j,by lia,b⟩
theorem XF{t:Str}{ns:List Str}{m:Str}{N lo hi:Nat}{b b':Bd}(hk:armK m ns b=true)(h:All2 (RM (Tk lo hi)) (b.wy (tokS N) ns.length).mks b'.mks):xJ ⟨t,ns,m,tokS N,b'⟩=true:=by
 unfold armK at hk
 rw[uQ,uQ]at hk
 obtain⟨h1,h2,h3⟩:=hk
 obtain⟨q,hq,e1,e2⟩:=All2.memL h (Bd.wy_has (k:=tokS N) b h3)
 have e:q=(ns.length,tokS N):=by
  obtain⟨a,c⟩:=q
  rcases e2 with e2|⟨e2,_⟩
  ·exact Prod.ext e1.symm e2
  ·exact absurd e2 (yC N)
 have hs:stB ns.length (wiB b'++[tokS N]) b'=true:=by
  unfold stB
  rw[UG]
  exact⟨q,hq,by rw[e];simp⟩
 unfold xJ
 show(decide (tokS N≠"") == (decide (m="take") && (decide (ns.length≠0) && stB ns.length (wiB b'++[tokS N]) b')))=true
 rw[hs,h1,h2,decide_eq_true (yC N)]
 rfl
theorem Vu{t:Str}{ns:List Str}{m:Str}{n lo hi:Nat}{b b':Bd}(hk:armK m ns b=false)(ho:Old n b.mks)(hn:n<=lo)(h:All2 (RM (Tk lo hi)) b.mks b'.mks)(h2:∀k∈b'.atk,k=""\/Tk lo hi k):xJ ⟨t,ns,m,"",b'⟩=true:=by
 unfold xJ
 show(decide (("":Str)≠"") == (decide (m="take") && (decide (ns.length≠0) && stB ns.length (wiB b'++[("":Str)]) b')))=true
 have e0:decide (("":Str)≠"")=false:=by simp
 rw[e0]
 unfold armK at hk
 cases c1:decide (m="take")with
 |false=>rfl
 |true =>
  rw[c1,UW]at hk
  cases c2:decide (ns.length≠0)with
  |false=>rfl
  |true =>
   rw[c2,UW]at hk
   have hs:stB ns.length (wiB b'++[("":Str)]) b'=false:=by
    unfold stB
    rw[Bool.eq_false_iff]
    intro z
    rw[UG]at z
    obtain⟨q,hq,hz⟩:=z
    rw[uQ,Bool.or_eq_true,decide_eq_true_eq,decide_eq_true_eq,decide_eq_true_eq]at hz
    obtain⟨z1,z2⟩:=hz
    obtain⟨p,hp,e1,e2⟩:=All2.memR h hq
    have np:p.2≠"":=fun e=>by
     have:b.hasL ns.length=true:=by
      rw[Bd.hasL_mks,UG]
      exact⟨p,hp,by rw[e1,z1,e];simp⟩
     rw[this]at hk
     cases hk
    rcases e2 with e2|⟨e2,_⟩
    ·obtain⟨j,hj,ej⟩:=(ho p hp).resolve_left np
     have q2:q.2=tokS j:=e2.trans ej
     rcases z2 with z2|z2
     ·rw[q2]at z2;exact yC j z2
     ·rcases uv.mp z2 with z2|z2
      ·obtain⟨z3,_⟩:=List.mem_filter.mp z2
       rcases h2 _ z3 with z4|⟨i,i1,i2,i3⟩
       ·rw[q2]at z4;exact yC j z4
       ·have:=xA (q2.symm.trans i3)
        lia
      ·rw[uB.mp z2]at q2;exact yC j q2.symm
    ·exact np e2
   rw[hs]
   rfl
section
variable{nx:Nat->Nat}(hnx:∀n,n < nx n)
include hnx
theorem Vv{f:Nat}(ih:∀(b:Bd)(n:Nat),b.mu<=f->(∀k∈b.atk,k="")->Old n b.mks->Fc b n (AB nx f b n)):∀(as:Arms)(c m:Nat),(as.tk nx c).2<=m->(∀b∈(as.tk nx c).1.bs,b.mu<=f)->(∀k∈as.atk,k="")->Old c as.mks->FcA as c (resA (AB nx f) (as.tk nx c).1 m)
 |.nil,c,m,_,_,_,_=>⟨.nil,fun k h=>(by cases h),rfl,rfl,fun a h=>(by cases h),fun a h=>(by cases h)⟩
 |.cons t ns m' k b r,c,m,hm,hmu,ha,ho=>by
  have ek:k="":=ha k (by rw[Arms.atk];exact .head _)
  have hab:∀z∈b.atk,z="":=fun z hz=>ha z (by rw[Arms.atk];exact .tail _ (uk _ hz))
  have har:∀z∈r.atk,z="":=fun z hz=>ha z (by rw[Arms.atk];exact .tail _ (uh _ hz))
  have hob:Old c b.mks:=fun q hq=>ho q (by rw[Arms.mks];exact uk _ hq)
  have hor:Old c r.mks:=fun q hq=>ho q (by rw[Arms.mks];exact uh _ hq)
  by_cases hk:armK m' ns b=true
  ·have et:(Arms.cons t ns m' k b r).tk nx c=(.cons t ns m' (tokS (nx c)) (b.wy (tokS (nx c)) ns.length) (r.tk nx (nx c)).1,(r.tk nx (nx c)).2):=by rw[Arms.tk,if_pos hk]
   rw[et]at hm hmu ⊢
   have hN:=hnx c
   have hN2:=tk_n hnx r (nx c)
   have hm:(r.tk nx (nx c)).2<=m:=hm
   obtain⟨w1,w2,w3,w4⟩:=Bd.wy_st (k:=tokS (nx c)) (n:=ns.length) b
   have wm:=Bd.wy_mks (k:=tokS (nx c)) (n:=ns.length) b
   have F1:=ih (b.wy (tokS (nx c)) ns.length) m (hmu _ (by show _∈_::_;exact .head _)) (by rw[w1];exact hab) fun q hq=>by
    obtain⟨p,hp,e1,e2⟩:=All2.memR wm hq
    rcases e2 with e2|⟨_,e2⟩
    ·rw[e2];exact(hob p hp).imp id fun⟨j,a,b⟩=>⟨j,by lia,b⟩
    ·exact .inr ⟨nx c,by lia,e2⟩
   have l1:=F1.le
   have F2:=Vv ih r (nx c) (AB nx f (b.wy (tokS (nx c)) ns.length) m).2 (by lia) (fun b hb=>hmu b (.tail _ hb)) har (hor.mono (by lia))
   have er:resA (AB nx f) (.cons t ns m' (tokS (nx c)) (b.wy (tokS (nx c)) ns.length) (r.tk nx (nx c)).1) m=(.cons t ns m' (tokS (nx c)) (AB nx f (b.wy (tokS (nx c)) ns.length) m).1 (resA (AB nx f) (r.tk nx (nx c)).1 (AB nx f (b.wy (tokS (nx c)) ns.length) m).2).1,(resA (AB nx f) (r.tk nx (nx c)).1 (AB nx f (b.wy (tokS (nx c)) ns.length) m).2).2):=rfl
   have l2:(AB nx f (b.wy (tokS (nx c)) ns.length) m).2<=(resA (AB nx f) (r.tk nx (nx c)).1 (AB nx f (b.wy (tokS (nx c)) ns.length) m).2).2:=xr hnx (AB_n hnx f) _ _
   rw[er]
   generalize resA (AB nx f) (r.tk nx (nx c)).1 (AB nx f (b.wy (tokS (nx c)) ns.length) m).2=R at *
   have tR:=XF (t:=t) hk F1.r1
   generalize AB nx f (b.wy (tokS (nx c)) ns.length) m=B at *
   refine⟨?_,?_,?_,?_,?_,?_⟩
   ·show All2 _ (Arms.cons t ns m' k b r).mks (Arms.cons t ns m' (tokS (nx c)) B.1 R.1).mks
    rw[Arms.mks,Arms.mks]
    exact All2.app (RM.comp (fun z e=>by rw[e];exact yC _) (fun z e=>⟨nx c,hN,by show _<=R.2;lia,e⟩) (fun z e=>e.mono (by lia) l2) wm F1.r1) (RM.mono (fun z e=>e.mono (by lia) (ud _)) F2.r1)
   ·intro z hz
    have hz:z∈(Arms.cons t ns m' (tokS (nx c)) B.1 R.1).atk:=hz
    rw[Arms.atk]at hz
    rcases um.mp hz with rfl|hz
    ·exact .inr ⟨nx c,hN,by show _<=R.2;lia,rfl⟩
    ·rcases uv.mp hz with hz|hz
     ·exact(F1.r2 z hz).imp (fun e=>e) fun e=>e.mono (by lia) l2
     ·exact(F2.r2 z hz).imp (fun e=>e) fun e=>e.mono (by lia) (ud _)
   ·show(Arms.cons t ns m' (tokS (nx c)) B.1 R.1).l.length=_
    rw[Arms.l,Arms.l,uo,uo,F2.r3]
   ·show(Arms.cons t ns m' (tokS (nx c)) B.1 R.1).ar.length=_
    rw[Arms.ar,Arms.ar,ub,ub,F1.r3,F2.r3',w4]
   ·intro a haa
    have haa:a∈(Arms.cons t ns m' (tokS (nx c)) B.1 R.1).l:=haa
    rw[Arms.l]at haa
    rcases um.mp haa with rfl|haa
    ·exact tR
    ·exact F2.r4 a haa
   ·intro a haa
    have haa:a∈(Arms.cons t ns m' (tokS (nx c)) B.1 R.1).ar:=haa
    rw[Arms.ar]at haa
    exact(uv.mp haa).elim (F1.r4 a) (F2.r4' a)
  ·have et:(Arms.cons t ns m' k b r).tk nx c=(.cons t ns m' k b (r.tk nx c).1,(r.tk nx c).2):=by rw[Arms.tk,if_neg hk]
   have hk:armK m' ns b=false:=by simpa using hk
   rw[et]at hm hmu ⊢
   have hN2:=tk_n hnx r c
   have hm:(r.tk nx c).2<=m:=hm
   have F1:=ih b m (hmu _ (by show _∈_::_;exact .head _)) hab (hob.mono (by lia))
   have l1:=F1.le
   have F2:=Vv ih r c (AB nx f b m).2 (by lia) (fun b hb=>hmu b (.tail _ hb)) har hor
   have er:resA (AB nx f) (.cons t ns m' k b (r.tk nx c).1) m=(.cons t ns m' k (AB nx f b m).1 (resA (AB nx f) (r.tk nx c).1 (AB nx f b m).2).1,(resA (AB nx f) (r.tk nx c).1 (AB nx f b m).2).2):=rfl
   have l2:(AB nx f b m).2<=(resA (AB nx f) (r.tk nx c).1 (AB nx f b m).2).2:=xr hnx (AB_n hnx f) _ _
   rw[er]
   generalize resA (AB nx f) (r.tk nx c).1 (AB nx f b m).2=R at *
   have tR:=Vu (t:=t) (ns:=ns) (m:=m') hk hob (show c<=m by lia) F1.r1 F1.r2
   generalize AB nx f b m=B at *
   subst ek
   refine⟨?_,?_,?_,?_,?_,?_⟩
   ·show All2 _ (Arms.cons t ns m' "" b r).mks (Arms.cons t ns m' "" B.1 R.1).mks
    rw[Arms.mks,Arms.mks]
    exact All2.app (RM.mono (fun z e=>e.mono (by lia) l2) F1.r1) F2.r1
   ·intro z hz
    have hz:z∈(Arms.cons t ns m' "" B.1 R.1).atk:=hz
    rw[Arms.atk]at hz
    rcases um.mp hz with rfl|hz
    ·exact .inl rfl
    ·rcases uv.mp hz with hz|hz
     ·exact(F1.r2 z hz).imp (fun e=>e) fun e=>e.mono (by lia) l2
     ·exact F2.r2 z hz
   ·show(Arms.cons t ns m' "" B.1 R.1).l.length=_
    rw[Arms.l,Arms.l,uo,uo,F2.r3]
   ·show(Arms.cons t ns m' "" B.1 R.1).ar.length=_
    rw[Arms.ar,Arms.ar,ub,ub,F1.r3,F2.r3']
   ·intro a haa
    have haa:a∈(Arms.cons t ns m' "" B.1 R.1).l:=haa
    rw[Arms.l]at haa
    rcases um.mp haa with rfl|haa
    ·exact tR
    ·exact F2.r4 a haa
   ·intro a haa
    have haa:a∈(Arms.cons t ns m' "" B.1 R.1).ar:=haa
    rw[Arms.ar]at haa
    exact(uv.mp haa).elim (F1.r4 a) (F2.r4' a)
theorem ABF:∀(f:Nat)(b:Bd)(n:Nat),b.mu<=f->(∀k∈b.atk,k="")->Old n b.mks->Fc b n (AB nx f b n)
 |0,b,n,h,_,_=>by have:=b.mu_pos;lia
 |f+1,b,n,h,ha,ho=>by
  have ih:=ABF f
  cases b with
  |give x=>exact⟨ud _,.nil,fun k h=>(by cases h),rfl,fun a h=>(by cases h)⟩
  |lt x d b =>
   rw[Bd.mu]at h
   rw[Bd.atk]at ha
   have F:=ih b n (by lia) ha fun q hq=>ho q (by rw[Bd.mks];exact uh _ hq)
   have e:AB nx (f+1) (.lt x d b) n=(.lt x d (AB nx f b n).1,(AB nx f b n).2):=rfl
   rw[e]
   generalize AB nx f b n=B at *
   refine⟨F.le,?_,?_,?_,?_⟩
   ·show All2 _ (Bd.lt x d b).mks (Bd.lt x d B.1).mks
    rw[Bd.mks,Bd.mks]
    exact All2.app (RM.id _) F.r1
   ·show ∀k∈(Bd.lt x d B.1).atk,_
    rw[Bd.atk];exact F.r2
   ·show(Bd.lt x d B.1).ar.length=_
    rw[Bd.ar,Bd.ar];exact F.r3
   ·show ∀a∈(Bd.lt x d B.1).ar,_
    rw[Bd.ar];exact F.r4
  |hold x y b =>
   rw[Bd.mu]at h
   rw[Bd.atk]at ha
   rw[Bd.mks]at ho
   have F:=ih b n (by lia) ha ho
   have e:AB nx (f+1) (.hold x y b) n=(.hold x y (AB nx f b n).1,(AB nx f b n).2):=rfl
   rw[e]
   generalize AB nx f b n=B at *
   refine⟨F.le,?_,?_,?_,?_⟩
   ·show All2 _ (Bd.hold x y b).mks (Bd.hold x y B.1).mks
    rw[Bd.mks,Bd.mks];exact F.r1
   ·show ∀k∈(Bd.hold x y B.1).atk,_
    rw[Bd.atk];exact F.r2
   ·show(Bd.hold x y B.1).ar.length=_
    rw[Bd.ar,Bd.ar];exact F.r3
   ·show ∀a∈(Bd.hold x y B.1).ar,_
    rw[Bd.ar];exact F.r4
  |drop x b =>
   rw[Bd.mu]at h
   rw[Bd.atk]at ha
   rw[Bd.mks]at ho
   have F:=ih b n (by lia) ha ho
   have e:AB nx (f+1) (.drop x b) n=(.drop x (AB nx f b n).1,(AB nx f b n).2):=rfl
   rw[e]
   generalize AB nx f b n=B at *
   refine⟨F.le,?_,?_,?_,?_⟩
   ·show All2 _ (Bd.drop x b).mks (Bd.drop x B.1).mks
    rw[Bd.mks,Bd.mks];exact F.r1
   ·show ∀k∈(Bd.drop x B.1).atk,_
    rw[Bd.atk];exact F.r2
   ·show(Bd.drop x B.1).ar.length=_
    rw[Bd.ar,Bd.ar];exact F.r3
   ·show ∀a∈(Bd.drop x B.1).ar,_
    rw[Bd.ar];exact F.r4
  |loose x b =>
   rw[Bd.mu]at h
   rw[Bd.atk]at ha
   rw[Bd.mks]at ho
   have F:=ih b n (by lia) ha ho
   have e:AB nx (f+1) (.loose x b) n=(.loose x (AB nx f b n).1,(AB nx f b n).2):=rfl
   rw[e]
   generalize AB nx f b n=B at *
   refine⟨F.le,?_,?_,?_,?_⟩
   ·show All2 _ (Bd.loose x b).mks (Bd.loose x B.1).mks
    rw[Bd.mks,Bd.mks];exact F.r1
   ·show ∀k∈(Bd.loose x B.1).atk,_
    rw[Bd.atk];exact F.r2
   ·show(Bd.loose x B.1).ar.length=_
    rw[Bd.ar,Bd.ar];exact F.r3
   ·show ∀a∈(Bd.loose x B.1).ar,_
    rw[Bd.ar];exact F.r4
  |iff x b c =>
   rw[Bd.mu]at h
   rw[Bd.atk]at ha
   rw[Bd.mks]at ho
   have F:=ih b n (by lia) (fun k hk=>ha k (uk _ hk)) fun q hq=>ho q (uk _ hq)
   have G:=ih c (AB nx f b n).2 (by lia) (fun k hk=>ha k (uh _ hk)) ((show Old n c.mks from fun q hq=>ho q (uh _ hq)).mono F.le)
   have e:AB nx (f+1) (.iff x b c) n=(.iff x (AB nx f b n).1 (AB nx f c (AB nx f b n).2).1,(AB nx f c (AB nx f b n).2).2):=rfl
   rw[e]
   generalize AB nx f c (AB nx f b n).2=C at *
   generalize AB nx f b n=B at *
   have l1:=F.le
   have l2:=G.le
   refine⟨by show n<=C.2;lia,?_,?_,?_,?_⟩
   ·show All2 _ (Bd.iff x b c).mks (Bd.iff x B.1 C.1).mks
    rw[Bd.mks,Bd.mks]
    exact All2.app (RM.mono (fun z e=>e.mono (ud _) l2) F.r1) (RM.mono (fun z e=>e.mono l1 (ud _)) G.r1)
   ·show ∀k∈(Bd.iff x B.1 C.1).atk,_
    rw[Bd.atk]
    intro k hk
    rcases uv.mp hk with hk|hk
    ·exact(F.r2 k hk).imp (fun e=>e) fun e=>e.mono (ud _) l2
    ·exact(G.r2 k hk).imp (fun e=>e) fun e=>e.mono l1 (ud _)
   ·show(Bd.iff x B.1 C.1).ar.length=_
    rw[Bd.ar,Bd.ar,ub,ub,F.r3,G.r3]
   ·show ∀a∈(Bd.iff x B.1 C.1).ar,_
    rw[Bd.ar]
    intro a haa
    exact(uv.mp haa).elim (F.r4 a) (G.r4 a)
  |cs x as =>
   have hmu:∀b∈(as.tk nx n).1.bs,b.mu<=f:=fun b hb=>by
    have:b.mu < (Bd.cs x as).mu:=vy (nx:=nx) (n:=n) (b:=.cs x as) hb
    lia
   rw[Bd.atk]at ha
   rw[Bd.mks]at ho
   have F:=Vv hnx ih as n (as.tk nx n).2 (ud _) hmu ha ho
   have e:AB nx (f+1) (.cs x as) n=(.cs x (resA (AB nx f) (as.tk nx n).1 (as.tk nx n).2).1,(resA (AB nx f) (as.tk nx n).1 (as.tk nx n).2).2):=rfl
   have le:=AB_n hnx (f+1) (.cs x as) n
   rw[e]at le ⊢
   generalize resA (AB nx f) (as.tk nx n).1 (as.tk nx n).2=R at *
   refine⟨le,?_,?_,?_,?_⟩
   ·show All2 _ (Bd.cs x as).mks (Bd.cs x R.1).mks
    rw[Bd.mks,Bd.mks];exact F.r1
   ·show ∀k∈(Bd.cs x R.1).atk,_
    rw[Bd.atk];exact F.r2
   ·show(Bd.cs x R.1).ar.length=_
    rw[Bd.ar,Bd.ar,ub,ub,F.r3,F.r3']
   ·show ∀a∈(Bd.cs x R.1).ar,_
    rw[Bd.ar]
    intro a haa
    exact(uv.mp haa).elim (F.r4 a) (F.r4' a)
end
mutual
def Bd.dp:Bd->Nat
 |.give _=>1
 |.lt _ _ b=>b.dp+1
 |.hold _ _ b=>b.dp+1
 |.drop _ b=>b.dp+1
 |.loose _ b=>b.dp+1
 |.iff _ b c=>max b.dp c.dp+1
 |.cs _ as=>as.dp+1
def Arms.dp:Arms->Nat
 |.nil=>0
 |.cons _ _ _ _ b r=>max b.dp r.dp
end
theorem Bd.dp_pos(b:Bd):0 < b.dp:=by cases b<;>rw[Bd.dp]<;>lia
mutual
theorem Bd.mu_dp:∀b:Bd,b.mu<=b.dp+b.cd
 |.give _=>by rw[Bd.mu,Bd.dp];lia
 |.lt _ _ b=>by have:=Bd.mu_dp b;rw[Bd.mu,Bd.dp,Bd.cd];lia
 |.hold _ _ b=>by have:=Bd.mu_dp b;rw[Bd.mu,Bd.dp,Bd.cd];lia
 |.drop _ b=>by have:=Bd.mu_dp b;rw[Bd.mu,Bd.dp,Bd.cd];lia
 |.loose _ b=>by have:=Bd.mu_dp b;rw[Bd.mu,Bd.dp,Bd.cd];lia
 |.iff _ b c=>by have:=Bd.mu_dp b;have:=Bd.mu_dp c;rw[Bd.mu,Bd.dp,Bd.cd];lia
 |.cs _ as=>by have:=Arms.mu_dp as;rw[Bd.mu,Bd.dp,Bd.cd];lia
theorem Arms.mu_dp:∀as:Arms,as.mu<=as.dp+as.cd
 |.nil=>by rw[Arms.mu];lia
 |.cons _ _ _ _ b r=>by have:=Bd.mu_dp b;have:=Arms.mu_dp r;rw[Arms.mu,Arms.dp,Arms.cd];lia
end
theorem ZB{M:Nat}:∀{as:Arms}{l:List Bd},l.length=as.bs.length->(∀c∈l,c.dp<=M)->(as.wb l).dp<=M
 |.nil,l,h,_=>by
  have:l=[]:=Uo.mp h
  rw[this]
  show Arms.nil.dp<=M
  rw[Arms.dp];lia
 |.cons t ns m k b r,[],h,_=>by simp[Arms.bs]at h
 |.cons t ns m k b r,c::l,h,hc=>by
  unfold Arms.wb
  rw[Arms.dp]
  have h1:=hc c (.head _)
  have h2:=ZB (as:=r) (l:=l) (by simpa[Arms.bs]using h) fun c h=>hc c (.tail _ h)
  lia
theorem zb6{M:Nat}{b:Bd}{l:List Bd}(h:l.length=b.kd.length)(hc:∀c∈l,c.dp<=M):(b.wb l).dp<=M+1:=by
 cases b with
 |give x=>show(Bd.give x).dp<=_;rw[Bd.dp];lia
 |cs x as=>show(Bd.cs x (as.wb l)).dp<=_;rw[Bd.dp];have:=ZB (as:=as) h hc;lia
 |iff x b c =>
  match l,h with
  |[b',c'],_=>show(Bd.iff x b' c').dp<=_;rw[Bd.dp];have:=hc b' (by simp);have:=hc c' (by simp);lia
 |lt x d b =>
  match l,h with
  |[b'],_=>show(Bd.lt x d b').dp<=_;rw[Bd.dp];have:=hc b' (by simp);lia
 |hold x d b =>
  match l,h with
  |[b'],_=>show(Bd.hold x d b').dp<=_;rw[Bd.dp];have:=hc b' (by simp);lia
 |drop x b =>
  match l,h with
  |[b'],_=>show(Bd.drop x b').dp<=_;rw[Bd.dp];have:=hc b' (by simp);lia
 |loose x b =>
  match l,h with
  |[b'],_=>show(Bd.loose x b').dp<=_;rw[Bd.dp];have:=hc b' (by simp);lia
theorem ZC{g:Bd->Nat->Bd×Nat}{c:Bd}:∀{l:List Bd}{n:Nat},c∈(mapL g l n).1->∃b∈l,∃m,c=(g b m).1
 |[],n,h=>by cases h
 |b::l,n,h=>by
  unfold mapL at h
  rcases um.mp h with e|h
  ·exact⟨b,.head _,n,e⟩
  ·obtain⟨b',h1,m,h2⟩:=ZC h
   exact⟨b',.tail _ h1,m,h2⟩
section
variable{nx:Nat->Nat}
theorem Q4:∀(f:Nat)(b:Bd)(n:Nat),b.mu<=f->(AB nx f b n).1.dp<=b.mu
 |0,b,n,h=>by have:=b.mu_pos;lia
 |f+1,b,n,h=>by
  have hp:=b.mu_pos
  have:=zb6 (M:=b.mu-1) (b:=(b.chg nx n).1) (l:=(mapL (AB nx f) (b.chg nx n).1.kd (b.chg nx n).2).1) (xq _ _) fun c hc=>by
   obtain⟨b',h1,m,rfl⟩:=ZC hc
   have h2:=vy h1
   have h3:=Q4 f b' m (by lia)
   lia
  show((b.chg nx n).1.wb (mapL (AB nx f) (b.chg nx n).1.kd (b.chg nx n).2).1).dp<=_
  lia
theorem Y2:∀(as:Arms)(n:Nat),(as.tk nx n).1.cd=as.cd/\(as.tk nx n).1.bs.map Bd.na=as.bs.map Bd.na
 |.nil,n=>⟨rfl,rfl⟩
 |.cons t ns m k b r,n=>by
  unfold Arms.tk
  obtain⟨w1,w2,w3,w4⟩:=Bd.wy_st (k:=tokS (nx n)) (n:=ns.length) b
  obtain⟨a1,a2⟩:=Y2 r (nx n)
  obtain⟨b1,b2⟩:=Y2 r n
  split
  ·refine⟨?_,?_⟩
   ·show(Arms.cons t ns m (tokS (nx n)) (b.wy (tokS (nx n)) ns.length) (r.tk nx (nx n)).1).cd=_
    rw[Arms.cd,Arms.cd,w2,a1]
   ·show(b.wy (tokS (nx n)) ns.length::(r.tk nx (nx n)).1.bs).map Bd.na=(b::r.bs).map Bd.na
    rw[uu,uu,w3,a2]
  ·refine⟨?_,?_⟩
   ·show(Arms.cons t ns m k b (r.tk nx n).1).cd=_
    rw[Arms.cd,Arms.cd,b1]
   ·show(b::(r.tk nx n).1.bs).map Bd.na=(b::r.bs).map Bd.na
    rw[uu,uu,b2]
theorem Y3{g:Bd->Nat->Bd×Nat}(hg:∀b n,(g b n).1.sz<=2 ^ b.cd*b.sz):∀(as:Arms)(m:Nat),(resA g as m).1.sz<=2 ^ as.cd*as.sz
 |.nil,m=>by show Arms.nil.sz<=_;rw[Arms.sz];lia
 |.cons t ns m' k b r,m=>by
  have h1:=hg b m
  have h2:=Y3 hg r (g b m).2
  show(Arms.cons t ns m' k (g b m).1 (resA g r (g b m).2).1).sz<=_
  rw[Arms.sz,Arms.sz,Arms.cd]
  have p1:2 ^ b.cd<=2 ^ (max b.cd r.cd):=UB (by decide) (by lia)
  have p2:2 ^ r.cd<=2 ^ (max b.cd r.cd):=UB (by decide) (by lia)
  have p3:1<=2 ^ (max b.cd r.cd):=UZ
  generalize 2 ^ (max b.cd r.cd)=q at *
  have q1:2 ^ b.cd*b.sz<=q*b.sz:=uU _ p1
  have q2:2 ^ r.cd*r.sz<=q*r.sz:=uU _ p2
  have q3:q*(b.sz+r.sz+1)=q*b.sz+q*r.sz+q:=by rw[U0,U0,Nat.mul_one]
  lia
theorem Vw:∀(f:Nat)(b:Bd)(n:Nat),(AB nx f b n).1.sz<=2 ^ b.cd*b.sz
 |0,b,n=>Nat.le_mul_of_pos_left _ (Nat.two_pow_pos _)
 |f+1,b,n=>by
  have ih:=Vw f
  have one:∀{c p z:Nat},z<=2 ^ c*p->z+1<=2 ^ c*(p+1):=fun{c p z} h=>by
   have p3:1<=2 ^ c:=UZ
   rw[U0,Nat.mul_one]
   lia
  cases b with
  |give x=>exact Nat.le_mul_of_pos_left _ (Nat.two_pow_pos _)
  |lt x d b=>show(Bd.lt x d (AB nx f b n).1).sz<=_;rw[Bd.sz,Bd.sz,Bd.cd];exact one (ih b n)
  |hold x d b=>show(Bd.hold x d (AB nx f b n).1).sz<=_;rw[Bd.sz,Bd.sz,Bd.cd];exact one (ih b n)
  |drop x b=>show(Bd.drop x (AB nx f b n).1).sz<=_;rw[Bd.sz,Bd.sz,Bd.cd];exact one (ih b n)
  |loose x b=>show(Bd.loose x (AB nx f b n).1).sz<=_;rw[Bd.sz,Bd.sz,Bd.cd];exact one (ih b n)
  |iff x b c =>
   show(Bd.iff x (AB nx f b n).1 (AB nx f c (AB nx f b n).2).1).sz<=_
   have h1:=ih b n
   have h2:=ih c (AB nx f b n).2
   rw[Bd.sz,Bd.sz,Bd.cd]
   have p1:2 ^ b.cd<=2 ^ (max b.cd c.cd):=UB (by decide) (by lia)
   have p2:2 ^ c.cd<=2 ^ (max b.cd c.cd):=UB (by decide) (by lia)
   have p3:1<=2 ^ (max b.cd c.cd):=UZ
   generalize 2 ^ (max b.cd c.cd)=q at *
   have q1:2 ^ b.cd*b.sz<=q*b.sz:=uU _ p1
   have q2:2 ^ c.cd*c.sz<=q*c.sz:=uU _ p2
   have q3:q*(b.sz+c.sz+1)=q*b.sz+q*c.sz+q:=by rw[U0,U0,Nat.mul_one]
   lia
  |cs x as =>
   have h1:=Y3 ih (as.tk nx n).1 (as.tk nx n).2
   have h2:=(Y1 (nx:=nx) as n).2
   rw[(Y2 as n).1]at h1
   show(Bd.cs x (resA (AB nx f) (as.tk nx n).1 (as.tk nx n).2).1).sz<=_
   rw[Bd.sz,Bd.sz,Bd.cd,Nat.pow_succ]
   have p3:1<=2 ^ as.cd:=UZ
   generalize 2 ^ as.cd=q at *
   have q1:q*(as.tk nx n).1.sz<=q*(2*as.sz):=Nat.mul_le_mul_left _ h2
   have q2:q*2*(as.sz+1)=q*(2*as.sz)+q*2:=by rw[Nat.mul_assoc,U0,U0]
   lia
variable{C:Nat}(hC:∀m,nx m<=m+C)
include hC
theorem Yk:∀(as:Arms)(n:Nat),(as.tk nx n).2<=n+as.l.length*C
 |.nil,n=>by show n<=_;lia
 |.cons t ns m k b r,n=>by
  unfold Arms.tk
  have h:=hC n
  have h1:=Yk r (nx n)
  have h2:=Yk r n
  show(if armK m ns b=true then _ else _:Arms×Nat).2<=n+(r.l.length+1)*C
  rw[Nat.add_mul,Nat.one_mul]
  split
  ·show(r.tk nx (nx n)).2<=_;lia
  ·show(r.tk nx n).2<=_;lia
theorem ZD{g:Bd->Nat->Bd×Nat}(hg:∀b n,(g b n).2<=n+b.na*C):∀(l:List Bd)(n:Nat),(mapL g l n).2<=n+(l.map Bd.na).sum*C
 |[],n=>by show n<=_;lia
 |b::l,n=>by
  have h1:=hg b n
  have h2:=ZD hg l (g b n).2
  show(mapL g l (g b n).2).2<=_
  rw[uu,uW,Nat.add_mul]
  lia
omit hC in
theorem Q5:∀as:Arms,as.na=as.l.length+(as.bs.map Bd.na).sum
 |.nil=>by rw[Arms.na];rfl
 |.cons t ns m k b r=>by
  rw[Arms.na,Q5 r]
  show _=(r.l.length+1)+((b::r.bs).map Bd.na).sum
  rw[uu,uW]
  lia
theorem Yl:∀(f:Nat)(b:Bd)(n:Nat),(AB nx f b n).2<=n+b.na*C
 |0,b,n=>by show n<=_;lia
 |f+1,b,n=>by
  have ih:=Yl f
  cases b with
  |give x=>show n<=_;lia
  |lt x d b=>rw[Bd.na];exact ih b n
  |hold x d b=>rw[Bd.na];exact ih b n
  |drop x b=>rw[Bd.na];exact ih b n
  |loose x b=>rw[Bd.na];exact ih b n
  |iff x b c =>
   have h1:=ih b n
   have h2:=ih c (AB nx f b n).2
   show(AB nx f c (AB nx f b n).2).2<=_
   rw[Bd.na,Nat.add_mul]
   lia
  |cs x as =>
   have h1:=Yk hC as n
   have h2:=ZD hC ih (as.tk nx n).1.bs (as.tk nx n).2
   rw[(Y2 as n).2]at h2
   show(mapL (AB nx f) (as.tk nx n).1.bs (as.tk nx n).2).2<=_
   rw[Bd.na,Q5,Nat.add_mul]
   lia
end
noncomputable def anL (nx:Nat->Nat):List Df->Nat->List Df×Nat
 |[],n=>([],n)
 |d::l,n=>((d.an nx n).1::(anL nx l (d.an nx n).2).1,(anL nx l (d.an nx n).2).2)
theorem vJ{nx:Nat->Nat}:∀(l:List Df)(a:Df)(n:Nat),anL nx (l++[a]) n=((anL nx l n).1++[(a.an nx (anL nx l n).2).1],(a.an nx (anL nx l n).2).2)
 |[],a,n=>rfl
 |x::l,a,n=>by
  show((x.an nx n).1::(anL nx (l++[a]) (x.an nx n).2).1,(anL nx (l++[a]) (x.an nx n).2).2)=_
  rw[vJ l]
  rfl
theorem jZ{nx:Nat->Nat}:∀(l:List Df)(n:Nat),(anL nx l n).1.length=l.length
 |[],n=>rfl
 |x::l,n=>by unfold anL;rw[uo,uo,jZ l]
structure AnOk(d:Df):Prop where
 ps:d.ps.length<=1000
 bn:d.b.binds.length<=1000000
 sz:2 ^ d.b.cd*d.b.sz<=1000000
theorem AnOk.sz1{d:Df}(h:AnOk d):d.b.sz<=1000000:=uD (Nat.le_mul_of_pos_left _ (Nat.two_pow_pos _)) h.sz
theorem Y4{tk:List Str}(ht:tk.length<=11000000):∀(l:List Df)(n:Nat),(∀d∈l,AnOk d)->(anL (nxT tk) l n).2<=n+l.length*11000001000000
 |[],n,_=>by show n<=_;lia
 |d::l,n,h=>by
  have h1:=Y4 ht l (d.an (nxT tk) n).2 fun d hd=>h d (.tail _ hd)
  have h2:(d.an (nxT tk) n).2<=n+d.b.na*11000001:=Yl (C:=11000001) (fun m=>by have:=Vm tk m;lia) d.b.mu d.b n
  have h3:=Bd.na_sz d.b
  have h4:=(h d (.head _)).sz1
  show(anL (nxT tk) l (d.an (nxT tk) n).2).2<=n+(l.length+1)*11000001000000
  lia
theorem Qa{tk:List Str}(ht:tk.length<=11000000){l:List Df}{d:Df}(hd:AnOk d)(hl:l.length<=100)(h:∀d∈l,AnOk d):TOk (nxT tk) ⟨d.b.mu,(anL (nxT tk) l 0).2,d.b⟩:=by
 have h1:=Y4 ht l 0 h
 have h2:(AB (nxT tk) d.b.mu d.b (anL (nxT tk) l 0).2).2<=(anL (nxT tk) l 0).2+d.b.na*11000001:=Yl (C:=11000001) (fun m=>by have:=Vm tk m;lia) d.b.mu d.b _
 have h3:=Bd.na_sz d.b
 have h4:=hd.sz1
 refine⟨ud _,uD (Vw _ _ _) hd.sz,?_⟩
 show(AB (nxT tk) d.b.mu d.b (anL (nxT tk) l 0).2).2<=LIMT
 unfold LIMT
 have:l.length*11000001000000<=100*11000001000000:=uU _ hl
 lia
structure Tb4(T1 T2 T3 T4:Addr)(H:Hp):Prop where
 t1:TbG T1 ls1 H
 t2:TbG T2 ls2 H
 t3:TbG T3 ls3 H
 t4:TbG T4 ls4 H
def MT4(T1 T2 T3 T4:Addr)(b:Addr):Prop:=b=T1\/b=T2\/b=T3\/b=T4
section
variable{T1 T2 T3 T4:Addr}{H H':Hp}
theorem Tb4.same(h:Tb4 T1 T2 T3 T4 H)(s:Same H H'):Tb4 T1 T2 T3 T4 H':=⟨h.t1.same s,h.t2.same s,h.t3.same s,h.t4.same s⟩
theorem Tb4.nt(h:Tb4 T1 T2 T3 T4 H){b:Addr}{u:HO}(e:H b=some u)(n:∀ps,u≠.tbl ps):¬ MT4 T1 T2 T3 T4 b:=by
 rintro(z|z|z|z)
 ·exact h.t1.no e n z
 ·exact h.t2.no e n z
 ·exact h.t3.no e n z
 ·exact h.t4.no e n z
theorem Tb4.tups(h:Tb4 T1 T2 T3 T4 H)(k:KM (MT4 T1 T2 T3 T4) H H'):Tups H H':=fun b xs e=>k b _ (h.nt e (by intro _ z;cases z)) e
end
def Vx(T1 T2 T3 T4:Addr):Sp:=fun vs H Q _=>∃(p:Addr)(ds:List Df),vs=[.ref p]/\IsCode H ds p/\(∀d∈ds,AnOk d)/\ds.length<=10/\Tb4 T1 T2 T3 T4 H/\∀H' r tk,KM (MT4 T1 T2 T3 T4) H H'->Tb4 T1 T2 T3 T4 H'->tk.length<=11000000->(∀x,x∈tk↔∃d∈ds,x∈d.ps++d.b.binds)->(∃v pd pr os rs,H p=some (.tup [v,.ref pd])/\H pd=some (.tup (os.map V.ref))/\H' r=some (.tup [v,.ref pr])/\H' pr=some (.tup (rs.map V.ref))/\IsDfs H ds os/\IsDfs H' (anL (nxT tk) ds 0).1 rs)->Q (.ref r) H'
theorem IsDfs.snoc{H:Hp}{ds:List Df}{os:List Addr}{d:Df}{o:Addr}(h:IsDfs H ds os)(g:IsDf H d o):IsDfs H (ds++[d]) (os++[o]):=by
 refine⟨by rw[ub,ub,h.1];rfl,fun i x y h1 h2=>?_⟩
 by_cases c:i < ds.length
 ·rw[uX c]at h1
  rw[uX (by rw[<- h.1];exact c)]at h2
  exact h.2 i x y h1 h2
 ·rw[uY (by lia)]at h1
  rw[uY (by rw[<- h.1];lia),<- h.1]at h2
  match hk:i-ds.length,h1,h2 with
  |0,h1,h2=>cases h1;cases h2;exact g
  |n+1,h1,h2=>simp at h1
section
variable{P:Program}{w:World}{K:uc}{mg:Str->Option Value}{base:Heap}{f cT:Addr}{fd:FuncData}
theorem scAnew:FnScope ["code","tokens"] ["code"] (zo WB):=.ok
theorem zbs:(["code","tokens","one"]:List Str).Nodup:=by decide +kernel
theorem Qb{T1 T2 T3 T4:Addr}(F:Fun K "anew" "anew" WB f fd)(GI:Ma P w K mg base CX0 3 "Tokens" cT ["self","code"] (YX cT))(GD:Ca P w K mg base CX0 10 "anew_def" ["tokens","one"] (Vt cT T1 T2 T3 T4))(m_tuple:mg "tuple"=none):FnOk P w K mg base CX0 11 f fd ["code"] (Vx T1 T2 T3 T4):=by
 refine F.by scAnew (fun vs H Q E h=>?_) (fun cdv A outer s H vs Q E hr h=>?_)
 ·obtain⟨p,ds,rfl,_⟩:=h
  rfl
 obtain⟨p,ds,rfl,hc,hk,hl,hT,q⟩:=h
 have hr4:Room (3+1) _:=hr.mono (by decide)
 refine⟨_,
  (zg (sE 1 scAnew.nd (Wx GI hr4 rfl xP (jA1 (jv 0))))
  (zh (zp (zt (jA2 (xT 0) (zG zB rfl m_tuple uI (jA1 (yM ["one"] rfl (yn (xT 0)) (fun _ _ _ _ _=>(gN 2 zbs)) (fun _ _ _ _ _=>zW) (fun _ _ _ _ _=>(cA GD hr (jA2 (jv 1) (jv 2)))))))))))),?_⟩
 have sl:=zK
 refine(ex2q rfl ?_)
 intro to dx hto hdx nxd
 have s1:Same H (upd (upd H dx (.own to)) to (.ins cT dx [])):=fun b u e=>by rw[zi (zk e hto),zi (zk e hdx)];exact e
 have o1:=zf (H:=upd H dx (.own to)) (a:=to) (o:=.ins cT dx [])
 refine⟨to,dx,p,ds,rfl,o1,hc.keep (.of s1),fun d hd=>⟨(hk d hd).ps,(hk d hd).sz1,(hk d hd).bn⟩,hl,fun H2 td tk k2 ftd K2 tl tm=>⟨rfl,?_⟩⟩
 have s2:Same H H2:=fun b u e=>k2 b u (zk e hto) (s1 _ _ e)
 have T2':=hT.same s2
 obtain⟨v,pd,os,h1,h2,h3⟩:=id hc
 have hnx:∀m,m < nxT tk m:=fun m=>(wF tk m).1
 have A2:TA5 cT T1 T2 T3 T4 to dx td tk 0 H2:=⟨⟨K2,T2'.t2,T2'.t3,T2'.t4⟩,T2'.t1⟩
 have nto:∀{b:Addr}{u:HO},H b=some u->b≠to:=fun e=>zk e hto
 have kk:∀{H':Hp},KM (MK5 to T1 T2 T3 T4) H2 H'->KM (MT4 T1 T2 T3 T4) H H':=fun k b u nb e=>k b u (fun z=>by
  rcases z with z|z|z|z|z
  ·exact nb (.inl z)
  ·exact nto e z
  ·exact nb (.inr (.inl z))
  ·exact nb (.inr (.inr (.inl z)))
  ·exact nb (.inr (.inr (.inr z)))) (s2 _ _ e)
 refine(ex2q rfl (ixT (s2 _ _ h1) aI0 (ex2q rfl (ixT (s2 _ _ h1) aI1 ⟨pd,rfl,⟨_,SqT.of (s2 _ _ h2)⟩,jz (xs:=os.map V.ref) (fun j τ ys H'=>KM (MK5 to T1 T2 T3 T4) H2 H'/\TA5 cT T1 T2 T3 T4 to dx td tk (anL (nxT tk) (ds.take j) 0).2 H'/\(∃v,τ=[some (.ref p),some (.ref to),v])/\∃rs:List Addr,ys=rs.map V.ref/\IsDfs H' (anL (nxT tk) (ds.take j) 0).1 rs) ⟨KM.refl,A2,⟨none,rfl⟩,[],rfl,rfl,fun i d o h=>by simp[anL]at h⟩ (fun j τ ys H' _ h=>SqT.of (hT.tups (kk h.1) _ _ h2)) ?_ ?_⟩))))
 ·rintro j v' τ ys H3 hv ⟨k3,A3,⟨y,rfl⟩,rs,rfl,hrs⟩
  rw[ug]at hv
  obtain⟨o,ho,rfl⟩:=uj.mp hv
  have hj:j < ds.length:=by rw[h3.1];exact(uf.mp ho).1
  obtain⟨d,hd⟩:∃d,ds[j]?=some d:=⟨_,uq hj⟩
  have tp:=hT.tups (kk k3)
  have hI:=(h3.2 j d o hd ho).keep tp
  have tj:ds.take (j+1)=ds.take j++[d]:=by rw[uJ,hd];rfl
  have rl:=hrs.1
  rw[jZ,uM]at rl
  refine(ex2q rfl (ex2q rfl ⟨to,dx,td,o,tk,_,d,rfl,hI,Qa tl (hk d (uw hd)) (by rw[uM];lia) (fun d hd=>hk d (List.mem_of_mem_take hd)),A3,fun H4 r k4 A4 hr4'=>⟨by rw[ua];lia,k3.trans k4,?_,⟨_,rfl⟩,rs++[r],by rw[ui];rfl,?_⟩⟩))
  ·rw[tj,vJ];exact A4
  ·rw[tj,vJ]
   have t34:Tups H3 H4:=fun b xs e=>k4 b _ (fun z=>by
    rcases z with z|z
    ·exact A3.t1.no e (by intro _ z;cases z) z
    ·exact A3.a.nt e (by intro _ z;cases z) (by intro _ _ _ z;cases z) z) e
   exact(hrs.keep t34).snoc hr4'
 rintro τ ys H3 ⟨k3,A3,_,rs,rfl,hrs⟩ l2 f2
 rw[ua,<- h3.1,uz (ud _)]at A3 hrs
 refine⟨l2,(ex2q rfl (.inl ⟨SqL.of zf,fun t3 f3=>⟨sN2,fun r fr=>?_⟩⟩))⟩
 have s4:Same H3 (upd (upd (upd H3 l2 (.lst (rs.map V.ref))) t3 (.tup (rs.map V.ref))) r (.tup [v,.ref t3])):=((zj f2 _).new f3).new fr
 refine q _ r tk ((kk k3).trans (.of s4)) ⟨A3.t1.same s4,A3.a.t2.same s4,A3.a.t3.same s4,A3.a.t4.same s4⟩ tl tm ⟨v,pd,t3,os,rs,h1,h2,zf,old fr zf,h3,hrs.keep (.of s4)⟩
end
theorem Vy{j n:Nat}(h:j < n):seqIndex? (j:Int) n=some j:=by
 unfold seqIndex?
 simp
 lia
theorem xB{α β:Type}(g:α->β):∀(l:List α)(j:Nat),(l.map g).eraseIdx j=(l.eraseIdx j).map g
 |[],_=>rfl
 |_::_,0=>rfl
 |a::l,j+1=>by show g a::(l.map g).eraseIdx j=g a::(l.eraseIdx j).map g;rw[xB g l j]
theorem vK{X:Cx}:jMt X "list.pop" Wh:=⟨Wi⟩
structure Wg where
 z:Str
 b:Bool
 T:List (Str×Nat×Nat)
 D:List (Str×List Bool)
structure WgOk(o:Wg):Prop where
 z:o.z.length<=6
 T:∀t∈o.T,t.2.1<=9
 T0:∃t,o.T[0]?=some t/\t.2.1=0
 Tn:o.T.length<=15
 Dn:o.D.length=3
 D:∀d∈o.D,d.2.length<=3
 Dd:(o.D.map (·.1)).Nodup
def TsAt{α:Type}(R:α->Hp->Addr->Prop)(H:Hp)(l:List α)(ts:List Addr):Prop:=l.length=ts.length/\∀(i:Nat)(a:α)(t:Addr),l[i]?=some a->ts[i]?=some t->R a H t
theorem TsAt.keep{α:Type}{R:α->Hp->Addr->Prop}{H H':Hp}{l:List α}{ts:List Addr}(h:TsAt R H l ts)(k:∀a t,R a H t->R a H' t):TsAt R H' l ts:=⟨h.1,fun i a t h1 h2=>k _ _ (h.2 i a t h1 h2)⟩
theorem TsAt.at{α:Type}{R:α->Hp->Addr->Prop}{H:Hp}{l:List α}{ts:List Addr}{i:Nat}{t:Addr}(h:TsAt R H l ts)(ht:ts[i]?=some t):∃a,l[i]?=some a/\R a H t:=by
 have hi:=(uf.mp ht).1
 have e:l[i]?=some (l[i]'(by rw[h.1];exact hi)):=uq _
 exact⟨_,e,h.2 i _ t e ht⟩
theorem TsAt.snoc{α:Type}{R:α->Hp->Addr->Prop}{H:Hp}{l:List α}{ts:List Addr}{a:α}{t:Addr}(h:TsAt R H l ts)(ha:R a H t):TsAt R H (l++[a]) (ts++[t]):=by
 refine⟨by rw[ub,ub,h.1];rfl,fun i x y h1 h2=>?_⟩
 by_cases c:i < l.length
 ·rw[uX c]at h1
  rw[uX (by rw[<- h.1];exact c)]at h2
  exact h.2 i x y h1 h2
 ·rw[uY (by lia)]at h1
  rw[uY (by rw[<- h.1];lia),<- h.1]at h2
  match hk:i-l.length,h1,h2 with
  |0,h1,h2=>cases h1;cases h2;exact ha
  |n+1,h1,h2=>simp at h1
def tgR(a:Str×Nat×Nat)(H:Hp)(t:Addr):Prop:=H t=some (.tup [.str a.1,.int (a.2.1:Nat),.int (a.2.2:Nat)])
def dfR(a:Str×List Bool)(H:Hp)(t:Addr):Prop:=∃q,H t=some (.tup [.str a.1,.ref q])/\H q=some (.tup (a.2.map V.bl))
theorem tgR.tk{a:Str×Nat×Nat}{H H':Hp}{t:Addr}(k:Tups H H')(h:tgR a H t):tgR a H' t:=k _ _ h
theorem dfR.tk{a:Str×List Bool}{H H':Hp}{t:Addr}(k:Tups H H')(h:dfR a H t):dfR a H' t:=let ⟨q,h1,h2⟩:=h;⟨q,k _ _ h1,k _ _ h2⟩
def WlAt(H:Hp)(wl:Addr)(o:Wg):Prop:=∃(tl dl:Addr)(ts us:List Addr)(xs:List V),H wl=some (.lst (.str o.z::.bl o.b::.ref tl::.ref dl::xs))/\H tl=some (.lst (ts.map V.ref))/\TsAt tgR H o.T ts/\H dl=some (.lst (us.map V.ref))/\TsAt dfR H o.D us
section
variable{K:uc}{st wl lm:Addr}{B B':Nat}{H0 H H':Hp}{o:Wg}{M M':List Str}
theorem WlAt.kp(h:WlAt H wl o)(S:Sta K H st B)(k:Kp st H H'):WlAt H' wl o:=by
 obtain⟨tl,dl,ts,us,xs,h1,h2,h3,h4,h5⟩:=h
 have t:=k.tups S
 exact⟨tl,dl,ts,us,xs,k.k _ _ (S.neW h1) h1,k.k _ _ (S.neR h2) h2,h3.keep fun _ _ z=>z.tk t,k.k _ _ (S.neR h4) h4,h5.keep fun _ _ z=>z.tk t⟩
structure Hd(K:uc)(st wl:Addr)(o:Wg)(H0 H:Hp)(lm:Addr)(M:List Str)(B:Nat):Prop where
 ok:WgOk o
 s0:∃B0,Sta K H0 st B0
 w:WlAt H0 wl o
 f:H0 lm=none
 kp:Kp st H0 H
 s:Sta K H st B
 m:H lm=some (.lst (M.map V.str))
theorem Hd.wa(h:Hd K st wl o H0 H lm M B):WlAt H wl o:=let ⟨_,s0⟩:=h.s0;h.w.kp s0 h.kp
theorem Hd.ne(h:Hd K st wl o H0 H lm M B):lm≠st:=let ⟨_,s0⟩:=h.s0;s0.ne h.f
theorem Hd.go(h:Hd K st wl o H0 H lm M B)(k:Kp st H H')(s:Sta K H' st B'):Hd K st wl o H0 H' lm M B':=⟨h.ok,h.s0,h.w,h.f,h.kp.trans k,s,k.k _ _ h.ne h.m⟩
theorem Hd.same(h:Hd K st wl o H0 H lm M B)(s:Same H H'):Hd K st wl o H0 H' lm M B:=h.go (.of s) (h.s.same s)
theorem Hd.mono(h:Hd K st wl o H0 H lm M B)(l:B<=B'):Hd K st wl o H0 H lm M B':=⟨h.ok,h.s0,h.w,h.f,h.kp,h.s.mono l,h.m⟩
theorem Hd.set(h:Hd K st wl o H0 H lm M B):Hd K st wl o H0 (upd H lm (.lst (M'.map V.str))) lm M' B/\Tups H (upd H lm (.lst (M'.map V.str))):=by
 obtain⟨B0,s0⟩:=h.s0
 exact⟨⟨h.ok,h.s0,h.w,h.f,h.kp.put h.f,s0.put h.f h.kp h.s,zf⟩,fun p xs q=>by rw[zi fun e=>by rw[e,h.m]at q;cases q];exact q⟩
theorem Hd.put(h:Hd K st wl o H0 H lm M B){p:Addr}{xs:List V}{u:HO}(hp:H0 p=none)(n:p≠lm)(e:H p=some (.lst xs)):Hd K st wl o H0 (upd H p u) lm M B/\Tups H (upd H p u):=by
 obtain⟨B0,s0⟩:=h.s0
 exact⟨⟨h.ok,h.s0,h.w,h.f,h.kp.put hp,s0.put hp h.kp h.s,by rw[zi (Ne.symm n)];exact h.m⟩,fun q ys z=>by rw[zi fun x=>by rw[x,e]at z;cases z];exact z⟩
theorem Hd.new(h:Hd K st wl o H0 H lm M B){p:Addr}(hp:H p=none):H0 p=none/\p≠lm/\p≠st:=by
 refine⟨h.kp.free (h.s.ne hp) hp,fun e=>?_,h.s.ne hp⟩
 rw[e,h.m]at hp
 cases hp
end
def LnD(_:List (Str×List Bool))(d:Dd):Prop:=(Yh d).length<=1000/\∀q∈mkD d,q.2=""
theorem raw0{d:Dd}(h:mkD d=[]):∀q∈mkD d,q.2="":=fun q hq=>by rw[h]at hq;cases hq
theorem rawM{t:Str}{ns:List Str}:∀q∈mkD (.mk t ns ""),q.2="":=fun q hq=>by rw[uB.mp hq]
def vL(K:uc):Sp:=fun vs H Q _=>∃(st lm:Addr)(n:Nat)(M:List Str)(B:Nat)(H0:Hp)(wl:Addr)(o:Wg),vs=[.ref st,.ref lm,.int (n:Nat)]/\Hd K st wl o H0 H lm M B/\n<=M.length/\n<=100/\M.length<=1000/\B+200 < LIM/\∀(H':Hp)(r:Addr)(N M':List Str),Hd K st wl o H0 H' lm M' (B+n)->Tups H H'->M'.length+n=M.length->(∀x∈M',x∈M)->H' r=some (.tup (N.map V.str))->N.length=n->Q (.ref r) H'
section
variable{P:Program}{w:World}{K:uc}{mg:Str->Option Value}{base:Heap}{f:Addr}{fd:FuncData}
theorem scSome:FnScope ["_law_state","_law_mine","_law_many","_law_names","_law_k"] lS8 (zo WE):=.ok
theorem Qc(F:Fun K "_law_some" "_law_some" WE f fd)(GD:Ca P w K mg base CX0 1 "_law_draw" lS3 (yp K))(m_range:mg "range"=none)(m_len:mg "len"=none)(m_tuple:mg "tuple"=none):FnOk P w K mg base CX0 2 f fd lS8 (vL K):=by
 refine F.by scSome (fun vs H Q E h=>?_) (fun cdv A outer s H vs Q E hr h=>?_)
 ·obtain⟨st,lm,n,M,B,H0,wl,o,rfl,_⟩:=h
  rfl
 obtain⟨st,lm,n,M,B,H0,wl,o,rfl,hd,hn,hn9,hM,hB,q⟩:=h
 refine⟨_,
  (zg (sE 3 scSome.nd (zy zD))
  (zg (zM PassesOwn.never rfl (zV rfl m_range (jA1 (jv 2))) (gN 4 scSome.nd)
   (zh (zO (yf ur uE uF zI (jv 3) (jA1 (yf ur Uj Uk vK (jv 1) (jA1 (cA GD hr (jA2 (jv 0) (jL m_len (jv 1)))))))))))
  (zh (zp (zG zB rfl m_tuple uI (jA1 (jv 3))))))),?_⟩
 have sl:=zK
 have LM:LIM=4611686018427387904:=rfl
 rw[LM]at hB
 refine⟨sN0,fun nl hnl=>?_⟩
 obtain⟨fn0,nlm,nst⟩:=hd.new hnl
 have s1:=zj (o:=.lst []) hnl
 refine(ex2q rfl (ex2q rfl ⟨by lia,by lia,yR (n:=((n:Nat):Int).toNat) (fun i σ H'=>∃(N M':List Str)(z:Option V),σ=[some (.ref st),some (.ref lm),some (.int (n:Nat)),some (.ref nl),z]/\Hd K st wl o H0 H' lm M' (B+i)/\Tups H H'/\H' nl=some (.lst (N.map V.str))/\N.length=i/\M'.length+i=M.length/\∀x∈M',x∈M) ⟨[],M,none,rfl,hd.same s1,.of s1,zf,rfl,rfl,fun _ z=>z⟩ ?_ ?_⟩))
 ·rintro i σ H1 hi ⟨N,M',z,rfl,h1,t1,g1,nl1,ml1,sub⟩
  rw[Ua]at hi
  refine(ex2q rfl ⟨.inl ⟨rfl,_,SqL.of g1⟩,(ex2q rfl ⟨.inl ⟨rfl,_,SqL.of h1.m⟩,(ex2q rfl (ex2q rfl ⟨lm,(ex2q rfl ⟨.inl (SqL.of h1.m),st,((M'.map V.str).length:Nat),B+i,rfl,h1.s,by rw[LM];lia,by rw[ua];lia,fun H2 r k2 S2 r0 r1=>?_⟩)⟩))⟩)⟩)
  rw[ua]at r1
  obtain⟨j,rfl⟩:∃j:Nat,r=(j:Int):=⟨r.toNat,by lia⟩
  have hj:j < M'.length:=by lia
  have h2:=h1.go k2 S2
  have g2:=k2.k _ _ nst g1
  have t2:=t1.trans (k2.tups h1.s)
  refine⟨lm,_,_,j,(ex2q rfl ⟨rfl,h2.m,by lia,by lia,Vy (by rw[ua];exact hj),(by rw[ug,uq hj];rfl),?_⟩)⟩
  have e3:(M'.map V.str).eraseIdx j=(M'.eraseIdx j).map V.str:=xB _ _ _
  rw[e3]
  obtain⟨h3,t3⟩:=h2.set (M':=M'.eraseIdx j)
  have g3:upd H2 lm (.lst ((M'.eraseIdx j).map V.str)) nl=some (.lst (N.map V.str)):=by rw[zi nlm];exact g2
  refine⟨nl,(ex4q rfl rfl ⟨g3,by rw[ua];lia,?_⟩)⟩
  obtain⟨h4,t4⟩:=h3.put (u:=.lst (N.map V.str++[.str M'[j]])) fn0 nlm g3
  refine⟨N++[M'[j]],M'.eraseIdx j,(ex2q rfl ⟨h4,(t2.trans t3).trans t4,by rw[zf,ui];rfl,by rw[ub,nl1];rfl,?_,fun x hx=>sub x (List.mem_of_mem_eraseIdx hx)⟩)⟩
  rw[UH hj]
  lia
 ·rintro σ H1 ⟨N,M',z,rfl,h1,t1,g1,nl1,ml1,sub⟩
  rw[Ua]at h1 nl1 ml1
  refine(ex2q rfl ⟨nl,(ex2q rfl (.inl ⟨SqL.of g1,fun p hp=>?_⟩))⟩)
  have s2:=zj (o:=.tup (N.map V.str)) hp
  exact q _ p N M' (h1.same s2) (t1.trans (.of s2)) ml1 sub zf nl1
def Y5(K:uc):Sp:=fun vs H Q _=>∃(st lm ll po pm:Addr)(M L:List Str)(B:Nat)(H0:Hp)(wl:Addr)(o:Wg)(g:Str)(ms:List Bool),vs=[.ref st,.ref lm,.ref ll,.ref po]/\Hd K st wl o H0 H lm M B/\H0 ll=some (.lst (L.map V.str))/\H po=some (.tup [.str g,.ref pm])/\H pm=some (.tup (ms.map V.bl))/\ms.length<=3/\M.length<=1000/\L.length<=1000/\B+300 < LIM /\
 ∀(H':Hp)(r:Addr)(d:Dd)(M':List Str),Hd K st wl o H0 H' lm M' (B+10)->Tups H H'->(∀x∈M',x∈M)->M'.length<=M.length->IsDd H' d r->LnD o.D d->Q (.ref r) H'
def cnt(ms:List Bool):Nat:=(ms.filter id).length
theorem Ym(ms:List Bool):cnt ms<=ms.length:=List.length_filter_le _ _
theorem ZE{ms:List Bool}{i:Nat}{b:Bool}(h:ms[i]?=some b):cnt (ms.take (i+1))=cnt (ms.take i)+if b=true then 1 else 0:=by
 unfold cnt
 rw[uJ,h,List.filter_append,ub]
 cases b<;>rfl
theorem zbt(ms:List Bool)(i:Nat):cnt (ms.take i)<=cnt ms:=by
 unfold cnt
 exact(List.Sublist.filter _ (List.take_sublist i ms)).length_le
theorem zbu{ms:List Bool}{i:Nat}(h:ms[i]?=some false):cnt ms < ms.length:=by
 unfold cnt
 exact List.length_filter_lt_length_iff_exists.mpr ⟨false,uw h,by decide⟩
theorem scCallG:FnScope ["_law_state","_law_mine","_law_lent","_law_one","_law_many","_law_some_here","_law_near","_law_names","_law_own"] lS14 (zo WF):=.ok
theorem Vz(F:Fun K "_law_call" "_law_call" WF f fd)(GD:Ca P w K mg base CX0 1 "_law_draw" lS3 (yp K))(GS:Ca P w K mg base CX0 2 "_law_some" lS8 (vL K))(m_len:mg "len"=none)(m_list:mg "list"=none)(m_tuple:mg "tuple"=none):FnOk P w K mg base CX0 3 f fd lS14 (Y5 K):=by
 refine F.by scCallG (fun vs H Q E h=>?_) (fun cdv A outer s H vs Q E hr h=>?_)
 ·obtain⟨st,lm,ll,po,pm,M,L,B,H0,wl,o,g,ms,rfl,_⟩:=h
  rfl
 obtain⟨st,lm,ll,po,pm,M,L,B,H0,wl,o,g,ms,rfl,hd,hL0,hpo,hpm,h9,hM,hLl,hB,q⟩:=h
 have hr1:Room 1 _:=hr.mono (by decide)
 refine⟨_,
  (zg (sE 4 scCallG.nd (jL m_len (Ze [8] [] rfl (yn (xT 3)) (fun _ _ _ _ _=>(gN 8 scCallG.nd)) (fun _ _ _ _ _=>(xR (zX (jv 8)))) (fun _ _ _ _ _=>(jv 8)))))
  (zg (zw (jW.pt (vd (tN vg (jv 4) (jL m_len (jv 1))) (xG (jW.pt (z9 (tN Zf (jv 4) (jL m_len (xT 3))) (z9 (tN zx (jv 4) (jL m_len (jv 1))) (yc (tN (vk hr1) (jv 2) (zy zD)))))))))
   (zh (zp (zt (jA2 zq zn)))) zr)
  (zg (sE 5 scCallG.nd (zG yi rfl m_list Ud (jA1 (cA GS hr (jA3 (jv 0) (jv 1) (jv 4))))))
  (zg (sE 6 scCallG.nd (zu ya (jv 1) (jv 2)))
  (zg (sE 7 scCallG.nd (zy zD))
  (zg (zM PassesOwn.never rfl (yn (xT 3)) (gN 8 scCallG.nd)
   (zh (zw (zX (jv 8))
    (zh (zO (yf ur uE uF zI (jv 7) (jA1 (vf ur Uj Uk vi (jv 5))))))
    (zh (zO (yf ur uE uF zI (jv 7) (jA1 (xX z6 (jv 6) (cA GD hr1 (jA2 (jv 0) (jL m_len (jv 6))))))))))))
  (zh (zp (zt (jA3 zq (xT 3) (zG zB rfl m_tuple uI (jA1 (jv 7))))))))))))),?_⟩
 have sl:=zK
 have LM:LIM=4611686018427387904:=rfl
 rw[LM]at hB
 have hL:H ll=some (.lst (L.map V.str)):=hd.kp.k _ _ (let ⟨_,s0⟩:=hd.s0;s0.neS hL0) hL0
 refine(show ∀u:TS,(cnt ms<=M.length->(cnt ms < ms.length->cnt ms=M.length->L≠[])->∀H2:Hp,Same H H2->u { nx:=fun _ H'=>Q .non H',rt:=Q } [some (.ref st),some (.ref lm),some (.ref ll),some (.ref po),some (.int ((cnt ms:Nat):Int)),none,none,none,none] H2)->(tSeq _ (tSeq _ u):TS) { nx:=fun _ H'=>Q .non H',rt:=Q } [some (.ref st),some (.ref lm),some (.ref ll),some (.ref po),none,none,none,none,none] H from ?key) _ ?rst
 case key =>
  intro u rest
  refine(ex2q rfl (ixT hpo aI1 ⟨pm,rfl,⟨_,SqT.of hpm⟩,jz (xs:=ms.map V.bl) (fun j τ ys H'=>H=H'/\(∃v,τ=[some (.ref st),some (.ref lm),some (.ref ll),some (.ref po),none,none,none,none,v])/\ys.length=cnt (ms.take j)) ⟨rfl,⟨none,rfl⟩,rfl⟩ (fun j τ ys H' _ h=>SqT.of (h.1 ▸ hpm)) ?_ ?_⟩))
  ·rintro j v τ ys H1 hv ⟨rfl,⟨v',rfl⟩,hy⟩
   rw[ug]at hv
   obtain⟨b,hb,rfl⟩:=uj.mp hv
   have ct:=ZE hb
   have c1:=Ym (ms.take j)
   rw[uM]at c1
   cases b with
   |true=>exact(ex2q rfl (ex2q rfl (iteT (ex2q rfl ⟨by lia,rfl,⟨_,rfl⟩,by rw[ub,hy,ct];rfl⟩))))
   |false=>exact(ex2q rfl (ex2q rfl (iteF ⟨rfl,⟨_,rfl⟩,by rw[hy,ct];rfl⟩)))
  rintro τ ys H1 ⟨rfl,_,hy⟩ l1 hl1
  rw[ua,uz (ud _)]at hy
  have s1:=zj (o:=.lst ys) hl1
  refine⟨l1,ys,rfl,.inl (SqL.of zf),?_⟩
  rw[hy]
  have h1:=hd.same s1
  have po1:=s1 _ _ hpo
  have pm1:=s1 _ _ hpm
  have hL1:=s1 _ _ hL
  generalize upd H l1 (.lst ys)=H1 at *
  have num:∀H2 r,Same H1 H2->H2 r=none->Q (.ref r) (upd H2 r (.tup [.str "num",.int 8])):=fun H2 r s2 f=>by
   have s3:=s2.new (o:=.tup [.str "num",.int 8]) f
   exact q _ r (.num 8) M ((h1.same s3).mono (by lia)) (.of (s1.trans s3)) (fun _ z=>z) (ud _) zf ⟨by show 0<=1000;decide,raw0 rfl⟩
  refine(ex2q rfl (ex2q rfl ⟨lm,(ex2q rfl ⟨.inl (SqL.of h1.m),(ex4q rfl rfl (ex2q rfl ?_))⟩)⟩))
  rw[ua]
  by_cases c1:M.length < cnt ms
  ·exact zE (decide_eq_true (by lia)) (iteT ⟨sN2,fun r f=>num H1 r (Same.refl _) f⟩)
  ·refine iteE (decide_eq_false (by lia)) ?_
   refine(ex2q rfl (ex2q rfl (ixT po1 aI1 ⟨pm,(ex2q rfl ⟨.inr (SqT.of pm1),(ex4q rfl rfl (ex2q rfl ?_))⟩)⟩)))
   rw[ua]
   by_cases c2:cnt ms < ms.length
   ·refine zE (decide_eq_true (by lia)) ?_
    refine(ex2q rfl (ex2q rfl ⟨lm,(ex2q rfl ⟨.inl (SqL.of h1.m),rfl,(ex2q rfl ?_)⟩)⟩))
    by_cases c3:cnt ms=M.length
    ·refine zE (decide_eq_true (by rw[c3,ua])) ?_
     refine(ex2q rfl ⟨sN0,fun l2 f2=>?_⟩)
     have s2:=zj (o:=.lst []) f2
     refine⟨ll,l2,(ex2q rfl ⟨rfl,SqL.of (s2 _ _ hL1),SqL.of zf,(ex2q rfl ?_)⟩)⟩
     by_cases e:L=[]
     ·exact zE (show(L.map V.str).isEmpty=true by rw[e];rfl) ⟨sN2,fun r f=>num _ r s2 f⟩
     ·exact iteE (show(L.map V.str).isEmpty=false by rw[List.isEmpty_map];simpa using e) (nxtC (rest (by lia) (fun _ _=>e) _ (s1.trans s2)))
    ·refine iteE (decide_eq_false fun z=>c3 (by rw[V.int.injEq,ua]at z;lia)) (iteF (nxtC (rest (by lia) (fun _ z=>absurd z c3) _ s1)))
   ·exact iteE (decide_eq_false (by lia)) (iteF (nxtC (rest (by lia) (fun z=>absurd z c2) _ s1)))
 intro hcM hne H2 s2
 have h2:=hd.same s2
 refine(ex2q rfl (ex2q rfl (ex2q rfl ⟨st,lm,cnt ms,M,B,H0,wl,o,rfl,h2,hcM,by have:=Ym ms;lia,hM,by rw[LM];lia,fun H3 r3 N M' h3 t3 ml3 sub g3 nl3=>?_⟩)))
 refine⟨r3,(ex2q rfl ⟨.inr (SqT.of g3),fun l4 f4=>?_⟩)⟩
 have h4:=h3.same (zj (o:=.lst (N.map V.str)) f4)
 obtain⟨f40,n4m,n4s⟩:=h3.new f4
 have t4:Tups H2 (upd H3 l4 (.lst (N.map V.str))):=t3.trans (.of (zj f4 _))
 have g4:=zf (H:=H3) (a:=l4) (o:=.lst (N.map V.str))
 have hL4:upd H3 l4 (.lst (N.map V.str)) ll=some (.lst (L.map V.str)):=h4.kp.k _ _ (let ⟨_,s0⟩:=hd.s0;s0.neS hL0) hL0
 refine(ex2q rfl (ex2q rfl ⟨lm,ll,(ex4q rfl rfl ⟨h4.m,hL4,by rw[ua,ua];lia,fun l5 f5=>?_⟩)⟩))
 have s5:=zj (o:=.lst (M'.map V.str++L.map V.str)) f5
 have h5:=h4.same s5
 obtain⟨f50,n5m,n5s⟩:=h4.new f5
 have n54:l5≠l4:=(zk g4 f5).symm
 refine⟨sN0,fun l6 f6=>?_⟩
 have s6:=s5.new (o:=.lst []) f6
 have h6:=h4.same s6
 obtain⟨f60,n6m,n6s⟩:=h5.new f6
 have n64:l6≠l4:=(zk (s5 _ _ g4) f6).symm
 have n65:l6≠l5:=(zk zf f6).symm
 have g46:=s6 _ _ g4
 have g56:=old (o:=.lst []) f6 (zf (H:=upd H3 l4 (.lst (N.map V.str))) (a:=l5) (o:=.lst (M'.map V.str++L.map V.str)))
 have t6:=t4.trans (.of s6)
 have po6:=t6 _ _ (s2 _ _ hpo)
 have pm6:=t6 _ _ (s2 _ _ hpm)
 have cl:=Ym ms
 refine(ex2q rfl (ixT po6 aI1 ⟨pm,rfl,⟨_,SqT.of pm6⟩,yt (xs:=ms.map V.bl) (fun i σ H'=>∃(N' X:List Str)(z:Option V),σ=[some (.ref st),some (.ref lm),some (.ref ll),some (.ref po),some (.int ((cnt ms:Nat):Int)),some (.ref l4),some (.ref l5),some (.ref l6),z]/\Hd K st wl o H0 H' lm M' (B+cnt ms+i)/\Tups H2 H'/\H' l4=some (.lst (N'.map V.str))/\N'.length+cnt (ms.take i)=cnt ms/\H' l5=some (.lst (M'.map V.str++L.map V.str))/\H' l6=some (.lst (X.map V.str))/\X.length=i) ⟨N,[],none,rfl,h6,t6,g46,nl3,g56,zf,rfl⟩ (fun i σ H' _ h=>?_) ?_ ?_⟩))
 ·obtain⟨_,_,_,_,_,t,_⟩:=h
  exact SqT.of (t _ _ (s2 _ _ hpm))
 ·rintro i v σ H7 hv ⟨N',X,z,rfl,h7,t7,g4',nl7,g5',g6',xl⟩
  rw[ug]at hv
  obtain⟨b,hb,rfl⟩:=uj.mp hv
  have hi:i < ms.length:=(uf.mp hb).1
  have ct:=ZE hb
  cases b with
  |true =>
   have ct1:cnt (ms.take (i+1))=cnt (ms.take i)+1:=ct
   have ctl:=zbt ms (i+1)
   have hN:0 < N'.length:=by lia
   refine(ex2q rfl (ex2q rfl (iteT ?_)))
   refine(ex2q rfl ⟨.inl ⟨rfl,_,SqL.of g6'⟩,(ex2q rfl ⟨.inl ⟨rfl,_,SqL.of g4'⟩,l4,_,.str (N'[N'.length-1]'(by lia)),rfl,rfl,g4',by rw[ua,ug,uq (by lia)];rfl,?_⟩)⟩)
   rw[<- List.map_dropLast]
   obtain⟨h8,t8⟩:=h7.put (u:=.lst (N'.dropLast.map V.str)) f40 n4m g4'
   have g68:upd H7 l4 (.lst (N'.dropLast.map V.str)) l6=some (.lst (X.map V.str)):=by rw[zi n64];exact g6'
   refine⟨l6,(ex4q rfl rfl ⟨g68,by rw[ua];lia,?_⟩)⟩
   obtain⟨h9',t9⟩:=h8.put (u:=.lst (X.map V.str++[.str (N'[N'.length-1]'(by lia))])) f60 n6m g68
   refine⟨N'.dropLast,X++[N'[N'.length-1]'(by lia)],(ex2q rfl ⟨h9'.mono (by lia),(t7.trans t8).trans t9,by rw[zi (Ne.symm n64),zf],by rw[List.length_dropLast];lia,by rw[zi (Ne.symm n65),zi n54];exact g5',by rw[zf,ui];rfl,by rw[ub,xl];rfl⟩)⟩
  |false =>
   have ct1:cnt (ms.take (i+1))=cnt (ms.take i)+0:=ct
   have clt:=zbu hb
   have hne':0 < (M'.map V.str++L.map V.str).length:=by
    rw[ub,ua,ua]
    by_cases c:cnt ms=M.length
    ·have:=UU.mpr (hne clt c)
     lia
    ·lia
   refine(ex2q rfl (ex2q rfl (iteF ?_)))
   refine(ex2q rfl ⟨.inl ⟨rfl,_,SqL.of g6'⟩,(ex2q rfl (ex2q rfl (ex2q rfl ⟨l5,(ex2q rfl ⟨.inl (SqL.of g5'),st,((M'.map V.str++L.map V.str).length:Nat),B+cnt ms+i,rfl,h7.s,by rw[LM];lia,by lia,fun H8 r k8 S8 r0 r1=>?_⟩)⟩)))⟩)
   obtain⟨j,rfl⟩:∃j:Nat,r=(j:Int):=⟨r.toNat,by lia⟩
   have hj:j < (M'.map V.str++L.map V.str).length:=by lia
   have hjs:∃x:Str,(M'.map V.str++L.map V.str)[j]?=some (.str x):=by
    rw[<- ui,ug]
    rw[<- ui,ua]at hj
    exact⟨_,by rw[uq hj];rfl⟩
   obtain⟨x,hx⟩:=hjs
   have h8:=h7.go k8 S8
   have g68:=k8.k _ _ n6s g6'
   refine⟨l5,_,_,_,rfl,rfl,SqL.of (k8.k _ _ n5s g5'),zL hx,l6,(ex4q rfl rfl ⟨g68,by rw[ua];lia,?_⟩)⟩
   obtain⟨h9',t9⟩:=h8.put (u:=.lst (X.map V.str++[.str x])) f60 n6m g68
   exact⟨N',X++[x],(ex2q rfl ⟨h9',(t7.trans (k8.tups h7.s)).trans t9,by rw[zi (Ne.symm n64)];exact k8.k _ _ n4s g4',by rw[ct1];exact nl7,by rw[zi (Ne.symm n65)];exact k8.k _ _ n5s g5',by rw[zf,ui];rfl,by rw[ub,xl];rfl⟩)⟩
 ·rintro σ H7 ⟨N',X,z,rfl,h7,t7,g4',nl7,g5',g6',xl⟩
  rw[ua]at h7 xl
  have po7:=t7 _ _ (s2 _ _ hpo)
  refine(ex2q rfl (ixT po7 aI0 (ex2q rfl ⟨l6,(ex2q rfl (.inl ⟨SqL.of g6',fun t8 f8=>⟨sN3,fun r f9=>?_⟩⟩))⟩)))
  have s9:=(zj (o:=.tup (X.map V.str)) f8).new (o:=.tup [.str "call",.str g,.ref t8]) f9
  refine q _ r (.call g X) M' ((h7.same s9).mono (by lia)) ((Tups.of s2).trans (t7.trans (.of s9))) sub (by lia) ⟨t8,zf,old f9 zf⟩ ⟨by show X.length<=1000;lia,raw0 rfl⟩
end
end GN
namespace L2
open PySem PySem.Spec PyProof.Rows
section
variable{X:Cx}
end
section
variable{X:Cx}{pins:List (Addr×Obj)}{σ:St}{H:Hp}{s:Shared}
end
section
variable{X:Cx}{k n:Nat}
end
section
variable{prog:Program}{w:World}{A:Around}{E:Value->Shared->Prop}{s:Shared}
theorem XG(a b c:Value):argsOk "min" ⟨[a,b,c],[]⟩:=by unfold argsOk;kernel_rfl
theorem XH{a b c:Value}{ps:Array (Int×Tok)}(hps:intItems ps=#[a,b,c]){Q:Value->Shared->Prop}(hh:A.handled=none)(q:∀v h' tk,(∃i:Nat,(intItems ps)[i]?=some v/\∀j,j < 3->numAt ps i<=numAt ps j)->(∀c o,s.heap.get? c=some o->h'.get? c=some o)->Q v { s with heap:=h',toks:=tk }):
  wpAny (model prog w) A (call (.builtin "min") [a,b,c]) Q E s:=by
 have nm:(toString "min" ++ toString ".loop":String)="min.loop":=by decide
 refine call_function_tree F.kind_min F.plain_min F.entry_min (XG _ _ _) ?_
 show wpAny _ A.in1 (Builtin.Builtins.bindParams "min" ["key","default"] 0 ⟨[],[]⟩ >>= _) _ _ s
 refine wpAny_bind (wpAny_of_eq (by exact rfl:Builtin.Builtins.bindParams "min" ["key","default"] 0 ⟨[],[]⟩=pure [none,none]) ?_)
 show wpAny _ A.in1 (newTuple [a,b,c] >>= _) _ _ s
 refine wpAny_bind (wpAny_newObj_type ?_)
 have hT:(s.heap.push { cls:=.type "tuple",data:=.seq #[a,b,c] }).IsTuple s.heap.objs.size (intItems ps):=⟨_,ux _ rfl,rfl,0,by rw[hps]⟩
 have z1:(s.heap.push { cls:=.type "tuple",data:=.seq #[a,b,c] }).objs.size=s.heap.objs.size+1:=Uu ..
 refine wpAny_bind (wpAny_pyIter_tuple hT ?_)
 refine wpAny_bind (wpAny_newObj_type ?_)
 rw[nm]
 have W:=Walks.tuple (prog:=prog) (w:=w) (A:=A.in1) hh (s.heap.push { cls:=.type "tuple",data:=.seq #[a,b,c] }).objs.size s.heap.objs.size (by rw[z1];exact uK (Uf _)) (intItems ps)
 have sz:(intItems ps).size=3:=by rw[hps];rfl
 have hst:((s.heap.push { cls:=.type "tuple",data:=.seq #[a,b,c] }).push { cls:=.type "tuple_iterator",data:=.fields #[.ref s.heap.objs.size,.int 0 0] }).objs.size=s.heap.objs.size+2:=by rw[Uu,z1]
 refine wpAny_pure ⟨plainId_quiet F.plain_min_loop _,codeAny_min_loop_first W _ (CmpOf.ints_lt (numAt ps) (fun _ _=>intItems_at)) _ (fun hm=>?_) (by rw[sz];decide) (W.frame _ _ _ ⟨⟨_,ux _ rfl,rfl,rfl⟩,hT.push _⟩ fun b _ o e=>ue _ e) (ux _ rfl) fun v h' tk hP hk=>?_⟩
 ·dsimp only at hm
  simp only[um,Uc,or_false]at hm
  rcases hm with e|e
  ·exact Nat.ne_of_gt (show _ < _ by rw[hst,z1];exact Uf _) e
  ·exact Nat.ne_of_gt (show _ < _ by rw[hst];exact Nat.lt_succ_of_lt (Uf _)) e
 ·obtain⟨b1,b2⟩:=argBest_lt (numAt ps) ((intItems ps).size-1)
  refine q v h' tk ⟨_,hP,fun j hj=>b2 j (by lia)⟩ fun x o e=>?_
  have lt:=uy e
  refine hk x o (fun hm=>?_) (fun e=>?_) (ue _ (ue _ (ue _ e)))
  ·simp only[um,Uc,or_false]at hm
   exact uK (Nat.lt_trans lt (by rw[z1];exact Uf _)) hm
  ·exact uK (Nat.lt_trans lt (by rw[hst];exact Nat.lt_succ_of_lt (Uf _))) e
end
section
variable{X:Cx}
theorem XI(hc:X.calm=true):yJ X (.builtin "min") (fun xs H Q=>∃i j k,xs=[.int i,.int j,.int k]/\∀r,(r=i\/r=j\/r=k)->r<=i->r<=j->r<=k->Q (.int r) H):=by
 intro pins s σ H xs us Q I r h
 obtain⟨i,j,k,rfl,q⟩:=h
 cases r with
 |cons a r =>
  obtain⟨u,w',rfl,⟨t2,rfl⟩,⟨t3,rfl⟩⟩:=X3 r
  obtain⟨t1,rfl⟩:=a
  refine XH (ps:=#[(i,t1),(j,t2),(k,t3)]) (by simp[intItems]) (I.ok.hd hc) fun v h' tk ⟨n,hn,hle⟩ kk=>?_
  have l0:=hle 0 (by decide)
  have l1:=hle 1 (by decide)
  have l2:=hle 2 (by decide)
  have hn3:n < 3:=by
   obtain⟨h,_⟩:=Array.getElem?_eq_some_iff.mp hn
   simpa[intItems]using h
  match n,hn3 with
  |0,_ =>
   have e:Value.int i t1=v:=by simpa[intItems]using hn
   subst e
   exact⟨.int i,H,I.kept kk,⟨_,rfl⟩,q i (.inl rfl) l0 l1 l2⟩
  |1,_ =>
   have e:Value.int j t2=v:=by simpa[intItems]using hn
   subst e
   exact⟨.int j,H,I.kept kk,⟨_,rfl⟩,q j (.inr (.inl rfl)) l0 l1 l2⟩
  |2,_ =>
   have e:Value.int k t3=v:=by simpa[intItems]using hn
   subst e
   exact⟨.int k,H,I.kept kk,⟨_,rfl⟩,q k (.inr (.inr rfl)) l0 l1 l2⟩
theorem Qd(hc:X.calm=true):jCa X (.builtin "min") (fun xs H Q=>∃i j k,xs=[.int i,.int j,.int k]/\∀r,(r=i\/r=j\/r=k)->r<=i->r<=j->r<=k->Q (.int r) H):=⟨XI hc⟩
end
end L2
namespace GN
open PySem L2 K11
def Y6(K:uc):Sp:=fun vs H Q _=>∃(st lm ll wl:Addr)(M L:List Str)(B:Nat)(H0:Hp)(o:Wg),vs=[.ref st,.ref lm,.ref ll,.ref wl]/\Hd K st wl o H0 H lm M B/\H0 ll=some (.lst (L.map V.str))/\M.length<=500/\L.length<=500/\B+500 < LIM /\
 ∀(H':Hp)(r:Addr)(d:Dd)(M':List Str),Hd K st wl o H0 H' lm M' (B+30)->Tups H H'->(∀x∈M',x∈M)->M'.length<=M.length->IsDd H' d r->LnD o.D d->Q (.ref r) H'
section
variable{P:Program}{w:World}{K:uc}{mg:Str->Option Value}{base:Heap}{f:Addr}{fd:FuncData}
theorem scDeedG:FnScope ["_law_state","_law_mine","_law_lent","_law_world_here","_law_near","_law_way","_law_some_here","_law_tag","_law_size","_law_kind","_law_name_here","_law_modes","_law_g"] lS12 (zo Z8):=.ok
theorem Qe:(["_law_state","_law_mine","_law_lent","_law_world_here","_law_near","_law_way","_law_some_here","_law_tag","_law_size","_law_kind","_law_name_here","_law_modes","_law_g","_law_one"]:List Str).Nodup:=by decide +kernel
theorem VA(F:Fun K "_law_deed" "_law_deed" Z8 f fd)(GD:Ca P w K mg base CX0 1 "_law_draw" lS3 (yp K))(GS:Ca P w K mg base CX0 2 "_law_some" lS8 (vL K))(GC:Ca P w K mg base CX0 3 "_law_call" lS14 (Y5 K))(m_len:mg "len"=none)(m_all:mg "all"=none)(m_min:mg "min"=none):FnOk P w K mg base CX0 4 f fd lS12 (Y6 K):=by
 refine F.by scDeedG (fun vs H Q E h=>?_) (fun cdv A outer s H vs Q E hr h=>?_)
 ·obtain⟨st,lm,ll,wl,M,L,B,H0,o,rfl,_⟩:=h
  rfl
 obtain⟨st,lm,ll,wl,M,L,B,H0,o,rfl,hd,hL0,hM,hLl,hB,q⟩:=h
 have hr1:Room 1 _:=hr.mono (by decide)
 have hr2:Room 2 _:=hr.mono (by decide)
 refine⟨_,
  (zg (sE 4 scDeedG.nd (zu ya (jv 1) (jv 2)))
  (zg (sE 5 scDeedG.nd (cA GD hr1 (jA2 (jv 0) zn)))
  (zg (zw (jW.pt (vd (tN zx (jv 5) zn) (xG (tN (vk hr1) (jv 4) (zy zD)))))
   (zh (zp (zt (jA2 zq (zu yZ (cA GD hr1 (jA2 (jv 0) zn)) zn))))) zr)
  (zg (zw (tN zx (jv 5) zn)
   (zh (zp (zt (jA4 zq zq (xX z6 (jv 4) (cA GD hr1 (jA2 (jv 0) (jL m_len (jv 4))))) (xX z6 (jv 4) (cA GD hr1 (jA2 (jv 0) (jL m_len (jv 4))))))))) zr)
  (zg (zw (tN Zf (jv 5) zn)
   (zg (yg ["_law_one"] (i:=6) scDeedG.nd rfl (Or.inl rfl) rfl (ye (xL 3)) (fun _ _ _ _ _=>(gN 13 Qe)) (fun _ _ _ _ _=>(xR (tN Wo (yd (yN K) (jv 13) zn (fun _ _=>rfl)) (xk (Zh K) rfl m_len PySem.boot_len (jA1 (jv 1)))))) (fun _ _ _ _ _=>(jv 13)))
   (zg (yY (xX z6 (jv 6) (cA GD hr1 (jA2 (jv 0) (jL m_len (jv 6))))) (xm rfl (zA (gN 7 scDeedG.nd) (zA (gN 8 scDeedG.nd) (zA (gN 9 scDeedG.nd) ym)))))
   (zh (zp (zt (jA4 zq (jv 7) (cA GS hr2 (jA3 (jv 0) (jv 1) (jv 8))) zq)))))) zr)
  (zg (yY (xX z6 (xL 3) (cA GD hr1 (jA2 (jv 0) zn))) (xm rfl (zA (gN 10 scDeedG.nd) (zA (gN 11 scDeedG.nd) ym))))
  (zg (zw (tN zx (jv 5) zn)
   (zh (zp (cA GC hr (jA4 (jv 0) (jv 1) (jv 2) (zt (jA2 (jv 10) (jv 11))))))) zr)
  (zg (zw (jW.pt (z9 (zX (xk (vS rfl) rfl m_all PyProof.Rows.boot_all (jA1 (jv 11)))) (yc (tN zx (cA GD hr1 (jA2 (jv 0) zn)) zn))))
   (zh (zp (zt (jA3 zq (jv 10) (cA GS hr2 (jA3 (jv 0) (jv 1) (xk (Qd rfl) rfl m_min PyProof.Rows.boot_min (jA3 (jL m_len (jv 11)) (jL m_len (jv 1)) (cA GD hr1 (jA2 (jv 0) zn)))))))))) zr)
  (zg (zw (tN (vk hr1) (jv 1) (zy zD))
   (zh (zp (zt (jA2 zq zn)))) zr)
  (zg (sE 12 scDeedG.nd (yf ur Uj Uk vK (jv 1) (jA1 (cA GD hr1 (jA2 (jv 0) (jL m_len (jv 1)))))))
  (zh (zp (zt (jA3 zq (jv 12) (cA GS hr2 (jA3 (jv 0) (jv 1) (xk (YO rfl) rfl m_min PyProof.Rows.boot_min (jA2 (jL m_len (jv 1)) (cA GD hr1 (jA2 (jv 0) zn)))))))))))))))))))),?_⟩
 have sl:=zK
 have LM:LIM=4611686018427387904:=rfl
 rw[LM]at hB
 have hL:H ll=some (.lst (L.map V.str)):=hd.kp.k _ _ (let ⟨_,s0⟩:=hd.s0;s0.neS hL0) hL0
 refine(ex2q rfl (ex2q rfl ⟨lm,ll,(ex4q rfl rfl ⟨hd.m,hL,by rw[ua,ua];lia,fun l1 f1=>?_⟩)⟩))
 have s1:=zj (o:=.lst (M.map V.str++L.map V.str)) f1
 obtain⟨f10,n1m,n1s⟩:=hd.new f1
 have h1:=hd.same s1
 have g1:=zf (H:=H) (a:=l1) (o:=.lst (M.map V.str++L.map V.str))
 refine(ex2q rfl ⟨st,8,B,rfl,h1.s,by rw[LM];lia,by decide,fun H2 r k2 S2 r0 r1=>?_⟩)
 have h2:=h1.go k2 S2
 have g2:=k2.k _ _ n1s g1
 have t2:Tups H H2:=(Tups.of s1).trans (k2.tups h1.s)
 refine(ex2q rfl ⟨rfl,(ex2q rfl ?_)⟩)
 have dn:∀(x y:Int)(z:Str),LnD o.D (.num x):=fun x _ _=>⟨by show 0<=1000;decide,raw0 rfl⟩
 by_cases c0:r=0
 ·refine zE (decide_eq_true (by rw[c0])) (iteT (ex2q rfl ⟨st,9,B+1,rfl,h2.s,by rw[LM];lia,by decide,fun H4 r4 k4 S4 _ _=>(ex4q rfl rfl ⟨sN2,fun p f=>?_⟩)⟩))
  exact q _ p (.num _) M (((h2.go k4 S4).same (zj f _)).mono (by lia)) (t2.trans ((k4.tups h2.s).trans (.of (zj f _)))) (fun _ z=>z) (ud _) zf (dn _ 0 "")
 refine iteE (decide_eq_false fun z=>c0 (V.int.inj z)) (ex2q rfl ⟨sN0,fun l3 f3=>?_⟩)
 have s3:=zj (o:=.lst []) f3
 have h3:=h2.same s3
 have g3:=s3 _ _ g2
 have t3:=t2.trans (.of s3)
 refine⟨l1,l3,(ex2q rfl ⟨rfl,SqL.of g3,SqL.of zf,(ex2q rfl ?_)⟩)⟩
 by_cases ce:(M.map V.str++L.map V.str).isEmpty=true
 ·refine zE ce (ex2q rfl ⟨st,9,B+1,rfl,h3.s,by rw[LM];lia,by decide,fun H4 r4 k4 S4 _ _=>(ex4q rfl rfl ⟨sN2,fun p f=>?_⟩)⟩)
  exact q _ p (.num _) M (((h3.go k4 S4).same (zj f _)).mono (by lia)) (t3.trans ((k4.tups h3.s).trans (.of (zj f _)))) (fun _ z=>z) (ud _) zf (dn _ 0 "")
 refine iteE (by simpa using ce) (nxtC ?_)
 have hnz:0 < (M.map V.str++L.map V.str).length:=by
  cases h:M.map V.str++L.map V.str with
  |nil=>rw[h]at ce;exact absurd rfl ce
  |cons a l=>exact Nat.succ_pos _
 have hnl:(M.map V.str++L.map V.str).length<=1000:=by rw[ub,ua,ua];lia
 generalize upd H2 l3 (.lst [])=H3 at *
 have pick:∀j:Nat,j < (M.map V.str++L.map V.str).length->∃x:Str,(M.map V.str++L.map V.str)[j]?=some (.str x):=fun j hj=>by
  rw[<- ui,ua]at hj
  rw[<- ui,ug]
  exact⟨_,by rw[uq hj];rfl⟩
 refine(ex2q rfl ⟨rfl,(ex2q rfl ?_)⟩)
 by_cases c1:r=1
 ·refine zE (decide_eq_true (by rw[c1])) ?_
  refine(ex2q rfl (ex2q rfl (ex2q rfl ⟨l1,(ex2q rfl ⟨.inl (SqL.of g3),st,((M.map V.str++L.map V.str).length:Nat),B+1,rfl,h3.s,by rw[LM];lia,by lia,fun H4 r4 k4 S4 a4 b4=>?_⟩)⟩)))
  obtain⟨j,rfl⟩:∃j:Nat,r4=(j:Int):=⟨r4.toNat,by lia⟩
  obtain⟨x,hx⟩:=pick j (by lia)
  have h4:=h3.go k4 S4
  have g4:=k4.k _ _ n1s g3
  refine⟨l1,_,_,_,rfl,rfl,SqL.of g4,zL hx,(ex2q rfl (ex2q rfl (ex2q rfl ⟨l1,(ex2q rfl ⟨.inl (SqL.of g4),st,((M.map V.str++L.map V.str).length:Nat),B+1+1,rfl,h4.s,by rw[LM];lia,by lia,fun H5 r5 k5 S5 a5 b5=>?_⟩)⟩)))⟩
  obtain⟨j5,rfl⟩:∃j:Nat,r5=(j:Int):=⟨r5.toNat,by lia⟩
  obtain⟨y,hy⟩:=pick j5 (by lia)
  have h5:=h4.go k5 S5
  refine⟨l1,_,_,_,rfl,rfl,SqL.of (k5.k _ _ n1s g4),zL hy,sN4,fun p f=>?_⟩
  exact q _ p (.op "plus" x y) M ((h5.same (zj f _)).mono (by lia)) (t3.trans ((k4.tups h3.s).trans ((k5.tups h4.s).trans (.of (zj f _))))) (fun _ z=>z) (ud _) zf ⟨by show 2<=1000;decide,raw0 rfl⟩
 refine iteE (decide_eq_false fun z=>c1 (V.int.inj z)) (nxtC ?_)
 refine(ex2q rfl (ex4q rfl rfl (ex2q rfl ?_)))
 obtain⟨tl,dl,ts,us,xs,w1,w2,w3,w4,w5⟩:=h3.wa
 have Tn:=hd.ok.Tn
 by_cases c6:r < 6
 ·refine zE (decide_eq_true c6) ?_
  refine(ex2q rfl (ixL w1 aI2 ⟨tl,rfl,⟨_,SqL.of w2⟩,yL (xs:=ts.map V.ref) (fun j τ ys H'=>H3=H'/\(∃v,τ=[some (.ref st),some (.ref lm),some (.ref ll),some (.ref wl),some (.ref l1),some (.int r),none,none,none,none,none,none,none,v])/\∃us:List Addr,ys=us.map V.ref/\us.length<=j/\(0 < j->us≠[])/\∀u∈us,∃a,tgR a H3 u/\a∈o.T/\a.2.1<=M.length) ⟨rfl,⟨none,rfl⟩,[],rfl,ud _,fun z=>absurd z (by decide),fun u hu=>by cases hu⟩ (fun j τ ys H' _ h=>SqL.of (h.1 ▸ w2)) ?_ ?_⟩))
  ·rintro j v τ ys H' hv ⟨rfl,⟨v',rfl⟩,vs,rfl,vl,vn,va⟩
   rw[ug]at hv
   obtain⟨t,ht,rfl⟩:=uj.mp hv
   obtain⟨a,ha,hR⟩:=w3.at ht
   have hj:j < ts.length:=(uf.mp ht).1
   have tl':=w3.1
   refine(ex2q rfl (ixT hR aI1 (ex2q rfl ⟨lm,(ex2q rfl ⟨.inl (SqL.of h3.m),(ex4q rfl rfl (ex2q rfl ?_))⟩)⟩)))
   have ml:(M.map V.str).length=M.length:=ua _
   by_cases c:a.2.1<=M.length
   ·refine zE (decide_eq_true (by rw[ml];exact Int.ofNat_le.mpr c)) (ex2q rfl ⟨by rw[ua];lia,rfl,⟨_,rfl⟩,vs++[t],by rw[ui];rfl,by rw[ub];show vs.length+1<=_;lia,fun _=>by simp,fun u hu=>?_⟩)
    rcases uv.mp hu with hu|hu
    ·exact va u hu
    ·rw[uB.mp hu]
     exact⟨a,hR,uw ha,c⟩
   ·refine iteE (decide_eq_false (by rw[ml];exact fun z=>c (Int.ofNat_le.mp z))) ⟨rfl,⟨_,rfl⟩,vs,rfl,by lia,fun _ e=>?_,va⟩
    by_cases z:j=0
    ·obtain⟨t0,h0,h0'⟩:=hd.ok.T0
     rw[z,h0]at ha
     cases ha
     rw[h0']at c
     exact c (uN _)
    ·exact vn (by lia) e
  rintro τ ys H' ⟨rfl,_,vs,rfl,vl,vn,va⟩ l4 f4
  have tl':=w3.1
  have Tp:0 < o.T.length:=by
   obtain⟨t0,h0,_⟩:=hd.ok.T0
   exact UY (uN _) (uf.mp h0).1
  rw[ua]at vl vn
  have vp:0 < vs.length:=UU.mpr (vn (by lia))
  have s4:=zj (o:=.lst (vs.map V.ref)) f4
  have h4:=h3.same s4
  have n4s:=h3.s.ne f4
  refine(ex2q rfl (ex2q rfl (ex2q rfl ⟨l4,(ex2q rfl ⟨.inl (SqL.of zf),st,((vs.map V.ref).length:Nat),B+1,rfl,h4.s,by rw[LM];lia,by rw[ua];lia,fun H5 r5 k5 S5 a5 b5=>?_⟩)⟩)))
  rw[ua]at b5
  obtain⟨j,rfl⟩:∃j:Nat,r5=(j:Int):=⟨r5.toNat,by lia⟩
  have hj:j < vs.length:=by lia
  obtain⟨a,aR,aT,aM⟩:=va vs[j] (List.getElem_mem hj)
  have h5:=h4.go k5 S5
  have tk5:=k5.tups h4.s
  have aR5:tgR a H5 vs[j]:=tk5 _ _ (s4 _ _ aR)
  have a9:=hd.ok.T a aT
  refine⟨l4,_,_,_,rfl,rfl,SqL.of (k5.k _ _ n4s zf),zL (by rw[ug,uq hj];rfl),_,_,rfl,SqT.of aR5,rfl,_,_,rfl,_,_,rfl,_,_,rfl,rfl,?_⟩
  refine(ex2q rfl (ex2q rfl (ex2q rfl (ex2q rfl ⟨st,lm,a.2.1,M,B+1+1,H0,wl,o,rfl,h5,aM,by lia,by lia,by rw[LM];lia,fun H6 r6 N M' h6 t6 ml6 sub g6 nl6=>⟨sN4,fun p f=>?_⟩⟩))))
  have s7:=zj (o:=.tup [.str "make",.str a.1,.ref r6,.str ""]) f
  exact q _ p (.mk a.1 N "") M' ((h6.same s7).mono (by lia)) ((t3.trans (.of s4)).trans (tk5.trans (t6.trans (.of s7)))) sub (by lia) ⟨r6,zf,s7 _ _ g6⟩ ⟨by show N.length<=1000;lia,rawM⟩
 refine iteE (decide_eq_false c6) (nxtC ?_)
 refine(ex2q rfl (ixL w1 aI3 (ex2q rfl ⟨st,3,B+1,rfl,h3.s,by rw[LM];lia,by decide,fun H4 r4 k4 S4 a4 b4=>?_⟩)))
 obtain⟨j,rfl⟩:∃j:Nat,r4=(j:Int):=⟨r4.toNat,by lia⟩
 have ul:=w5.1
 have Dn:=hd.ok.Dn
 have hj:j < us.length:=by lia
 have hju:us[j]?=some us[j]:=uq hj
 obtain⟨dd,hdd,pm,hR1,hR2⟩:=w5.at hju
 have ddm:=uw hdd
 have h4:=h3.go k4 S4
 have tk4:=k4.tups h3.s
 have t4:=t3.trans tk4
 have d9:=hd.ok.D dd ddm
 refine⟨dl,_,_,_,rfl,rfl,SqL.of (k4.k _ _ (h3.s.neR w4) w4),zL (by rw[ug,hju];rfl),_,_,rfl,SqT.of (tk4 _ _ hR1),rfl,_,_,rfl,_,_,rfl,rfl,?_⟩
 have pm4:=tk4 _ _ hR2
 refine(ex2q rfl ⟨rfl,(ex2q rfl ?_)⟩)
 by_cases c6':r=6
 ·refine zE (decide_eq_true (by rw[c6'])) ?_
  refine(ex2q rfl (ex2q rfl (ex2q rfl (ex2q rfl (ex2q rfl ⟨sN2,fun po fo=>?_⟩)))))
  have s5:=zj (o:=.tup [.str dd.1,.ref pm]) fo
  exact⟨st,lm,ll,po,pm,M,L,B+1+1,H0,wl,o,dd.1,dd.2,rfl,h4.same s5,hL0,zf,s5 _ _ pm4,d9,by lia,by lia,by rw[LM];lia,fun H6 r6 d6 M' h6 t6 sub ml6 I6 L6=>q _ r6 d6 M' (h6.mono (by lia)) (t4.trans ((Tups.of s5).trans t6)) sub ml6 I6 L6⟩
 refine iteE (decide_eq_false fun z=>c6' (V.int.inj z)) (nxtC ?_)
 dsimp only
 change (tSeq (tIfS _ _ _) (tSeq _ _):TS) { nx:=fun _ H'=>Q .non H',rt:=Q } [some (.ref st),some (.ref lm),some (.ref ll),some (.ref wl),some (.ref l1),some (.int r),none,none,none,none,some (.str dd.1),some (.ref pm),none] H4
 refine(show ∀u:TS,(∀H5:Hp,Hd K st wl o H0 H5 lm M (B+3)->Tups H H5->u { nx:=fun _ H'=>Q .non H',rt:=Q } [some (.ref st),some (.ref lm),some (.ref ll),some (.ref wl),some (.ref l1),some (.int r),none,none,none,none,some (.str dd.1),some (.ref pm),none] H5)->(tSeq (tIfS _ _ _) u:TS) { nx:=fun _ H'=>Q .non H',rt:=Q } [some (.ref st),some (.ref lm),some (.ref ll),some (.ref wl),some (.ref l1),some (.int r),none,none,none,none,some (.str dd.1),some (.ref pm),none] H4 from ?key) _ ?rst
 case key =>
  intro u rest
  refine(ex2q rfl ⟨pm,dd.2,rfl,pm4,(ex2q rfl ?_)⟩)
  cases ca:dd.2.all id with
  |false=>exact iteF (iteF (nxtC (rest H4 (h4.mono (by lia)) t4)))
  |true =>
   refine iteT (ex2q rfl ⟨st,2,B+1+1,rfl,h4.s,by rw[LM];lia,by decide,fun H5 r5 k5 S5 a5 b5=>⟨rfl,(ex2q rfl ?_)⟩⟩)
   have h5:=h4.go k5 S5
   have tk5:=k5.tups h4.s
   have t5:=t4.trans tk5
   by_cases c7:r5=1
   ·refine zE (decide_eq_true (by rw[c7])) ?_
    refine(ex2q rfl (ex2q rfl (ex2q rfl (ex2q rfl ⟨pm,(ex2q rfl ⟨.inr (SqT.of (tk5 _ _ pm4)),(ex2q rfl ⟨lm,(ex2q rfl ⟨.inl (SqL.of h5.m),(ex2q rfl ⟨st,4,B+1+1+1,rfl,h5.s,by rw[LM];lia,by decide,fun H6 r6 k6 S6 a6 b6=>⟨_,_,_,rfl,fun m0 hm1 hm2 hm3 hm4=>?_⟩⟩)⟩)⟩)⟩)⟩))))
    rw[ua]at hm1 hm2 hm3
    obtain⟨n,rfl⟩:∃n:Nat,m0=(n:Int):=⟨m0.toNat,by rcases hm1 with e|e|e<;>lia⟩
    have h6:=h5.go k6 S6
    refine⟨st,lm,n,M,B+1+1+1+1,H0,wl,o,rfl,h6,by lia,by lia,by lia,by rw[LM];lia,fun H7 r7 N M' h7 t7 ml7 sub g7 nl7=>⟨sN3,fun p f=>?_⟩⟩
    have s8:=zj (o:=.tup [.str "func",.str dd.1,.ref r7]) f
    exact q _ p (.fn dd.1 N) M' ((h7.same s8).mono (by lia)) (t5.trans ((k6.tups h5.s).trans (t7.trans (.of s8)))) sub (by lia) ⟨r7,zf,s8 _ _ g7⟩ ⟨by show N.length<=1000;lia,raw0 rfl⟩
   ·exact iteE (decide_eq_false fun z=>c7 (V.int.inj z)) (nxtC (rest H5 (h5.mono (by lia)) t5))
 intro H5 h5 t5
 refine(ex2q rfl ⟨sN0,fun l6 f6=>?_⟩)
 have s6:=zj (o:=.lst []) f6
 have h6:=h5.same s6
 have t6:=t5.trans (.of s6)
 refine⟨lm,l6,(ex2q rfl ⟨rfl,SqL.of h6.m,SqL.of zf,(ex2q rfl ?_)⟩)⟩
 by_cases cm:(M.map V.str).isEmpty=true
 ·refine zE cm ⟨sN2,fun p f=>?_⟩
  exact q _ p (.num _) M ((h6.same (zj f _)).mono (by lia)) (t6.trans (.of (zj f _))) (fun _ z=>z) (ud _) zf (dn _ 0 "")
 refine iteE (by simpa using cm) (nxtC ?_)
 have mp:0 < M.length:=by
  rw[List.isEmpty_map]at cm
  cases M with
  |nil=>exact absurd rfl cm
  |cons a l=>exact Nat.succ_pos _
 refine(ex2q rfl ⟨.inl ⟨rfl,_,SqL.of h6.m⟩,(ex2q rfl (ex2q rfl ⟨lm,(ex2q rfl ⟨.inl (SqL.of h6.m),st,((M.map V.str).length:Nat),B+3,rfl,h6.s,by rw[LM];lia,by rw[ua];lia,fun H7 r7 k7 S7 a7 b7=>?_⟩)⟩))⟩)
 rw[ua]at b7
 obtain⟨i,rfl⟩:∃i:Nat,r7=(i:Int):=⟨r7.toNat,by lia⟩
 have hi:i < M.length:=by lia
 have h7:=h6.go k7 S7
 refine⟨lm,_,_,i,(ex2q rfl ⟨rfl,h7.m,by lia,by lia,Vy (by rw[ua];exact hi),(by rw[ug,uq hi];rfl),?_⟩)⟩
 rw[xB]
 obtain⟨h8,t8⟩:=h7.set (M':=M.eraseIdx i)
 have el:(M.eraseIdx i).length=M.length-1:=UH hi
 refine(ex2q rfl (ex2q rfl (ex2q rfl (ex2q rfl ⟨lm,(ex2q rfl ⟨.inl (SqL.of h8.m),(ex2q rfl ⟨st,4,B+3+1,rfl,h8.s,by rw[LM];lia,by decide,fun H9 r9 k9 S9 a9 b9=>⟨_,_,rfl,?_⟩⟩)⟩)⟩))))
 rw[ua]
 have h9:=h8.go k9 S9
 obtain⟨n,hn,hn1,hn2⟩:∃n:Nat,(if r9 < (((M.eraseIdx i).length:Nat):Int)then r9 else(((M.eraseIdx i).length:Nat):Int))=(n:Int)/\n<=(M.eraseIdx i).length/\n<=4:=by
  split
  ·exact⟨r9.toNat,by lia,by lia,by lia⟩
  ·exact⟨(M.eraseIdx i).length,rfl,ud _,by lia⟩
 rw[hn]
 refine⟨st,lm,n,M.eraseIdx i,B+3+1+1,H0,wl,o,rfl,h9,hn1,by lia,by lia,by rw[LM];lia,fun H10 r10 N M' h10 t10 ml10 sub g10 nl10=>⟨sN3,fun p f=>?_⟩⟩
 have s11:=zj (o:=.tup [.str "ask",.str M[i],.ref r10]) f
 exact q _ p (.ask M[i] N) M' ((h10.same s11).mono (by lia)) (t6.trans ((k7.tups h6.s).trans (t8.trans ((k9.tups h8.s).trans (t10.trans (.of s11)))))) (fun x hx=>List.mem_of_mem_eraseIdx (sub x hx)) (by lia) ⟨r10,zf,s11 _ _ g10⟩ ⟨by show N.length+1<=1000;lia,raw0 rfl⟩
end
def mtD(k:Str):Dd->Bool
 |.mk _ _ j=>decide (j=k)
 |_=>false
mutual
def Bd.mt(k:Str):Bd->Bool
 |.give _=>false
 |.lt _ d b=>mtD k d || b.mt k
 |.hold _ _ b=>b.mt k
 |.drop _ b=>b.mt k
 |.loose y b=>decide (y=k) || b.mt k
 |.iff _ b c=>b.mt k || c.mt k
 |.cs _ as=>as.mt k
def Arms.mt(k:Str):Arms->Bool
 |.nil=>false
 |.cons _ _ _ _ b r=>b.mt k || r.mt k
end
def yx(k:Str):Bd->Bool
 |.loose y b=>if y=k then !b.mt k else yx k b
 |_=>false
def fitD(n:Nat)(free:List Str)(d:Dd):Bool:=(mkD d).any fun q=>decide (q.1=n) && (decide (q.2="") || decide (q.2∈free))
mutual
def Bd.pd(k:Str)(n:Nat)(free:List Str):Bd->Bool
 |.give x=>if stB n free (.give x)=false then yx k (.give x)else false
 |.lt x d b=>if stB n free (.lt x d b)=false then yx k (.lt x d b)else if fitD n free d then mtD k d && !b.mt k else if mtD k d then false else b.pd k n free
 |.hold x y b=>if stB n free (.hold x y b)=false then yx k (.hold x y b)else b.pd k n free
 |.drop x b=>if stB n free (.drop x b)=false then yx k (.drop x b)else b.pd k n free
 |.loose y b=>if stB n free (.loose y b)=false then yx k (.loose y b)else if y=k then false else b.pd k n free
 |.iff x b c=>if stB n free (.iff x b c)=false then yx k (.iff x b c)else b.pd k n free && c.pd k n free
 |.cs x as=>if stB n free (.cs x as)=false then yx k (.cs x as)else as.pd k n free
def Arms.pd(k:Str)(n:Nat)(free:List Str):Arms->Bool
 |.nil=>true
 |.cons _ _ _ _ b r=>b.pd k n free && r.pd k n free
end
def ExD(T:Str->Prop)(d d':Dd):Prop:=d'=d\/∃t ns j,d=.mk t ns ""/\d'=.mk t ns j/\T j
mutual
def ExB(T:Str->Prop):Bd->Bd->Prop
 |c,.give x=>c=.give x
 |c,.lt x d' b'=>∃d b,c=.lt x d b/\ExD T d d'/\ExB T b b'
 |c,.hold x y b'=>∃b,c=.hold x y b/\ExB T b b'
 |c,.drop x b'=>∃b,c=.drop x b/\ExB T b b'
 |c,.loose j b'=>(∃b,c=.loose j b/\ExB T b b')\/(T j/\ExB T c b')
 |c,.iff x b' e'=>∃b e,c=.iff x b e/\ExB T b b'/\ExB T e e'
 |c,.cs x as'=>∃as,c=.cs x as/\ExA T as as'
def ExA(T:Str->Prop):Arms->Arms->Prop
 |as,.nil=>as=.nil
 |as,.cons t ns m k' b' r'=>∃k b r,as=.cons t ns m k b r/\(k'=k\/(k=""/\T k'))/\ExB T b b'/\ExA T r r'
end
mutual
theorem ExB.rfl{T:Str->Prop}:∀b:Bd,ExB T b b
 |.give x=>by rw[ExB]
 |.lt x d b=>by rw[ExB];exact⟨d,b,Eq.refl _,.inl (Eq.refl _),ExB.rfl b⟩
 |.hold x y b=>by rw[ExB];exact⟨b,Eq.refl _,ExB.rfl b⟩
 |.drop x b=>by rw[ExB];exact⟨b,Eq.refl _,ExB.rfl b⟩
 |.loose x b=>by rw[ExB];exact .inl ⟨b,Eq.refl _,ExB.rfl b⟩
 |.iff x b c=>by rw[ExB];exact⟨b,c,Eq.refl _,ExB.rfl b,ExB.rfl c⟩
 |.cs x as=>by rw[ExB];exact⟨as,Eq.refl _,ExA.rfl as⟩
theorem ExA.rfl{T:Str->Prop}:∀as:Arms,ExA T as as
 |.nil=>by rw[ExA]
 |.cons t ns m k b r=>by rw[ExA];exact⟨k,b,r,Eq.refl _,.inl (Eq.refl _),ExB.rfl b,ExA.rfl r⟩
end
theorem ExD.tr{T U V:Str->Prop}(h1:∀k,T k->V k)(h2:∀k,U k->V k){a b c:Dd}(h:ExD T a b)(g:ExD U b c):ExD V a c:=by
 rcases g with rfl|⟨t,ns,j,e1,e2,hj⟩
 ·rcases h with rfl|⟨t,ns,j,e1,e2,hj⟩
  ·exact .inl rfl
  ·exact .inr ⟨t,ns,j,e1,e2,h1 _ hj⟩
 ·rcases h with rfl|⟨t',ns',j',f1,f2,hj'⟩
  ·exact .inr ⟨t,ns,j,e1,e2,h2 _ hj⟩
  ·rw[e1]at f2
   cases f2
   exact .inr ⟨t,ns,j,f1,e2,h2 _ hj⟩
mutual
theorem ExB.tr{T U V:Str->Prop}(h1:∀k,T k->V k)(h2:∀k,U k->V k):∀{a b c:Bd},ExB T a b->ExB U b c->ExB V a c
 |a,b,.give x,h,g=>by rw[ExB]at g ⊢;rw[g,ExB]at h;exact h
 |a,b,.lt x d' c,h,g=>by
  rw[ExB]at g ⊢
  obtain⟨d,b1,rfl,g1,g2⟩:=g
  rw[ExB]at h
  obtain⟨d0,a1,rfl,f1,f2⟩:=h
  exact⟨d0,a1,rfl,f1.tr h1 h2 g1,ExB.tr h1 h2 f2 g2⟩
 |a,b,.hold x y c,h,g=>by
  rw[ExB]at g ⊢
  obtain⟨b1,rfl,g2⟩:=g
  rw[ExB]at h
  obtain⟨a1,rfl,f2⟩:=h
  exact⟨a1,rfl,ExB.tr h1 h2 f2 g2⟩
 |a,b,.drop x c,h,g=>by
  rw[ExB]at g ⊢
  obtain⟨b1,rfl,g2⟩:=g
  rw[ExB]at h
  obtain⟨a1,rfl,f2⟩:=h
  exact⟨a1,rfl,ExB.tr h1 h2 f2 g2⟩
 |a,b,.loose j c,h,g=>by
  rw[ExB]at g ⊢
  rcases g with⟨b1,rfl,g2⟩|⟨gj,g2⟩
  ·rw[ExB]at h
   rcases h with⟨a1,rfl,f2⟩|⟨fj,f2⟩
   ·exact .inl ⟨a1,rfl,ExB.tr h1 h2 f2 g2⟩
   ·exact .inr ⟨h1 _ fj,ExB.tr h1 h2 f2 g2⟩
  ·exact .inr ⟨h2 _ gj,ExB.tr h1 h2 h g2⟩
 |a,b,.iff x c e,h,g=>by
  rw[ExB]at g ⊢
  obtain⟨b1,b2,rfl,g1,g2⟩:=g
  rw[ExB]at h
  obtain⟨a1,a2,rfl,f1,f2⟩:=h
  exact⟨a1,a2,rfl,ExB.tr h1 h2 f1 g1,ExB.tr h1 h2 f2 g2⟩
 |a,b,.cs x as,h,g=>by
  rw[ExB]at g ⊢
  obtain⟨b1,rfl,g2⟩:=g
  rw[ExB]at h
  obtain⟨a1,rfl,f2⟩:=h
  exact⟨a1,rfl,ExA.tr h1 h2 f2 g2⟩
theorem ExA.tr{T U V:Str->Prop}(h1:∀k,T k->V k)(h2:∀k,U k->V k):∀{a b c:Arms},ExA T a b->ExA U b c->ExA V a c
 |a,b,.nil,h,g=>by rw[ExA]at g ⊢;rw[g,ExA]at h;exact h
 |a,b,.cons t ns m k' c r,h,g=>by
  rw[ExA]at g ⊢
  obtain⟨k1,b1,r1,rfl,gk,g1,g2⟩:=g
  rw[ExA]at h
  obtain⟨k0,b0,r0,rfl,fk,f1,f2⟩:=h
  refine⟨k0,b0,r0,rfl,?_,ExB.tr h1 h2 f1 g1,ExA.tr h1 h2 f2 g2⟩
  rcases gk with rfl|⟨e,gk⟩
  ·exact fk.imp (fun e=>e) fun⟨x,y⟩=>⟨x,h1 _ y⟩
  ·rcases fk with rfl|⟨e',_⟩
   ·exact .inr ⟨e,h2 _ gk⟩
   ·exact .inr ⟨e',h2 _ gk⟩
end
theorem ExB.mono{T V:Str->Prop}(h:∀k,T k->V k){a b:Bd}(g:ExB T a b):ExB V a b:=ExB.tr h h g (ExB.rfl b)
mutual
theorem ExB.wy{k:Str}{n:Nat}:∀b:Bd,ExB (·=k) b (b.wy k n)
 |.give x=>by unfold Bd.wy;exact ExB.rfl _
 |.lt x d b=>by
  unfold Bd.wy
  by_cases c:isLD n d=true
  ·rw[if_pos c,ExB]
   refine⟨d,b,rfl,?_,ExB.rfl b⟩
   cases d with
   |mk t ns j =>
    unfold isLD at c
    rw[uQ,decide_eq_true_eq,decide_eq_true_eq]at c
    rw[c.2]
    exact .inr ⟨t,ns,k,rfl,rfl,rfl⟩
   |_=>exact .inl rfl
  ·rw[if_neg c,ExB]
   exact⟨d,b,rfl,.inl rfl,ExB.wy b⟩
 |.hold x y b=>by unfold Bd.wy;rw[ExB];exact⟨b,rfl,ExB.wy b⟩
 |.drop x b=>by unfold Bd.wy;rw[ExB];exact⟨b,rfl,ExB.wy b⟩
 |.loose x b=>by unfold Bd.wy;rw[ExB];exact .inl ⟨b,rfl,ExB.wy b⟩
 |.iff x b c=>by
  have hb:=ExB.wy (k:=k) (n:=n) b
  have hc:=ExB.wy (k:=k) (n:=n) c
  unfold Bd.wy
  split
  ·rw[ExB]
   refine⟨b,c,rfl,?_,?_⟩
   ·split
    ·exact hb
    ·rw[ExB];exact .inr ⟨rfl,ExB.rfl b⟩
   ·split
    ·exact hc
    ·rw[ExB];exact .inr ⟨rfl,ExB.rfl c⟩
  ·exact ExB.rfl _
 |.cs x as=>by
  have h:=ExA.wy (k:=k) (n:=n) as
  unfold Bd.wy
  split
  ·rw[ExB];exact⟨as,rfl,h⟩
  ·exact ExB.rfl _
theorem ExA.wy{k:Str}{n:Nat}:∀as:Arms,ExA (·=k) as (as.wy k n)
 |.nil=>by unfold Arms.wy;rw[ExA]
 |.cons t ns m k' b r=>by
  have hb:=ExB.wy (k:=k) (n:=n) b
  have hr:=ExA.wy (k:=k) (n:=n) r
  unfold Arms.wy
  rw[ExA]
  refine⟨k',b,r,rfl,.inl rfl,?_,hr⟩
  split
  ·exact hb
  ·rw[ExB];exact .inr ⟨rfl,ExB.rfl b⟩
end
theorem ExD.mt{T:Str->Prop}{k:Str}(hk:¬ T k){d d':Dd}(h:ExD T d d')(e:mtD k d=false):mtD k d'=false:=by
 rcases h with rfl|⟨t,ns,j,rfl,rfl,hj⟩
 ·exact e
 ·unfold mtD
  exact decide_eq_false fun z=>hk (z ▸ hj)
mutual
theorem ExB.mt{T:Str->Prop}{k:Str}(hk:¬ T k):∀{b c:Bd},ExB T b c->b.mt k=false->c.mt k=false
 |b,.give x,h,e=>by rw[Bd.mt]
 |b,.lt x d c,h,e=>by
  rw[ExB]at h
  obtain⟨d0,b0,rfl,f1,f2⟩:=h
  rw[Bd.mt,uH]at e ⊢
  exact⟨f1.mt hk e.1,ExB.mt hk f2 e.2⟩
 |b,.hold x y c,h,e=>by
  rw[ExB]at h
  obtain⟨b0,rfl,f2⟩:=h
  rw[Bd.mt]at e ⊢
  exact ExB.mt hk f2 e
 |b,.drop x c,h,e=>by
  rw[ExB]at h
  obtain⟨b0,rfl,f2⟩:=h
  rw[Bd.mt]at e ⊢
  exact ExB.mt hk f2 e
 |b,.loose j c,h,e=>by
  rw[ExB]at h
  rw[Bd.mt]
  rcases h with⟨b0,rfl,f2⟩|⟨fj,f2⟩
  ·rw[Bd.mt]at e
   rw[uH]at e ⊢
   exact⟨e.1,ExB.mt hk f2 e.2⟩
  ·rw[uH]
   exact⟨decide_eq_false fun z=>hk (z ▸ fj),ExB.mt hk f2 e⟩
 |b,.iff x c c2,h,e=>by
  rw[ExB]at h
  obtain⟨b0,b1,rfl,f1,f2⟩:=h
  rw[Bd.mt,uH]at e ⊢
  exact⟨ExB.mt hk f1 e.1,ExB.mt hk f2 e.2⟩
 |b,.cs x as,h,e=>by
  rw[ExB]at h
  obtain⟨b0,rfl,f2⟩:=h
  rw[Bd.mt]at e ⊢
  exact ExA.mt hk f2 e
theorem ExA.mt{T:Str->Prop}{k:Str}(hk:¬ T k):∀{b c:Arms},ExA T b c->b.mt k=false->c.mt k=false
 |b,.nil,h,e=>by rw[Arms.mt]
 |b,.cons t ns m k' c r,h,e=>by
  rw[ExA]at h
  obtain⟨k0,b0,r0,rfl,fk,f1,f2⟩:=h
  rw[Arms.mt,uH]at e ⊢
  exact⟨ExB.mt hk f1 e.1,ExA.mt hk f2 e.2⟩
end
theorem ExD.mk{T:Str->Prop}{d d':Dd}(h:ExD T d d'):All2 (RM T) (mkD d) (mkD d'):=by
 rcases h with rfl|⟨t,ns,j,rfl,rfl,hj⟩
 ·exact RM.id _
 ·exact .cons ⟨rfl,.inr ⟨rfl,hj⟩⟩ .nil
mutual
theorem ExB.mk{T:Str->Prop}:∀{b c:Bd},ExB T b c->All2 (RM T) b.mks c.mks
 |b,.give x,h=>by rw[ExB]at h;rw[h,Bd.mks];exact .nil
 |b,.lt x d c,h=>by
  rw[ExB]at h
  obtain⟨d0,b0,rfl,f1,f2⟩:=h
  rw[Bd.mks,Bd.mks]
  exact All2.app f1.mk (ExB.mk f2)
 |b,.hold x y c,h=>by
  rw[ExB]at h
  obtain⟨b0,rfl,f2⟩:=h
  rw[Bd.mks,Bd.mks]
  exact ExB.mk f2
 |b,.drop x c,h=>by
  rw[ExB]at h
  obtain⟨b0,rfl,f2⟩:=h
  rw[Bd.mks,Bd.mks]
  exact ExB.mk f2
 |b,.loose j c,h=>by
  rw[ExB]at h
  rcases h with⟨b0,rfl,f2⟩|⟨fj,f2⟩
  ·rw[Bd.mks,Bd.mks]
   exact ExB.mk f2
  ·rw[Bd.mks]
   exact ExB.mk f2
 |b,.iff x c c2,h=>by
  rw[ExB]at h
  obtain⟨b0,b1,rfl,f1,f2⟩:=h
  rw[Bd.mks,Bd.mks]
  exact All2.app (ExB.mk f1) (ExB.mk f2)
 |b,.cs x as,h=>by
  rw[ExB]at h
  obtain⟨b0,rfl,f2⟩:=h
  rw[Bd.mks,Bd.mks]
  exact ExA.mk f2
theorem ExA.mk{T:Str->Prop}:∀{b c:Arms},ExA T b c->All2 (RM T) b.mks c.mks
 |b,.nil,h=>by rw[ExA]at h;rw[h,Arms.mks];exact .nil
 |b,.cons t ns m k' c r,h=>by
  rw[ExA]at h
  obtain⟨k0,b0,r0,rfl,fk,f1,f2⟩:=h
  rw[Arms.mks,Arms.mks]
  exact All2.app (ExB.mk f1) (ExA.mk f2)
end
def selB(k:Str)(n:Nat)(b:Bd):Bd:=if b.hasL n then b.wy k n else .loose k b
section
variable{k:Str}{n:Nat}
theorem Qf{x:Str}:∀{b:Bd},b.wy k n=.give x->b=.give x
 |.give y,e=>by unfold Bd.wy at e;exact e
 |.lt y d b,e=>by unfold Bd.wy at e;split at e<;>cases e
 |.hold y z b,e=>by unfold Bd.wy at e;cases e
 |.drop y b,e=>by unfold Bd.wy at e;cases e
 |.loose y b,e=>by unfold Bd.wy at e;cases e
 |.iff y b c,e=>by unfold Bd.wy at e;split at e<;>cases e
 |.cs y as,e=>by unfold Bd.wy at e;split at e<;>cases e
theorem zb7{x:Str}{d:Dd}{b0:Bd}:∀{b:Bd},b.wy k n=.lt x d b0->∃d1 b1,b=.lt x d1 b1/\((isLD n d1=true/\d=setT k d1/\b0=b1)\/(isLD n d1=false/\d=d1/\b0=b1.wy k n))
 |.give y,e=>by unfold Bd.wy at e;cases e
 |.lt y d1 b,e=>by
  unfold Bd.wy at e
  split at e
  ·rename_i c
   cases e
   exact⟨d1,b0,rfl,.inl ⟨c,rfl,rfl⟩⟩
  ·rename_i c
   cases e
   exact⟨d,b,rfl,.inr ⟨by simpa using c,rfl,rfl⟩⟩
 |.hold y z b,e=>by unfold Bd.wy at e;cases e
 |.drop y b,e=>by unfold Bd.wy at e;cases e
 |.loose y b,e=>by unfold Bd.wy at e;cases e
 |.iff y b c,e=>by unfold Bd.wy at e;split at e<;>cases e
 |.cs y as,e=>by unfold Bd.wy at e;split at e<;>cases e
theorem Qg{x y:Str}{b0:Bd}:∀{b:Bd},b.wy k n=.hold x y b0->∃b1,b=.hold x y b1/\b0=b1.wy k n
 |.give y,e=>by unfold Bd.wy at e;cases e
 |.lt y d1 b,e=>by unfold Bd.wy at e;split at e<;>cases e
 |.hold y z b,e=>by unfold Bd.wy at e;cases e;exact⟨b,rfl,rfl⟩
 |.drop y b,e=>by unfold Bd.wy at e;cases e
 |.loose y b,e=>by unfold Bd.wy at e;cases e
 |.iff y b c,e=>by unfold Bd.wy at e;split at e<;>cases e
 |.cs y as,e=>by unfold Bd.wy at e;split at e<;>cases e
theorem Qh{x:Str}{b0:Bd}:∀{b:Bd},b.wy k n=.drop x b0->∃b1,b=.drop x b1/\b0=b1.wy k n
 |.give y,e=>by unfold Bd.wy at e;cases e
 |.lt y d1 b,e=>by unfold Bd.wy at e;split at e<;>cases e
 |.hold y z b,e=>by unfold Bd.wy at e;cases e
 |.drop y b,e=>by unfold Bd.wy at e;cases e;exact⟨b,rfl,rfl⟩
 |.loose y b,e=>by unfold Bd.wy at e;cases e
 |.iff y b c,e=>by unfold Bd.wy at e;split at e<;>cases e
 |.cs y as,e=>by unfold Bd.wy at e;split at e<;>cases e
theorem VB{x:Str}{b0:Bd}:∀{b:Bd},b.wy k n=.loose x b0->∃b1,b=.loose x b1/\b0=b1.wy k n
 |.give y,e=>by unfold Bd.wy at e;cases e
 |.lt y d1 b,e=>by unfold Bd.wy at e;split at e<;>cases e
 |.hold y z b,e=>by unfold Bd.wy at e;cases e
 |.drop y b,e=>by unfold Bd.wy at e;cases e
 |.loose y b,e=>by unfold Bd.wy at e;cases e;exact⟨b,rfl,rfl⟩
 |.iff y b c,e=>by unfold Bd.wy at e;split at e<;>cases e
 |.cs y as,e=>by unfold Bd.wy at e;split at e<;>cases e
theorem zbv{x:Str}{e1 e2:Bd}:∀{b:Bd},b.hasL n=true->b.wy k n=.iff x e1 e2->∃b1 b2,b=.iff x b1 b2/\e1=selB k n b1/\e2=selB k n b2
 |.give y,_,e=>by unfold Bd.wy at e;cases e
 |.lt y d1 b,_,e=>by unfold Bd.wy at e;split at e<;>cases e
 |.hold y z b,_,e=>by unfold Bd.wy at e;cases e
 |.drop y b,_,e=>by unfold Bd.wy at e;cases e
 |.loose y b,_,e=>by unfold Bd.wy at e;cases e
 |.iff y b c,h,e=>by
  unfold Bd.hasL at h
  unfold Bd.wy at e
  rw[if_pos h]at e
  cases e
  exact⟨b,c,rfl,rfl,rfl⟩
 |.cs y as,_,e=>by unfold Bd.wy at e;split at e<;>cases e
theorem zb8{x:Str}{e1:Arms}:∀{b:Bd},b.hasL n=true->b.wy k n=.cs x e1->∃as,b=.cs x as/\e1=as.wy k n
 |.give y,_,e=>by unfold Bd.wy at e;cases e
 |.lt y d1 b,_,e=>by unfold Bd.wy at e;split at e<;>cases e
 |.hold y z b,_,e=>by unfold Bd.wy at e;cases e
 |.drop y b,_,e=>by unfold Bd.wy at e;cases e
 |.loose y b,_,e=>by unfold Bd.wy at e;cases e
 |.iff y b c,_,e=>by unfold Bd.wy at e;split at e<;>cases e
 |.cs y as,h,e=>by
  unfold Bd.hasL at h
  unfold Bd.wy at e
  rw[if_pos h]at e
  cases e
  exact⟨as,rfl,rfl⟩
theorem Qi{t m k0:Str}{ns:List Str}{b0:Bd}{r0:Arms}:∀{as:Arms},as.wy k n=.cons t ns m k0 b0 r0->∃b1 r1,as=.cons t ns m k0 b1 r1/\b0=selB k n b1/\r0=r1.wy k n
 |.nil,e=>by unfold Arms.wy at e;cases e
 |.cons _ _ _ _ b r,e=>by
  unfold Arms.wy at e
  cases e
  exact⟨b,r,rfl,rfl,rfl⟩
variable{T:Str->Prop}{free:List Str}
theorem zb9{b c:Bd}(h:ExB T b c)(hl:b.hasL n=false)(old:∀q∈b.mks,q.2=""\/q.2∉free):stB n free c=false:=by
 unfold stB
 rw[UQ]
 intro q' hq' hc
 obtain⟨q,hq,e1,e2⟩:=All2.memR h.mk hq'
 rw[Bd.hasL_mks,UQ]at hl
 have hn:=hl q hq
 rw[uQ,decide_eq_true_eq,Bool.or_eq_true,decide_eq_true_eq,decide_eq_true_eq]at hc
 have qn:q.2≠"":=fun z=>hn (by rw[decide_eq_true (e1.trans hc.1),decide_eq_true z];rfl)
 have qf:=(old q hq).resolve_left qn
 rcases e2 with e2|⟨e2,_⟩
 ·rw[e2]at hc
  exact hc.2.elim qn qf
 ·exact qn e2
theorem vM{b c:Bd}(h:ExB T (b.wy k n) c)(hl:b.hasL n=true)(k0:k≠"")(kf:k∈free):stB n free c=true:=by
 obtain⟨q,hq,e1,e2⟩:=All2.memL h.mk (Bd.wy_has (k:=k) b hl)
 unfold stB
 rw[UG]
 refine⟨q,hq,?_⟩
 rcases e2 with e2|⟨e2,_⟩
 ·have e1:n=q.1:=e1
  have e2:q.2=k:=e2
  rw[decide_eq_true e1.symm,e2,decide_eq_true kf]
  simp
 ·exact absurd e2 k0
theorem VC:∀{c:Bd},stB n free c=false->c.pd k n free=yx k c:=by
 intro c h
 cases c<;>rw[Bd.pd,if_pos h]
theorem Y7{j:Str}{c:Bd}(nj:j≠k)(h:c.pd k n free=true):(Bd.loose j c).pd k n free=true:=by
 have e:stB n free (.loose j c)=stB n free c:=by unfold stB;rw[Bd.mks]
 rw[Bd.pd,e]
 by_cases s:stB n free c=false
 ·rw[if_pos s]
  rw[VC s]at h
  show(if j=k then !c.mt k else yx k c)=true
  rw[if_neg nj]
  exact h
 ·rw[if_neg s,if_neg nj]
  exact h
variable(k0:k≠"")(kT:¬ T k)(kf:k∈free)
include k0 kT kf
mutual
theorem xf:∀{c b:Bd},ExB T (selB k n b) c->b.mt k=false->(∀q∈b.mks,q.2=""\/q.2∉free)->c.pd k n free=true
 |.give x,b,h,hm,old=>by
  rw[ExB]at h
  unfold selB at h
  split at h
  ·rename_i hl
   rw[Qf h,Bd.hasL]at hl
   cases hl
  ·cases h
 |.lt x d' c,b,h,hm,old=>by
  have hL:b.hasL n=true:=by
   rw[ExB]at h
   obtain⟨_,_,e,_⟩:=h
   unfold selB at e
   split at e
   ·rename_i hl;exact hl
   ·cases e
  have es:selB k n b=b.wy k n:=if_pos hL
  rw[es]at h
  have sy:=vM h hL k0 kf
  rw[ExB]at h
  obtain⟨d,b0,e,f1,f2⟩:=h
  obtain⟨d1,b1,rfl,w⟩:=zb7 e
  rw[Bd.mt,uH]at hm
  rw[Bd.mks]at old
  rw[Bd.pd,if_neg (by rw[sy];decide)]
  rcases w with⟨c1,rfl,rfl⟩|⟨c1,rfl,rfl⟩
  ·cases d1 with
   |mk t ns j =>
    unfold isLD at c1
    rw[uQ,decide_eq_true_eq,decide_eq_true_eq]at c1
    have ed:d'=.mk t ns k:=by
     rcases f1 with e|⟨t',ns',j',e,_⟩
     ·exact e
     ·exact absurd (by cases e;rfl) k0
    rw[ed]
    have ef:fitD n free (.mk t ns k)=true:=by
     unfold fitD mkD
     rw[uO,decide_eq_true c1.1,decide_eq_true kf]
     simp
    rw[if_pos ef,ExB.mt kT f2 hm.2]
    unfold mtD
    simp
   |num i=>unfold isLD at c1;cases c1
   |op o a b=>unfold isLD at c1;cases c1
   |call g ns=>unfold isLD at c1;cases c1
   |fn g ns=>unfold isLD at c1;cases c1
   |ask g ns=>unfold isLD at c1;cases c1
  ·have m1:=f1.mt kT hm.1
   have ef:fitD n free d'=false:=by
    rcases f1 with rfl|⟨t,ns,j,rfl,rfl,hj⟩
    ·unfold fitD
     rw[UQ]
     intro q hq hc
     rw[uQ,decide_eq_true_eq,Bool.or_eq_true,decide_eq_true_eq,decide_eq_true_eq]at hc
     have hn:¬ (q.1=n/\q.2=""):=fun z=>by
      rw[hasD,UQ]at c1
      exact c1 q hq (by rw[decide_eq_true z.1,decide_eq_true z.2];rfl)
     have qn:q.2≠"":=fun z=>hn ⟨hc.1,z⟩
     exact hc.2.elim qn ((old q (uk _ hq)).resolve_left qn)
    ·unfold isLD at c1
     rw[Bool.and_eq_false_iff,decide_eq_false_iff_not,decide_eq_false_iff_not]at c1
     unfold fitD mkD
     have:ns.length≠n:=c1.elim (fun z=>z) fun z=>absurd rfl z
     rw[uO,decide_eq_false this]
     rfl
   rw[if_neg (by rw[ef];decide),if_neg (by rw[m1];decide)]
   rw[Bd.hasL,c1,uV]at hL
   refine xf (b:=b1) (by unfold selB;rw[if_pos hL];exact f2) hm.2 fun q hq=>old q (uh _ hq)
 |.hold x y c,b,h,hm,old=>by
  have hL:b.hasL n=true:=by
   rw[ExB]at h
   obtain⟨_,e,_⟩:=h
   unfold selB at e
   split at e
   ·rename_i hl;exact hl
   ·cases e
  have es:selB k n b=b.wy k n:=if_pos hL
  rw[es]at h
  have sy:=vM h hL k0 kf
  rw[ExB]at h
  obtain⟨b0,e,f2⟩:=h
  obtain⟨b1,rfl,rfl⟩:=Qg e
  rw[Bd.mt]at hm
  rw[Bd.mks]at old
  rw[Bd.hasL]at hL
  rw[Bd.pd,if_neg (by rw[sy];decide)]
  exact xf (b:=b1) (by unfold selB;rw[if_pos hL];exact f2) hm old
 |.drop x c,b,h,hm,old=>by
  have hL:b.hasL n=true:=by
   rw[ExB]at h
   obtain⟨_,e,_⟩:=h
   unfold selB at e
   split at e
   ·rename_i hl;exact hl
   ·cases e
  have es:selB k n b=b.wy k n:=if_pos hL
  rw[es]at h
  have sy:=vM h hL k0 kf
  rw[ExB]at h
  obtain⟨b0,e,f2⟩:=h
  obtain⟨b1,rfl,rfl⟩:=Qh e
  rw[Bd.mt]at hm
  rw[Bd.mks]at old
  rw[Bd.hasL]at hL
  rw[Bd.pd,if_neg (by rw[sy];decide)]
  exact xf (b:=b1) (by unfold selB;rw[if_pos hL];exact f2) hm old
 |.loose j c,b,h,hm,old=>by
  rw[ExB]at h
  rcases h with⟨b0,e,f2⟩|⟨fj,f2⟩
  ·by_cases hL:b.hasL n=true
   ·have es:selB k n b=b.wy k n:=if_pos hL
    rw[es]at e
    obtain⟨b1,rfl,rfl⟩:=VB e
    rw[Bd.mt,uH,decide_eq_false_iff_not]at hm
    rw[Bd.mks]at old
    rw[Bd.hasL]at hL
    exact Y7 hm.1 (xf (b:=b1) (by unfold selB;rw[if_pos hL];exact f2) hm.2 old)
   ·have es:selB k n b=.loose k b:=if_neg hL
    rw[es]at e
    cases e
    have s0:=zb9 f2 (by simpa using hL) old
    have s1:stB n free (.loose k c)=false:=by unfold stB at s0 ⊢;rw[Bd.mks];exact s0
    rw[VC s1]
    show(if k=k then !c.mt k else yx k c)=true
    rw[if_pos rfl,ExB.mt kT f2 hm]
    rfl
  ·exact Y7 (fun e=>kT (e ▸ fj)) (xf f2 hm old)
 |.iff x c1 c2,b,h,hm,old=>by
  have hL:b.hasL n=true:=by
   rw[ExB]at h
   obtain⟨_,_,e,_⟩:=h
   unfold selB at e
   split at e
   ·rename_i hl;exact hl
   ·cases e
  have es:selB k n b=b.wy k n:=if_pos hL
  rw[es]at h
  have sy:=vM h hL k0 kf
  rw[ExB]at h
  obtain⟨e1,e2,e,f1,f2⟩:=h
  obtain⟨b1,b2,rfl,rfl,rfl⟩:=zbv hL e
  rw[Bd.mt,uH]at hm
  rw[Bd.mks]at old
  rw[Bd.pd,if_neg (by rw[sy];decide),uQ]
  exact⟨xf f1 hm.1 fun q hq=>old q (uk _ hq),xf f2 hm.2 fun q hq=>old q (uh _ hq)⟩
 |.cs x as,b,h,hm,old=>by
  have hL:b.hasL n=true:=by
   rw[ExB]at h
   obtain⟨_,e,_⟩:=h
   unfold selB at e
   split at e
   ·rename_i hl;exact hl
   ·cases e
  have es:selB k n b=b.wy k n:=if_pos hL
  rw[es]at h
  have sy:=vM h hL k0 kf
  rw[ExB]at h
  obtain⟨b0,e,f2⟩:=h
  obtain⟨as0,rfl,rfl⟩:=zb8 hL e
  rw[Bd.mt]at hm
  rw[Bd.mks]at old
  rw[Bd.pd,if_neg (by rw[sy];decide)]
  exact Y8 f2 hm old
theorem Y8:∀{c as:Arms},ExA T (as.wy k n) c->as.mt k=false->(∀q∈as.mks,q.2=""\/q.2∉free)->c.pd k n free=true
 |.nil,as,h,hm,old=>by rw[Arms.pd]
 |.cons t ns m k' c r,as,h,hm,old=>by
  rw[ExA]at h
  obtain⟨kk,b0,r0,e,fk,f1,f2⟩:=h
  obtain⟨b1,r1,rfl,rfl,rfl⟩:=Qi e
  rw[Arms.mt,uH]at hm
  rw[Arms.mks]at old
  rw[Arms.pd,uQ]
  exact⟨xf f1 hm.1 fun q hq=>old q (uk _ hq),Y8 f2 hm.2 fun q hq=>old q (uh _ hq)⟩
end
end
mutual
def Bd.lo:Bd->List Str
 |.give _=>[]
 |.lt _ _ b=>b.lo
 |.hold _ _ b=>b.lo
 |.drop _ b=>b.lo
 |.loose y b=>y::b.lo
 |.iff _ b c=>b.lo++c.lo
 |.cs _ as=>as.lo
def Arms.lo:Arms->List Str
 |.nil=>[]
 |.cons _ _ _ _ b r=>b.lo++r.lo
end
mutual
theorem ExB.lo{T:Str->Prop}:∀{b c:Bd},ExB T b c->∀y∈c.lo,y∈b.lo\/T y
 |b,.give x,h,y,hy=>by rw[Bd.lo]at hy;cases hy
 |b,.lt x d c,h,y,hy=>by
  rw[ExB]at h
  obtain⟨d0,b0,rfl,f1,f2⟩:=h
  rw[Bd.lo]at hy ⊢
  exact ExB.lo f2 y hy
 |b,.hold x z c,h,y,hy=>by
  rw[ExB]at h
  obtain⟨b0,rfl,f2⟩:=h
  rw[Bd.lo]at hy ⊢
  exact ExB.lo f2 y hy
 |b,.drop x c,h,y,hy=>by
  rw[ExB]at h
  obtain⟨b0,rfl,f2⟩:=h
  rw[Bd.lo]at hy ⊢
  exact ExB.lo f2 y hy
 |b,.loose j c,h,y,hy=>by
  rw[ExB]at h
  rw[Bd.lo]at hy
  rcases h with⟨b0,rfl,f2⟩|⟨fj,f2⟩
  ·rw[Bd.lo]
   rcases um.mp hy with rfl|hy
   ·exact .inl (.head _)
   ·exact(ExB.lo f2 y hy).imp (fun z=>.tail _ z) fun z=>z
  ·rcases um.mp hy with rfl|hy
   ·exact .inr fj
   ·exact ExB.lo f2 y hy
 |b,.iff x c c2,h,y,hy=>by
  rw[ExB]at h
  obtain⟨b0,b1,rfl,f1,f2⟩:=h
  rw[Bd.lo]at hy ⊢
  rcases uv.mp hy with hy|hy
  ·exact(ExB.lo f1 y hy).imp (uk _) fun z=>z
  ·exact(ExB.lo f2 y hy).imp (uh _) fun z=>z
 |b,.cs x as,h,y,hy=>by
  rw[ExB]at h
  obtain⟨b0,rfl,f2⟩:=h
  rw[Bd.lo]at hy ⊢
  exact ExA.lo f2 y hy
theorem ExA.lo{T:Str->Prop}:∀{b c:Arms},ExA T b c->∀y∈c.lo,y∈b.lo\/T y
 |b,.nil,h,y,hy=>by rw[Arms.lo]at hy;cases hy
 |b,.cons t ns m k' c r,h,y,hy=>by
  rw[ExA]at h
  obtain⟨k0,b0,r0,rfl,fk,f1,f2⟩:=h
  rw[Arms.lo]at hy ⊢
  rcases uv.mp hy with hy|hy
  ·exact(ExB.lo f1 y hy).imp (uk _) fun z=>z
  ·exact(ExA.lo f2 y hy).imp (uh _) fun z=>z
end
theorem VD{k:Str}{d:Dd}(h:∀q∈mkD d,q.2≠k):mtD k d=false:=by
 cases d with
 |mk t ns j=>unfold mtD;exact decide_eq_false (h (ns.length,j) (.head _))
 |_=>rfl
mutual
theorem wM{k:Str}:∀{b:Bd},(∀q∈b.mks,q.2≠k)->(∀y∈b.lo,y≠k)->b.mt k=false
 |.give _,h,g=>by rw[Bd.mt]
 |.lt _ d b,h,g=>by
  rw[Bd.mks]at h
  rw[Bd.lo]at g
  rw[Bd.mt,uH]
  exact⟨VD fun q hq=>h q (uk _ hq),wM (fun q hq=>h q (uh _ hq)) g⟩
 |.hold _ _ b,h,g=>by rw[Bd.mks]at h;rw[Bd.lo]at g;rw[Bd.mt];exact wM h g
 |.drop _ b,h,g=>by rw[Bd.mks]at h;rw[Bd.lo]at g;rw[Bd.mt];exact wM h g
 |.loose y b,h,g=>by
  rw[Bd.mks]at h
  rw[Bd.lo]at g
  rw[Bd.mt,uH]
  exact⟨decide_eq_false (g y (.head _)),wM h fun z hz=>g z (.tail _ hz)⟩
 |.iff _ b c,h,g=>by
  rw[Bd.mks]at h
  rw[Bd.lo]at g
  rw[Bd.mt,uH]
  exact⟨wM (fun q hq=>h q (uk _ hq)) fun z hz=>g z (uk _ hz),wM (fun q hq=>h q (uh _ hq)) fun z hz=>g z (uh _ hz)⟩
 |.cs _ as,h,g=>by rw[Bd.mks]at h;rw[Bd.lo]at g;rw[Bd.mt];exact VE h g
theorem VE{k:Str}:∀{as:Arms},(∀q∈as.mks,q.2≠k)->(∀y∈as.lo,y≠k)->as.mt k=false
 |.nil,h,g=>by rw[Arms.mt]
 |.cons _ _ _ _ b r,h,g=>by
  rw[Arms.mks]at h
  rw[Arms.lo]at g
  rw[Arms.mt,uH]
  exact⟨wM (fun q hq=>h q (uk _ hq)) fun z hz=>g z (uk _ hz),VE (fun q hq=>h q (uh _ hq)) fun z hz=>g z (uh _ hz)⟩
end
def OldL(n:Nat)(l:List Str):Prop:=∀y∈l,∃j,j<=n/\y=tokS j
theorem OldL.mono{n n':Nat}{l:List Str}(h:OldL n l)(e:n<=n'):OldL n' l:=fun y hy=>let ⟨j,a,b⟩:=h y hy;⟨j,by lia,b⟩
def jd(a:ArmR):Prop:=a.k≠""->a.b.pd a.k a.ns.length (wiB a.b++[a.k])=true
structure Gc(b:Bd)(n:Nat)(r:Bd×Nat):Prop where
 ex:ExB (Tk n r.2) b r.1
 pd:∀a∈r.1.ar,jd a
structure GcA(as:Arms)(c:Nat)(r:Arms×Nat):Prop where
 ex:ExA (Tk c r.2) as r.1
 pd:∀a∈r.1.l,jd a
 pd':∀a∈r.1.ar,jd a
theorem ExA.mono{T V:Str->Prop}(h:∀k,T k->V k){a b:Arms}(g:ExA T a b):ExA V a b:=ExA.tr h h g (ExA.rfl b)
section
variable{nx:Nat->Nat}(hnx:∀n,n < nx n)
include hnx
theorem VF{f:Nat}(ih:∀(b:Bd)(n:Nat),b.mu<=f->(∀k∈b.atk,k="")->Old n b.mks->OldL n b.lo->Gc b n (AB nx f b n)):∀(as:Arms)(c m:Nat),(as.tk nx c).2<=m->(∀b∈(as.tk nx c).1.bs,b.mu<=f)->(∀k∈as.atk,k="")->Old c as.mks->OldL c as.lo->GcA as c (resA (AB nx f) (as.tk nx c).1 m)
 |.nil,c,m,_,_,_,_,_=>⟨by show ExA _ .nil .nil;rw[ExA],fun a h=>(by cases h),fun a h=>(by cases h)⟩
 |.cons t ns m' k b r,c,m,hm,hmu,ha,ho,hlo=>by
  have ek:k="":=ha k (by rw[Arms.atk];exact .head _)
  have hab:∀z∈b.atk,z="":=fun z hz=>ha z (by rw[Arms.atk];exact .tail _ (uk _ hz))
  have har:∀z∈r.atk,z="":=fun z hz=>ha z (by rw[Arms.atk];exact .tail _ (uh _ hz))
  have hob:Old c b.mks:=fun q hq=>ho q (by rw[Arms.mks];exact uk _ hq)
  have hor:Old c r.mks:=fun q hq=>ho q (by rw[Arms.mks];exact uh _ hq)
  have hlb:OldL c b.lo:=fun y hy=>hlo y (by rw[Arms.lo];exact uk _ hy)
  have hlr:OldL c r.lo:=fun y hy=>hlo y (by rw[Arms.lo];exact uh _ hy)
  by_cases hk:armK m' ns b=true
  ·have et:(Arms.cons t ns m' k b r).tk nx c=(.cons t ns m' (tokS (nx c)) (b.wy (tokS (nx c)) ns.length) (r.tk nx (nx c)).1,(r.tk nx (nx c)).2):=by rw[Arms.tk,if_pos hk]
   rw[et]at hm hmu ⊢
   have hN:=hnx c
   have hN2:=tk_n hnx r (nx c)
   have hm:(r.tk nx (nx c)).2<=m:=hm
   have hb:(b.wy (tokS (nx c)) ns.length).mu<=f:=hmu _ (by show _∈_::_;exact .head _)
   have w1:=(Bd.wy_st (k:=tokS (nx c)) (n:=ns.length) b).1
   have wx:ExB (·=tokS (nx c)) b (b.wy (tokS (nx c)) ns.length):=ExB.wy b
   have ho1:Old m (b.wy (tokS (nx c)) ns.length).mks:=fun q hq=>by
    obtain⟨p,hp,e1,e2⟩:=All2.memR wx.mk hq
    rcases e2 with e2|⟨_,e2⟩
    ·rw[e2];exact(hob p hp).imp id fun⟨j,a,b⟩=>⟨j,by lia,b⟩
    ·exact .inr ⟨nx c,by lia,e2⟩
   have hl1:OldL m (b.wy (tokS (nx c)) ns.length).lo:=fun y hy=>by
    rcases wx.lo y hy with z|z
    ·obtain⟨j,a,e⟩:=hlb y z;exact⟨j,by lia,e⟩
    ·exact⟨nx c,by lia,z⟩
   have ha1:∀k'∈(b.wy (tokS (nx c)) ns.length).atk,k'="":=by rw[w1];exact hab
   have F1:=ABF hnx f (b.wy (tokS (nx c)) ns.length) m hb ha1 ho1
   have G1:=ih (b.wy (tokS (nx c)) ns.length) m hb ha1 ho1 hl1
   have l1:=F1.le
   have G2:=VF ih r (nx c) (AB nx f (b.wy (tokS (nx c)) ns.length) m).2 (by lia) (fun b hb=>hmu b (.tail _ hb)) har (hor.mono (by lia)) (hlr.mono (by lia))
   have er:resA (AB nx f) (.cons t ns m' (tokS (nx c)) (b.wy (tokS (nx c)) ns.length) (r.tk nx (nx c)).1) m=(.cons t ns m' (tokS (nx c)) (AB nx f (b.wy (tokS (nx c)) ns.length) m).1 (resA (AB nx f) (r.tk nx (nx c)).1 (AB nx f (b.wy (tokS (nx c)) ns.length) m).2).1,(resA (AB nx f) (r.tk nx (nx c)).1 (AB nx f (b.wy (tokS (nx c)) ns.length) m).2).2):=rfl
   have l2:(AB nx f (b.wy (tokS (nx c)) ns.length) m).2<=(resA (AB nx f) (r.tk nx (nx c)).1 (AB nx f (b.wy (tokS (nx c)) ns.length) m).2).2:=xr hnx (AB_n hnx f) _ _
   rw[er]
   generalize resA (AB nx f) (r.tk nx (nx c)).1 (AB nx f (b.wy (tokS (nx c)) ns.length) m).2=R at *
   generalize AB nx f (b.wy (tokS (nx c)) ns.length) m=B at *
   have tP:jd ⟨t,ns,m',tokS (nx c),B.1⟩:=fun _=>by
    have hL:b.hasL ns.length=true:=by
     unfold armK at hk
     rw[uQ,uQ]at hk
     exact hk.2.2
    have nk:∀j,j<=c->tokS j≠tokS (nx c):=fun j hj e=>by have:=xA e;lia
    refine xf (T:=Tk m B.2) (b:=b) (yC _) (fun⟨j,a1,a2,e⟩=>by have:=xA e;lia) (uh _ (.head _)) (by unfold selB;rw[if_pos hL];exact G1.ex) (wM (fun q hq e=>?_) fun y hy e=>?_) fun q hq=>?_
    ·rcases hob q hq with z|⟨j,a,z⟩
     ·exact yC _ (e.symm.trans z)
     ·exact nk j a (z.symm.trans e)
    ·obtain⟨j,a,z⟩:=hlb y hy
     exact nk j a (z.symm.trans e)
    ·rcases hob q hq with z|⟨j,a,z⟩
     ·exact .inl z
     ·refine .inr fun hf=>?_
      rcases uv.mp hf with hf|hf
      ·obtain⟨z3,_⟩:=List.mem_filter.mp hf
       rcases F1.r2 _ z3 with z4|⟨i,i1,i2,i3⟩
       ·exact yC j (z.symm.trans z4)
       ·have:=xA (z.symm.trans i3);lia
      ·exact nk j a (z.symm.trans (uB.mp hf))
   refine⟨?_,?_,?_⟩
   ·show ExA (Tk c R.2) (.cons t ns m' k b r) (.cons t ns m' (tokS (nx c)) B.1 R.1)
    rw[ExA]
    exact⟨k,b,r,rfl,.inr ⟨ek,nx c,hN,by lia,rfl⟩,ExB.tr (fun z e=>⟨nx c,hN,by lia,e⟩) (fun z e=>e.mono (by lia) l2) wx G1.ex,G2.ex.mono fun z e=>e.mono (by lia) (ud _)⟩
   ·intro a haa
    have haa:a∈(Arms.cons t ns m' (tokS (nx c)) B.1 R.1).l:=haa
    rw[Arms.l]at haa
    rcases um.mp haa with rfl|haa
    ·exact tP
    ·exact G2.pd a haa
   ·intro a haa
    have haa:a∈(Arms.cons t ns m' (tokS (nx c)) B.1 R.1).ar:=haa
    rw[Arms.ar]at haa
    exact(uv.mp haa).elim (G1.pd a) (G2.pd' a)
  ·have et:(Arms.cons t ns m' k b r).tk nx c=(.cons t ns m' k b (r.tk nx c).1,(r.tk nx c).2):=by rw[Arms.tk,if_neg hk]
   rw[et]at hm hmu ⊢
   have hN2:=tk_n hnx r c
   have hm:(r.tk nx c).2<=m:=hm
   have hb:b.mu<=f:=hmu _ (by show _∈_::_;exact .head _)
   have G1:=ih b m hb hab (hob.mono (by lia)) (hlb.mono (by lia))
   have l1:=AB_n hnx f b m
   have G2:=VF ih r c (AB nx f b m).2 (by lia) (fun b hb=>hmu b (.tail _ hb)) har hor hlr
   have er:resA (AB nx f) (.cons t ns m' k b (r.tk nx c).1) m=(.cons t ns m' k (AB nx f b m).1 (resA (AB nx f) (r.tk nx c).1 (AB nx f b m).2).1,(resA (AB nx f) (r.tk nx c).1 (AB nx f b m).2).2):=rfl
   have l2:(AB nx f b m).2<=(resA (AB nx f) (r.tk nx c).1 (AB nx f b m).2).2:=xr hnx (AB_n hnx f) _ _
   rw[er]
   generalize resA (AB nx f) (r.tk nx c).1 (AB nx f b m).2=R at *
   generalize AB nx f b m=B at *
   refine⟨?_,?_,?_⟩
   ·show ExA (Tk c R.2) (.cons t ns m' k b r) (.cons t ns m' k B.1 R.1)
    rw[ExA]
    exact⟨k,b,r,rfl,.inl rfl,G1.ex.mono fun z e=>e.mono (by lia) l2,G2.ex⟩
   ·intro a haa
    have haa:a∈(Arms.cons t ns m' k B.1 R.1).l:=haa
    rw[Arms.l]at haa
    rcases um.mp haa with rfl|haa
    ·exact fun z=>absurd ek z
    ·exact G2.pd a haa
   ·intro a haa
    have haa:a∈(Arms.cons t ns m' k B.1 R.1).ar:=haa
    rw[Arms.ar]at haa
    exact(uv.mp haa).elim (G1.pd a) (G2.pd' a)
theorem ABG:∀(f:Nat)(b:Bd)(n:Nat),b.mu<=f->(∀k∈b.atk,k="")->Old n b.mks->OldL n b.lo->Gc b n (AB nx f b n)
 |0,b,n,h,_,_,_=>by have:=b.mu_pos;lia
 |f+1,b,n,h,ha,ho,hl=>by
  have ih:=ABG f
  cases b with
  |give x=>exact⟨ExB.rfl _,fun a h=>(by cases h)⟩
  |lt x d b =>
   rw[Bd.mu]at h
   rw[Bd.atk]at ha
   rw[Bd.lo]at hl
   have G:=ih b n (by lia) ha (fun q hq=>ho q (by rw[Bd.mks];exact uh _ hq)) hl
   have e:AB nx (f+1) (.lt x d b) n=(.lt x d (AB nx f b n).1,(AB nx f b n).2):=rfl
   rw[e]
   generalize AB nx f b n=B at *
   refine⟨?_,?_⟩
   ·show ExB _ (.lt x d b) (.lt x d B.1)
    rw[ExB];exact⟨d,b,rfl,.inl rfl,G.ex⟩
   ·show ∀a∈(Bd.lt x d B.1).ar,_
    rw[Bd.ar];exact G.pd
  |hold x y b =>
   rw[Bd.mu]at h
   rw[Bd.atk]at ha
   rw[Bd.mks]at ho
   rw[Bd.lo]at hl
   have G:=ih b n (by lia) ha ho hl
   have e:AB nx (f+1) (.hold x y b) n=(.hold x y (AB nx f b n).1,(AB nx f b n).2):=rfl
   rw[e]
   generalize AB nx f b n=B at *
   refine⟨?_,?_⟩
   ·show ExB _ (.hold x y b) (.hold x y B.1)
    rw[ExB];exact⟨b,rfl,G.ex⟩
   ·show ∀a∈(Bd.hold x y B.1).ar,_
    rw[Bd.ar];exact G.pd
  |drop x b =>
   rw[Bd.mu]at h
   rw[Bd.atk]at ha
   rw[Bd.mks]at ho
   rw[Bd.lo]at hl
   have G:=ih b n (by lia) ha ho hl
   have e:AB nx (f+1) (.drop x b) n=(.drop x (AB nx f b n).1,(AB nx f b n).2):=rfl
   rw[e]
   generalize AB nx f b n=B at *
   refine⟨?_,?_⟩
   ·show ExB _ (.drop x b) (.drop x B.1)
    rw[ExB];exact⟨b,rfl,G.ex⟩
   ·show ∀a∈(Bd.drop x B.1).ar,_
    rw[Bd.ar];exact G.pd
  |loose x b =>
   rw[Bd.mu]at h
   rw[Bd.atk]at ha
   rw[Bd.mks]at ho
   rw[Bd.lo]at hl
   have G:=ih b n (by lia) ha ho fun y hy=>hl y (.tail _ hy)
   have e:AB nx (f+1) (.loose x b) n=(.loose x (AB nx f b n).1,(AB nx f b n).2):=rfl
   rw[e]
   generalize AB nx f b n=B at *
   refine⟨?_,?_⟩
   ·show ExB _ (.loose x b) (.loose x B.1)
    rw[ExB];exact .inl ⟨b,rfl,G.ex⟩
   ·show ∀a∈(Bd.loose x B.1).ar,_
    rw[Bd.ar];exact G.pd
  |iff x b c =>
   rw[Bd.mu]at h
   rw[Bd.atk]at ha
   rw[Bd.mks]at ho
   rw[Bd.lo]at hl
   have l1:=AB_n hnx f b n
   have l2:=AB_n hnx f c (AB nx f b n).2
   have F:=ih b n (by lia) (fun k hk=>ha k (uk _ hk)) (fun q hq=>ho q (uk _ hq)) fun y hy=>hl y (uk _ hy)
   have G:=ih c (AB nx f b n).2 (by lia) (fun k hk=>ha k (uh _ hk)) ((show Old n c.mks from fun q hq=>ho q (uh _ hq)).mono l1) ((show OldL n c.lo from fun y hy=>hl y (uh _ hy)).mono l1)
   have e:AB nx (f+1) (.iff x b c) n=(.iff x (AB nx f b n).1 (AB nx f c (AB nx f b n).2).1,(AB nx f c (AB nx f b n).2).2):=rfl
   rw[e]
   generalize AB nx f c (AB nx f b n).2=C at *
   generalize AB nx f b n=B at *
   refine⟨?_,?_⟩
   ·show ExB (Tk n C.2) (.iff x b c) (.iff x B.1 C.1)
    rw[ExB]
    exact⟨b,c,rfl,F.ex.mono fun z e=>e.mono (ud _) l2,G.ex.mono fun z e=>e.mono l1 (ud _)⟩
   ·show ∀a∈(Bd.iff x B.1 C.1).ar,_
    rw[Bd.ar]
    intro a haa
    exact(uv.mp haa).elim (F.pd a) (G.pd a)
  |cs x as =>
   have hmu:∀b∈(as.tk nx n).1.bs,b.mu<=f:=fun b hb=>by
    have:b.mu < (Bd.cs x as).mu:=vy (nx:=nx) (n:=n) (b:=.cs x as) hb
    lia
   rw[Bd.atk]at ha
   rw[Bd.mks]at ho
   rw[Bd.lo]at hl
   have G:=VF hnx ih as n (as.tk nx n).2 (ud _) hmu ha ho hl
   have e:AB nx (f+1) (.cs x as) n=(.cs x (resA (AB nx f) (as.tk nx n).1 (as.tk nx n).2).1,(resA (AB nx f) (as.tk nx n).1 (as.tk nx n).2).2):=rfl
   rw[e]
   generalize resA (AB nx f) (as.tk nx n).1 (as.tk nx n).2=R at *
   refine⟨?_,?_⟩
   ·show ExB _ (.cs x as) (.cs x R.1)
    rw[ExB];exact⟨as,rfl,G.ex⟩
   ·show ∀a∈(Bd.cs x R.1).ar,_
    rw[Bd.ar]
    intro a haa
    exact(uv.mp haa).elim (G.pd a) (G.pd' a)
end
end GN
namespace L2
open PySem PySem.Spec PyProof.Rows
section
variable{X:Cx}{pins:List (Addr×Obj)}{σ:L2.St}{H:Hp}{s:Shared}
end
section
variable{X:Cx}{pins:List (Addr×Obj)}{σ:St}{H:Hp}{s:Shared}{d:Addr}{kvs:List (Key×V)}{tg:Expr}
end
section
variable{σ:St}{H:Hp}{g:TG}{tt:TT}{te:TE}{Q:VK}
end
theorem ZG(l:Addr)(its:Array Value)(n:Nat)(x:Value)(e:Value->Bool)(j:Nat)(hj:j < its.size)(hit:e its[j]=true)(hz:its.size<=sizeLine):∀(k i:Nat),i+k=j->(∀m (hm:m < its.size),m < j->e its[m]=false)->Meets (Builtin.«list.remove.loop» ⟨[.ref l,x,rawInt i],[]⟩)
   (fun A R s=>s.heap.get? l=some (seqObj "list" its n)/\(∀y,y∈its->SeqAt.EqAt A.in1 s y x (e y))/\R (.ok (.ret .none)) { s with heap:=s.heap.update l (Obj.mapSeq fun xs=>xs.eraseIdxIfInBounds j) })
 |0,i,hk,hno=>by
  intro prog w A R s h
  obtain⟨hp,g,d,tk,os⟩:=s
  obtain⟨hl,he,h⟩:=h
  obtain rfl:i=j:=by lia
  wp_walk using wpAny_loadPart' hl
  rw[show its[((i:Nat):Int).toNat]?=some its[i] by simp[hj]]
  refine wpAny_bind (he _ (Array.getElem_mem hj) prog w _ _ ?_)
  rw[hit]
  have z2:=uD (MeetsSeq.size_erased its i) (Nat.le_succ_of_le hz)
  wp_walk using(wpAny_updateSeq hl rfl (hz:=hz) (_hz':=z2)),wpAny_loadPart' hl
  simpa using h
 |k+1,i,hk,hno=>by
  intro prog w A R s h
  obtain⟨hp,g,d,tk,os⟩:=s
  obtain⟨hl,he,h⟩:=h
  have hlt:i < its.size:=by lia
  wp_walk using wpAny_loadPart' hl
  rw[show its[((i:Nat):Int).toNat]?=some its[i] by simp[hlt]]
  refine wpAny_bind (he _ (Array.getElem_mem hlt) prog w _ _ ?_)
  rw[hno i hlt (by lia)]
  wp_walk
  rw[show((i:Int)+1)=((i+1:Nat):Int) by lia]
  refine⟨plainId_quiet MeetsSeq.plain_remove_loop _,codeAny_builtin MeetsSeq.entry_remove_loop ?_⟩
  rw[Around.under_plainId MeetsSeq.plain_remove_loop _]
  exact ZG l its n x e j hj hit hz k (i+1) (by lia) hno prog w A R _ ⟨hl,he,h⟩
theorem Qj(l:Addr)(its:Array Value)(n:Nat)(x:Value)(e:Value->Bool)(j:Nat)(hj:j < its.size)(hit:e its[j]=true)(hz:its.size<=sizeLine)(hno:∀m (hm:m < its.size),m < j->e its[m]=false):Meets (Builtin.«list.remove» ⟨[.ref l,x],[]⟩)
   (fun A R s=>s.heap.get? l=some (seqObj "list" its n)/\(∀y,y∈its->SeqAt.EqAt A.in1 s y x (e y))/\R (.ok (.ret .none)) { s with heap:=s.heap.update l (Obj.mapSeq fun xs=>xs.eraseIdxIfInBounds j) }):=by
 intro prog w A R s h
 obtain⟨hp,g,d,tk,os⟩:=s
 obtain⟨hl,he,h⟩:=h
 wp_walk using wpAny_loadPart' hl
 refine⟨plainId_quiet MeetsSeq.plain_remove_loop _,codeAny_builtin MeetsSeq.entry_remove_loop ?_⟩
 rw[Around.under_plainId MeetsSeq.plain_remove_loop _]
 exact ZG l its n x e j hj hit hz j 0 (by lia) hno prog w A R _ ⟨hl,he,h⟩
theorem erm{α β:Type}(g:α->β):∀(l:List α)(i:Nat),(l.eraseIdx i).map g=(l.map g).eraseIdx i
 |[],_=>rfl
 |_::_,0=>rfl
 |x::l,i+1=>by
  show g x::(l.eraseIdx i).map g=g x::(l.map g).eraseIdx i
  rw[erm g l i]
section
variable{X:Cx}
def wG(k:Str):Value->Bool
 |.str a _=>a == k
 |_=>false
def Q6:V->List V->Hp->VK->Prop:=fun x vs H Q=>∃(l:Addr)(ns:List Str)(k:Str),x=.ref l/\vs=[.str k]/\H l=some (.lst (ns.map V.str))/\k∈ns/\∀j,j < ns.length->Q .non (upd H l (.lst ((ns.eraseIdx j).map V.str)))
theorem Qk:MtM X "list.remove" Q6:=by
 intro pins s σ H x vs v us Q I rx rv h
 obtain⟨l,ns,k,rfl,rfl,hH,hk,q⟩:=h
 cases rx
 obtain⟨u,rfl,ru⟩:=rv.one
 obtain⟨t0,rfl⟩:=ru
 obtain⟨z,its,n,r,hl,e⟩:=I.lstM hH
 have hlr:=r.length
 rw[ua]at hlr
 have at_:∀(i:Nat)(h:i < its.length),∃(a:Str)(t:Tok),its[i]=.str a t/\ns[i]?=some a:=fun i hi=>by
  have hi':i < ns.length:=by lia
  obtain⟨u,o1,p1⟩:=r.get (i:=i) (x:=.str ns[i]) (by rw[ug,uq hi'];rfl)
  obtain⟨t,rfl⟩:=p1
  exact⟨ns[i],t,(uf.mp o1).2,uq hi'⟩
 have eqs:∀y,y∈its.toArray->SeqAt.EqAt X.A.in1 s y (.str k t0) (wG k y):=fun y hy=>by
  obtain⟨i,hi,e⟩:=List.mem_iff_getElem.mp (by simpa using hy)
  obtain⟨a,t,e1,e2⟩:=at_ i hi
  rw[<- e,e1]
  exact SeqAt.EqAt.str_str a t k t0
 obtain⟨i0,hi0⟩:=List.getElem?_of_mem hk
 have h0:i0 < its.length:=by
  have:=(uf.mp hi0).1
  lia
 have hit0:wG k its[i0]=true:=by
  obtain⟨a,t,e1,e2⟩:=at_ i0 h0
  rw[hi0]at e2
  cases e2
  rw[e1]
  exact beq_self_eq_true k
 have hj:its.findIdx (wG k) < its.length:=List.findIdx_lt_length_of_exists ⟨_,List.getElem_mem h0,hit0⟩
 generalize hjj:its.findIdx (wG k)=j at hj
 have hit:wG k its[j]=true:=by
  subst hjj
  exact List.findIdx_getElem
 have hno:∀m (hm:m < its.toArray.size),m < j->wG k its.toArray[m]=false:=fun m hm hmj=>by
  subst hjj
  have:=List.not_of_lt_findIdx hmj
  simpa using this
 have hjt:j < ns.length:=by lia
 have q:=q j hjt
 rw[erm]at q
 refine call_meets F.slot_list_remove ⟨_,e,rfl⟩ F.entry_list_remove (F.args_list_remove_2 _ _) (Qj l its.toArray n (.str k t0) _ j (by simpa using hj) (by simpa using hit) (by rw[ut,<- hlr];rw[ua]at z;lia) hno) ⟨e,eqs,?_⟩
 refine⟨.non,_,I.lset (its':=its.eraseIdx j) hH e ?_ (r.eraseIdx j) ?_,rfl,q⟩
 ·show its.toArray.eraseIdxIfInBounds j=(its.eraseIdx j).toArray
  rw[UK]
 ·have:=wC (ns.map V.str) j
  lia
theorem Ql:jMt X "list.remove" Q6:=⟨Qk⟩
end
end L2
namespace GN
open PySem L2 K11
structure Kw(st wl:Addr)(H H':Hp):Prop where
 k:∀b u,b≠st->b≠wl->H b=some u->H' b=some u
 s:∀a k,H st=some (.lst [.ref a,.int k])->∃k',H' st=some (.lst [.ref a,.int k'])
 w:wl≠st->∀z b tl dl xs,H wl=some (.lst (z::b::.ref tl::.ref dl::xs))->∃xs',H' wl=some (.lst (z::b::.ref tl::.ref dl::xs'))
def WlX(H:Hp)(wl:Addr)(o:Wg)(a r:Nat):Prop:=∃(tl dl:Addr)(ts us:List Addr),H wl=some (.lst [.str o.z,.bl o.b,.ref tl,.ref dl,.int (a:Nat),.int (r:Nat)])/\H tl=some (.lst (ts.map V.ref))/\TsAt tgR H o.T ts/\H dl=some (.lst (us.map V.ref))/\TsAt dfR H o.D us
section
variable{K:uc}{st wl p:Addr}{B B':Nat}{H H' H1 H2:Hp}{o:Wg}{a r:Nat}{x:HO}
theorem WlX.gen(h:WlX H wl o a r):WlAt H wl o:=let ⟨tl,dl,ts,us,h1,h2⟩:=h;⟨tl,dl,ts,us,_,h1,h2⟩
theorem WlX.ex(h:WlX H wl o a r):∃xs,H wl=some (.lst (.str o.z::xs)):=let ⟨_,_,_,_,h1,_⟩:=h;⟨_,h1⟩
theorem WlX.ne(h:WlX H wl o a r)(S:Sta K H st B):wl≠st:=let ⟨_,_,_,_,h1,_⟩:=h;S.neW h1
theorem WlX.kp(h:WlX H wl o a r)(S:Sta K H st B)(k:Kp st H H'):WlX H' wl o a r:=by
 obtain⟨tl,dl,ts,us,h1,h2,h3,h4,h5⟩:=h
 have t:=k.tups S
 exact⟨tl,dl,ts,us,k.k _ _ (S.neW h1) h1,k.k _ _ (S.neR h2) h2,h3.keep fun _ _ z=>z.tk t,k.k _ _ (S.neR h4) h4,h5.keep fun _ _ z=>z.tk t⟩
theorem WlX.neR{qs:List Addr}(h:WlX H wl o a r)(e:H p=some (.lst (qs.map V.ref))):p≠wl:=fun z=>by
 obtain⟨xs,h1⟩:=h.ex
 rw[z,h1]at e
 cases qs<;>cases e
theorem WlX.neS{qs:List Str}(h:WlX H wl o a r)(e:H p=some (.lst (qs.map V.str))):p≠wl:=fun z=>by
 obtain⟨tl,dl,ts,us,h1,_⟩:=h
 rw[z,h1]at e
 have e:=HO.lst.inj (u9.inj e)
 match qs,e with
 |[],e=>cases e
 |[_],e=>cases e
 |_::_::_,e=>cases e
theorem Kw.trans(a:Kw st wl H H1)(b:Kw st wl H1 H2):Kw st wl H H2:=⟨fun c u n n' h=>b.k c u n n' (a.k c u n n' h),fun x k h=>let ⟨k',h'⟩:=a.s x k h;b.s x k' h',fun n z y tl dl xs h=>let ⟨xs',h'⟩:=a.w n z y tl dl xs h;b.w n z y tl dl xs' h'⟩
theorem Kw.kp(a:Kp st H H1):Kw st wl H H1:=⟨fun c u n _ h=>a.k c u n h,a.s,fun n z y tl dl xs h=>⟨xs,a.k _ _ n h⟩⟩
theorem Kw.of(a:Same H H1):Kw st wl H H1:=.kp (.of a)
theorem Kw.tups(k:Kw st wl H H')(h:Sta K H st B)(w:WlX H wl o a r):Tups H H':=fun p xs q=>k.k p _ (fun e=>by
  obtain⟨_,_,_,h1,_⟩:=h
  rw[e,h1]at q
  cases q) (fun e=>by
  obtain⟨_,h1⟩:=w.ex
  rw[e,h1]at q
  cases q) q
theorem Kw.put(a:Kw st wl H H1)(h:H p=none):Kw st wl H (upd H1 p x):=⟨fun b u n n' q=>by rw[zi (zk q h)];exact a.k b u n n' q,fun y k q=>by
 obtain⟨k',h'⟩:=a.s y k q
 exact⟨k',by rw[zi (zk q h)];exact h'⟩,fun n z y tl dl xs q=>by
 obtain⟨xs',h'⟩:=a.w n z y tl dl xs q
 exact⟨xs',by rw[zi (zk q h)];exact h'⟩⟩
theorem Sta.putS(S0:Sta K H st B)(hp:H p=none)(ks:∀a k,H st=some (.lst [.ref a,.int k])->∃k',H2 st=some (.lst [.ref a,.int k']))(S2:Sta K H2 st B'):Sta K (upd H2 p x) st B':=by
 obtain⟨a,ns,i,h1,h2,h3,_⟩:=S0
 obtain⟨a',ns',i',g1,g2,g3,g4⟩:=S2
 obtain⟨k',h'⟩:=ks a _ h1
 rw[g1]at h'
 have ea:a'=a:=congrArg (fun o=>match o with|some (HO.lst (V.ref x::_))=>x|_=>0) h'
 subst ea
 have g1':upd H2 p x st=some (.lst [.ref a',.int ((i':Nat):Int)]):=by rw[zi (zk h1 hp)];exact g1
 have key:a'≠p->Sta K (upd H2 p x) st B':=fun n=>by
  refine⟨a',ns',i',g1',g2,?_,g4⟩
  rcases g3 with(g|⟨o,g⟩)|g
  ·exact .inl (.inl (by rw[zi n];exact g))
  ·exact .inl (.inr ⟨o,by rw[zi n];exact g⟩)
  ·exact .inr g
 rcases h3 with(h|⟨_,h⟩)|h
 ·exact key (zk h hp)
 ·exact key (zk h hp)
 ·exact⟨a',ns,i',g1',fun _ _=>.inr h,.inr h,g4⟩
theorem Sta.putW{z:Str}{xs:List V}(S2:Sta K H st B)(hp:H p=some (.lst (.str z::xs))):Sta K (upd H p x) st B:=by
 have n:=S2.neW hp
 obtain⟨a',ns',i',g1,g2,g3,g4⟩:=S2
 refine⟨a',ns',i',by rw[zi (Ne.symm n)];exact g1,g2,?_,g4⟩
 rcases g3 with(g|⟨o,g⟩)|g
 ·refine .inl (.inl ?_)
  rw[zi fun e=>?_]
  ·exact g
  ·rw[e,hp]at g
   cases ns' with
   |nil=>cases g
   |cons a b=>cases g
 ·refine .inl (.inr ⟨o,?_⟩)
  rw[zi fun e=>?_]
  ·exact g
  ·rw[e,hp]at g
   cases g
 ·exact .inr g
theorem WlX.put(h:WlX H wl o a r)(S:Sta K H st B){a':Nat}:∃tl dl,H wl=some (.lst [.str o.z,.bl o.b,.ref tl,.ref dl,.int (a:Nat),.int (r:Nat)])/\WlX (upd H wl (.lst [.str o.z,.bl o.b,.ref tl,.ref dl,.int (a':Nat),.int (r:Nat)])) wl o a' r/\Sta K (upd H wl (.lst [.str o.z,.bl o.b,.ref tl,.ref dl,.int (a':Nat),.int (r:Nat)])) st B/\Kw st wl H (upd H wl (.lst [.str o.z,.bl o.b,.ref tl,.ref dl,.int (a':Nat),.int (r:Nat)])):=by
 obtain⟨tl,dl,ts,us,h1,h2,h3,h4,h5⟩:=id h
 have nt:=h.neR h2
 have nd:=h.neR h4
 have tp:Tups H (upd H wl (.lst [.str o.z,.bl o.b,.ref tl,.ref dl,.int (a':Nat),.int (r:Nat)])):=fun p xs q=>by rw[zi fun e=>by rw[e,h1]at q;cases q];exact q
 have n:=S.neW h1
 exact⟨tl,dl,h1,⟨tl,dl,ts,us,zf,by rw[zi nt];exact h2,h3.keep fun _ _ z=>z.tk tp,by rw[zi nd];exact h4,h5.keep fun _ _ z=>z.tk tp⟩,S.putW h1,⟨fun b u _ nb q=>by rw[zi nb];exact q,fun y k q=>⟨k,by rw[zi (Ne.symm n)];exact q⟩,fun _ z y tl' dl' xs q=>by
  rw[h1]at q
  cases q
  exact⟨_,zf⟩⟩⟩
theorem WlX.putN{a0 r0:Nat}{ys:List V}(w0:WlX H wl o a0 r0)(S0:Sta K H st B)(k:Kw st wl H H2)(hp:H p=none)(e:H2 p=some (.lst ys))(w2:WlX H2 wl o a r):WlX (upd H2 p x) wl o a r:=by
 have n:=w0.ne S0
 obtain⟨tl,dl,_,_,h1,h2,_,h4,_⟩:=w0
 obtain⟨xs',k1⟩:=k.w n _ _ _ _ _ h1
 obtain⟨tl',dl',ts,us,g1,g2,g3,g4,g5⟩:=w2
 rw[g1]at k1
 cases k1
 have tp:Tups H2 (upd H2 p x):=fun q xs z=>by rw[zi fun y=>by rw[y,e]at z;cases z];exact z
 exact⟨tl,dl,ts,us,by rw[zi (zk h1 hp)];exact g1,by rw[zi (zk h2 hp)];exact g2,g3.keep fun _ _ z=>z.tk tp,by rw[zi (zk h4 hp)];exact g4,g5.keep fun _ _ z=>z.tk tp⟩
end
structure RG(b:Bd)(d s c:Nat):Prop where
 a:∀k∈b.atk,k=""
 m:∀q∈b.mks,q.2=""
 dp:b.dp<=d
 sz:b.sz<=s
 cd:b.cd<=c
 bn:b.binds.length<=10*b.sz
 l:b.lo=[]
section
variable{b b':Bd}{d s c d' s' c':Nat}{x y:Str}{dd:Dd}{ow:List (Str×List Bool)}
theorem RG.mono(h:RG b d s c)(h1:d<=d')(h2:s<=s')(h3:c<=c'):RG b d' s' c':=⟨h.a,h.m,uD h.dp h1,uD h.sz h2,uD h.cd h3,h.bn,h.l⟩
theorem RG.give:RG (.give x) 1 1 c:=⟨fun k h=>(by rw[Bd.atk]at h;cases h),fun k h=>(by rw[Bd.mks]at h;cases h),by rw[Bd.dp];lia,by rw[Bd.sz];lia,by rw[Bd.cd];lia,by rw[Bd.binds];exact uN _,by rw[Bd.lo]⟩
theorem RG.lt(h:RG b d s c)(hd:LnD ow dd):RG (.lt x dd b) (d+1) (s+1) c:=by
 have h1:=h.dp;have h2:=h.sz;have h3:=h.cd;have h4:=h.bn
 refine⟨by rw[Bd.atk];exact h.a,fun q hq=>?_,by rw[Bd.dp];lia,by rw[Bd.sz];lia,by rw[Bd.cd];exact h3,by rw[Bd.binds,Bd.sz,uo];lia,by rw[Bd.lo];exact h.l⟩
 rw[Bd.mks]at hq
 exact(uv.mp hq).elim (hd.2 q) (h.m q)
theorem RG.hold(h:RG b d s c):RG (.hold x y b) (d+1) (s+1) c:=by
 have h1:=h.dp;have h2:=h.sz;have h3:=h.cd;have h4:=h.bn
 exact⟨by rw[Bd.atk];exact h.a,by rw[Bd.mks];exact h.m,by rw[Bd.dp];lia,by rw[Bd.sz];lia,by rw[Bd.cd];exact h3,by rw[Bd.binds,Bd.sz,uo];lia,by rw[Bd.lo];exact h.l⟩
theorem RG.drop(h:RG b d s c):RG (.drop x b) (d+1) (s+1) c:=by
 have h1:=h.dp;have h2:=h.sz;have h3:=h.cd;have h4:=h.bn
 exact⟨by rw[Bd.atk];exact h.a,by rw[Bd.mks];exact h.m,by rw[Bd.dp];lia,by rw[Bd.sz];lia,by rw[Bd.cd];exact h3,by rw[Bd.binds,Bd.sz];lia,by rw[Bd.lo];exact h.l⟩
theorem RG.iff(h:RG b d s c)(g:RG b' d s' c):RG (.iff x b b') (d+1) (s+s'+1) c:=by
 have h1:=h.dp;have h2:=h.sz;have h3:=h.cd;have h4:=h.bn
 have g1:=g.dp;have g2:=g.sz;have g3:=g.cd;have g4:=g.bn
 refine⟨fun k hk=>?_,fun q hq=>?_,by rw[Bd.dp];lia,by rw[Bd.sz];lia,by rw[Bd.cd];lia,by rw[Bd.binds,Bd.sz,ub];lia,by rw[Bd.lo,h.l,g.l];rfl⟩
 ·rw[Bd.atk]at hk
  exact(uv.mp hk).elim (h.a k) (g.a k)
 ·rw[Bd.mks]at hq
  exact(uv.mp hq).elim (h.m q) (g.m q)
end
def Arms.ofL:List ArmR->Arms
 |[]=>.nil
 |a::l=>.cons a.t a.ns a.m a.k a.b (Arms.ofL l)
structure RA(a:ArmR)(d s c:Nat):Prop where
 b:RG a.b d s c
 k:a.k=""
 n:a.ns.length<=9
structure RAs(as:Arms)(d s c:Nat):Prop where
 a:∀k∈as.atk,k=""
 m:∀q∈as.mks,q.2=""
 dp:as.dp<=d
 sz:as.sz<=s
 cd:as.cd<=c
 bn:as.binds.length<=10*as.sz
 l:as.lo=[]
theorem Y9{d s c:Nat}:∀{l:List ArmR},(∀a∈l,RA a d s c)->RAs (Arms.ofL l) d (l.length*(s+1)) c
 |[],_=>⟨fun k h=>(by cases h),fun k h=>(by cases h),by show Arms.nil.dp<=d;rw[Arms.dp];lia,by show Arms.nil.sz<=_;rw[Arms.sz];lia,by show Arms.nil.cd<=c;rw[Arms.cd];lia,by show Arms.nil.binds.length<=_;rw[Arms.binds];exact uN _,by show Arms.nil.lo=[];rw[Arms.lo]⟩
 |a::l,h=>by
  have ha:=h a (.head _)
  have hl:=Y9 fun b hb=>h b (.tail _ hb)
  have h1:=ha.b.dp;have h2:=ha.b.sz;have h3:=ha.b.cd;have h4:=ha.b.bn
  have g1:=hl.dp;have g2:=hl.sz;have g3:=hl.cd;have g4:=hl.bn
  have n9:=ha.n
  unfold Arms.ofL
  refine⟨fun k hk=>?_,fun q hq=>?_,by rw[Arms.dp];lia,?_,by rw[Arms.cd];lia,?_,by rw[Arms.lo,ha.b.l,hl.l];rfl⟩
  ·rw[Arms.atk]at hk
   rcases um.mp hk with e|hk
   ·rw[e];exact ha.k
   ·exact(uv.mp hk).elim (ha.b.a k) (hl.a k)
  ·rw[Arms.mks]at hq
   exact(uv.mp hq).elim (ha.b.m q) (hl.m q)
  ·rw[Arms.sz,uo,Nat.succ_mul]
   lia
  ·rw[Arms.binds,Arms.sz,ub,ub]
   lia
theorem RG.cs{x:Str}{l:List ArmR}{d s c:Nat}(h:∀a∈l,RA a d s c):RG (.cs x (Arms.ofL l)) (d+1) (l.length*(s+1)+1) (c+1):=by
 have g:=Y9 h
 have g1:=g.dp;have g2:=g.sz;have g3:=g.cd;have g4:=g.bn
 exact⟨by rw[Bd.atk];exact g.a,by rw[Bd.mks];exact g.m,by rw[Bd.dp];lia,by rw[Bd.sz];lia,by rw[Bd.cd];lia,by rw[Bd.binds,Bd.sz];lia,by rw[Bd.lo];exact g.l⟩
theorem ZH:∀{zs:List Str},(∀z∈zs,z.length=1)->(Str.join "" zs).length=zs.length
 |[],_=>rfl
 |[x],h=>h x Uv
 |x::y::r,h=>by
  have ih:=ZH (zs:=y::r) fun z hz=>h z (Up _ hz)
  rw[<- xb,jC,ub,ub,xb,xb,xb,ih,h x Uv]
  show 1+(0+(y::r).length)=(y::r).length+1
  lia
theorem VG{zs:List Str}(h:∀z∈zs,z.length=1):wide "" zs=zs.length:=by
 unfold wide
 have e:∀{l:List Str},(∀z∈l,z.length=1)->(l.map (·.length)).sum=l.length:=by
  intro l
  induction l with
  |nil=>intro _;rfl
  |cons a l ih=>intro h;rw[uu,uW,ih fun z hz=>h z (Up _ hz),h a Uv,uo];lia
 rw[e h]
 rfl
def VH(K:uc):Sp:=fun vs H Q _=>∃(st:Addr)(B:Nat),vs=[.ref st]/\Sta K H st B/\B+10 < LIM/\∀(H':Hp)(r:Addr)(z:Str)(b:Bool),Kp st H H'->Sta K H' st (B+8)->z.length<=6->H' r=some (.lst [.str z,.bl b])->Q (.ref r) H'
section
variable{P:Program}{w:World}{K:uc}{mg:Str->Option Value}{base:Heap}{f:Addr}{fd:FuncData}
theorem scStem:FnScope ["_law_state","_law_letters","_law_stem_here"] ["_law_state"] (zo WD):=.ok
theorem zbw:(["_law_state","_law_letters","_law_stem_here","_law_k"]:List Str).Nodup:=by decide +kernel
theorem Qm(F:Fun K "_law_stem" "_law_stem" WD f fd)(GD:Ca P w K mg base CX0 1 "_law_draw" lS3 (yp K))(m_range:mg "range"=none):FnOk P w K mg base CX0 2 f fd ["_law_state"] (VH K):=by
 refine F.by scStem (fun vs H Q E h=>?_) (fun cdv A outer s H vs Q E hr h=>?_)
 ·obtain⟨st,B,rfl,_⟩:=h
  rfl
 obtain⟨st,B,rfl,S0,hB,q⟩:=h
 refine⟨_,
  (zg (sE 1 scStem.nd zq)
  (zg (sE 2 scStem.nd (yf PySem.F.plainAttrs_str PySem.F.slot_str_join PySem.F.type_str_join JC zq (jA1 (yM ["_law_k"] rfl (zV rfl m_range (jA1 (cA GD hr (jA2 (jv 0) zn)))) (fun _ _ _ _ _=>(gN 3 zbw)) (fun _ _ _ _ _=>zW) (fun _ _ _ _ _=>(xX Z1 (jv 1) (cA GD hr (jA2 (jv 0) zn))))))))
  (zh (zp (zy (jA2 (jv 2) (yu zx (cA GD hr (jA2 (jv 0) zn)) zn (yO _)))))))),?_⟩
 have sl:=zK
 unfold LIM at hB
 have LM:LIM=4611686018427387904:=rfl
 refine⟨rfl,_,rfl,st,7,B,rfl,S0,by lia,by decide,fun H1 r k1 S1 r0 r1=>?_⟩
 refine⟨_,rfl,by lia,by lia,yG (n:=r.toNat) (fun i τ ys H'=>Kp st H H'/\Sta K H' st (B+1+i)/\(∃x,τ=[some (.ref st),some (.str LET),none,x])/\∃zs:List Str,ys=zs.map V.str/\zs.length=i/\∀z∈zs,z.length=1) ⟨k1,S1,⟨none,rfl⟩,[],rfl,rfl,fun z hz=>by cases hz⟩ ?_ ?_⟩
 ·rintro i τ ys H2 hi ⟨k2,S2,⟨x,rfl⟩,zs,rfl,hl,h1⟩
  refine⟨_,rfl,_,rfl,st,26,B+1+i,rfl,S2,by lia,by decide,fun H3 r3 k3 S3 q0 q1=>?_⟩
  refine⟨LET,_,_,rfl,rfl,by rw[jF];decide,jD q0 q1,by rw[ua];lia,k2.trans k3,S3,⟨_,rfl⟩,zs++[⟨#[97+r3.toNat]⟩],by simp,by simp[hl],?_⟩
  intro z hz
  rcases uv.mp hz with hz|hz
  ·exact h1 z hz
  ·rw[uB.mp hz]
   rfl
 rintro τ ys H2 ⟨k2,S2,_,zs,rfl,hl,h1⟩ pj hpj
 refine⟨"",pj,zs,rfl,rfl,SqL.of zf,by rw[VG h1];lia,?_⟩
 have zl:(Str.join "" zs).length<=6:=by rw[ZH h1];lia
 replace k2:=k2.new (o:=.lst (zs.map V.str)) hpj
 replace S2:=(S2.mono (show _<=B+7 by lia)).new hpj (.lst (zs.map V.str))
 generalize upd H2 pj (.lst (zs.map V.str))=H3 at *
 generalize Str.join "" zs=z at *
 refine⟨_,rfl,_,rfl,st,2,B+7,rfl,S2,by lia,by decide,fun H4 r4 k4 S4 _ _=>?_⟩
 exact⟨rfl,sN2,fun wl hw=>q _ wl z _ ((k2.trans k4).new hw) (S4.new hw _) zl zf⟩
def j0(K:uc):Sp:=fun vs H Q _=>∃(st lm:Addr)(x:Str)(M:List Str)(B:Nat),vs=[.ref st,.ref lm,.str x]/\Sta K H st B/\H lm=some (.lst (M.map V.str))/\M.length<=100/\B+10 < LIM/\∀(H':Hp)(p:Addr)(b:Bd),Kp st H H'->Sta K H' st (B+1)->IsBd H' b p->RG b (M.length+2) (M.length+2) 0->Q (.ref p) H'
theorem scEndW:FnScope ["_law_state","_law_mine","_law_name_here","_law_left","_law_body_here","_law_one"] lS9 (zo sEnd):=.ok
theorem Qn(F:Fun K "_law_end" "_law_end" sEnd f fd)(GD:Ca P w K mg base CX0 1 "_law_draw" lS3 (yp K))(m_len:mg "len"=none)(m_list:mg "list"=none):FnOk P w K mg base CX0 2 f fd lS9 (j0 K):=by
 refine F.by scEndW (fun vs H Q E h=>?_) (fun cdv A outer s H vs Q E hr h=>?_)
 ·obtain⟨st,lm,x,M,B,rfl,_⟩:=h
  rfl
 obtain⟨st,lm,x,M,B,rfl,hS,hm,hM,hB,q⟩:=h
 refine⟨_,
  (zg (zw (tN (vk hr) (jv 1) (zy zD))
   (zh (zp (zt (jA4 zq (jv 2) (zt (jA2 zq (cA GD hr (jA2 (jv 0) zn)))) (zt (jA2 zq (jv 2))))))) zr)
  (zg (sE 3 scEndW.nd (zG yi rfl m_list Ud (jA1 (jv 1))))
  (zg (sE 4 scEndW.nd (zt (jA2 zq (yf ur Uj Uk vK (jv 3) (jA1 (cA GD hr (jA2 (jv 0) (jL m_len (jv 3)))))))))
  (zg (zM PassesOwn.never rfl (ye (jv 3)) (gN 5 scEndW.nd)
   (zh (sE 4 scEndW.nd (zt (jA3 zq (jv 5) (jv 4))))))
  (zh (zp (jv 4))))))),?_⟩
 have sl:=zK
 have LM:LIM=4611686018427387904:=rfl
 rw[LM]at hB
 have nlm:=hS.neS hm
 refine⟨_,rfl,sN0,fun l0 f0=>?_⟩
 have s0:=zj (o:=.lst []) f0
 refine⟨lm,l0,_,rfl,rfl,SqL.of (s0 _ _ hm),SqL.of zf,_,rfl,?_⟩
 have S0:=hS.same s0
 have hm0:=s0 _ _ hm
 generalize upd H l0 (.lst [])=H0 at *
 by_cases ce:(M.map V.str).isEmpty=true
 ·refine zE ce ⟨_,rfl,_,rfl,st,9,B,rfl,S0,by rw[LM];lia,by decide,fun H1 r k1 S1 _ _=>⟨sN2,fun t1 f1=>⟨_,rfl,sN2,fun t2 f2=>⟨sN4,fun t3 f3=>?_⟩⟩⟩⟩
  have s3:=((zj (o:=.tup [.str "num",.int r]) f1).new (o:=.tup [.str "give",.str x]) f2).new (o:=.tup [.str "let",.str x,.ref t1,.ref t2]) f3
  exact q _ t3 (.lt x (.num r) (.give x)) ((Kp.of s0).trans (k1.trans (.of s3))) (S1.same s3) ⟨t1,t2,zf,old f3 (old f2 zf),old f3 zf⟩ ((RG.lt (ow:=[]) (RG.give (x:=x) (c:=0)) ⟨by show 0<=1000;decide,raw0 rfl⟩).mono (by lia) (by lia) (ud _))
 have mp:0 < M.length:=by
  rw[List.isEmpty_map]at ce
  cases M with
  |nil=>exact absurd rfl ce
  |cons a l=>exact Nat.succ_pos _
 refine iteE (by simpa using ce) (nxtC ?_)
 refine⟨_,rfl,lm,_,rfl,.inl (SqL.of hm0),fun l1 f1=>?_⟩
 have s1:=s0.new (o:=.lst (M.map V.str)) f1
 have S1:=hS.same s1
 have g1:=zf (H:=H0) (a:=l1) (o:=.lst (M.map V.str))
 have f10:H l1=none:=s0.free f1
 have n1s:=hS.ne f10
 dsimp only
 generalize upd H0 l1 (.lst (M.map V.str))=H1 at *
 refine⟨_,rfl,.inl ⟨rfl,_,SqL.of g1⟩,_,rfl,_,rfl,l1,_,rfl,.inl (SqL.of g1),st,((M.map V.str).length:Nat),B,rfl,S1,by rw[LM];lia,by rw[ua];lia,fun H2 r k2 S2 a2 b2=>?_⟩
 rw[ua]at b2
 obtain⟨j,rfl⟩:∃j:Nat,r=(j:Int):=⟨r.toNat,by lia⟩
 have hj:j < M.length:=by lia
 have g2:=k2.k _ _ n1s g1
 refine⟨l1,_,_,j,_,rfl,rfl,g2,by lia,by lia,Vy (by rw[ua];exact hj),(by rw[ug,uq hj];rfl),?_⟩
 rw[xB]
 have k3:Kp st H (upd H2 l1 (.lst ((M.eraseIdx j).map V.str))):=((Kp.of s1).trans k2).put f10
 have S3:Sta K (upd H2 l1 (.lst ((M.eraseIdx j).map V.str))) st (B+1):=hS.put f10 ((Kp.of s1).trans k2) S2
 have g3:=zf (H:=H2) (a:=l1) (o:=.lst ((M.eraseIdx j).map V.str))
 have el:(M.eraseIdx j).length=M.length-1:=UH hj
 generalize upd H2 l1 (.lst ((M.eraseIdx j).map V.str))=H3 at *
 refine⟨sN2,fun t4 f4=>?_⟩
 have s4:=zj (o:=.tup [.str "give",.str M[j]]) f4
 refine⟨_,rfl,l1,rfl,⟨_,SqL.of (s4 _ _ g3)⟩,yQ (xs:=(M.eraseIdx j).map V.str) (fun i σ H'=>Same H3 H'/\∃(b:Bd)(p:Addr)(z:Option V),σ=[some (.ref st),some (.ref lm),some (.str x),some (.ref l1),some (.ref p),z]/\IsBd H' b p/\RG b (1+i) (1+i) 0) ⟨s4,.give M[j],t4,none,rfl,zf,RG.give⟩ (fun i σ H' _ h=>SqL.of (h.1 _ _ g3)) ?_ ?_⟩
 ·rintro i v σ H5 hv ⟨s5,b,p,z,rfl,hb,hg⟩
  rw[ug]at hv
  obtain⟨y,hy,rfl⟩:=uj.mp hv
  refine⟨_,rfl,_,rfl,sN3,fun t6 f6=>?_⟩
  exact⟨s5.new f6,.drop y b,t6,_,rfl,⟨p,zf,hb.keep (.of (zj f6 _))⟩,hg.drop.mono (by lia) (by lia) (ud _)⟩
 ·rintro σ H5 ⟨s5,b,p,z,rfl,hb,hg⟩
  rw[ua]at hg
  exact⟨_,rfl,q _ p b (k3.trans (.of s5)) (S3.same s5) hb (hg.mono (by lia) (by lia) (ud _))⟩
def dB(n a:Nat):Nat:=66+4*n+2*a
def sR:Nat->Nat
 |0=>66
 |1=>2041
 |2=>2042
 |3=>31666
 |4=>31667
 |_=>31681
def cR:Nat->Nat
 |0=>0
 |1=>1
 |2=>1
 |_=>2
def bB(n:Nat):Nat:=1000*20 ^ n
theorem zca{n:Nat}(h:n<=4):sR n+1<=sR (n+1)/\sR (n / 2)+sR (n / 2)+1<=sR (n+1)/\15*(sR (n / 2)+70)+1<=sR (n+1)/\cR n<=cR (n+1)/\cR (n / 2)+1<=cR (n+1):=by
 have a:n=0\/n=1\/n=2\/n=3\/n=4:=by lia
 rcases a with rfl|rfl|rfl|rfl|rfl<;>decide
theorem ZI(n:Nat):bB (n+1)=20*bB n/\bB (n / 2)<=bB n/\1000<=bB n:=by
 refine⟨by unfold bB;rw[Nat.pow_succ];lia,Nat.mul_le_mul_left _ (UB (by decide) (Nat.div_le_self _ _)),?_⟩
 have:1<=20 ^ n:=Nat.one_le_pow _ _ (by decide)
 unfold bB
 lia
structure Pw(K:uc)(st wl:Addr)(o:Wg)(a r:Nat)(H:Hp)(B:Nat)(lm ll:Addr)(M L:List Str)(n:Nat):Prop where
 ok:WgOk o
 w:WlX H wl o a r
 s:Sta K H st B
 al:a<=34
 m:H lm=some (.lst (M.map V.str))
 l:H ll=some (.lst (L.map V.str))
 ml:M.length+12*n<=63
 ll:L.length<=3
def PsR(K:uc)(st wl:Addr)(o:Wg)(r:Nat)(H:Hp)(B a d s c:Nat)(Q:VK):Prop:=∀(H':Hp)(p:Addr)(b:Bd)(a':Nat),Kw st wl H H'->Sta K H' st B->WlX H' wl o a' r->a'<=a->IsBd H' b p->RG b d s c->Q (.ref p) H'
def yv(K:uc)(n:Nat):Sp:=fun vs H Q _=>∃(st lm ll wl:Addr)(M L:List Str)(k:Nat)(room:Int)(B a r:Nat)(o:Wg),vs=[.ref st,.ref lm,.ref ll,.int (k:Nat),.int room,.ref wl]/\Pw K st wl o a r H B lm ll M L n/\room<=(n:Int)/\n<=5/\B+bB n < LIM/\PsR K st wl o r H (B+bB n) a (dB n a) (sR n) (cR n) Q
def VI(K:uc)(n:Nat):Sp:=fun vs H Q _=>∃(st lm ll wl po:Addr)(M L:List Str)(k:Nat)(room:Int)(B a r z:Nat)(t:Str)(o:Wg),vs=[.ref st,.ref lm,.ref ll,.int (k:Nat),.int room,.ref wl,.ref po]/\Pw K st wl o a r H B lm ll M L n/\H po=some (.tup [.str t,.int (z:Nat)])/\z<=9/\z<=M.length/\(room-1) / 2<=(n:Int)/\n<=5/\B+bB n+20 < LIM/\PsR K st wl o r H (B+bB n+20) a (dB n a+1) (sR n+1) (cR n) Q
theorem scArmW:FnScope ["_law_state","_law_mine","_law_lent","_law_k","_law_room","_law_world_here","_law_one","_law_left","_law_new","_law_deed_here"] lS4 (zo WG):=.ok
theorem Qo{n e:Nat}(he:2<=e)(F:Fun K "_law_arm" "_law_arm" WG f fd)(GD:Ca P w K mg base CX0 1 "_law_draw" lS3 (yp K))(GM:Ca P w K mg base CX0 1 "_law_name" lS7 spNm)(GS:Ca P w K mg base CX0 2 "_law_some" lS8 (vL K))(GB:Ca P w K mg base CX0 e "_law_body" lS0 (yv K n))(m_list:mg "list"=none):FnOk P w K mg base CX0 (e+1) f fd lS4 (VI K n):=by
 refine F.by scArmW (fun vs H Q E h=>?_) (fun cdv A outer s H vs Q E hr h=>?_)
 ·obtain⟨st,lm,ll,wl,po,M,L,k,room,B,a,r,z,t,o,rfl,_⟩:=h
  rfl
 obtain⟨st,lm,ll,wl,po,M,L,k,room,B,a,r,z,t,o,rfl,hP,hpo,hz,hzM,hroom,hn,hB,q⟩:=h
 have hr1:Room 1 _:=hr.mono (by lia)
 have hr2:Room 2 _:=hr.mono he
 refine⟨_,
  (zg (sE 7 scArmW.nd (zG yi rfl m_list Ud (jA1 (jv 1))))
  (zg (sE 8 scArmW.nd (cA GM hr1 (jA2 (jv 5) (jv 3))))
  (zg (zw (jW.pt (z9 (tN vg (xT 6) zn) (yc (tN zx (cA GD hr1 (jA2 (jv 0) zn)) zn))))
   (zg (sE 9 scArmW.nd (zt (jA4 zq (xT 6) (cA GS hr2 (jA3 (jv 0) (jv 7) (xT 6))) zq)))
   (zh (zp (zt (jA4 zq (jv 8) (jv 9) (cA GB hr (jA6 (jv 0) (zu ya (jv 7) (zy (jA1 (jv 8)))) (jv 2) (zu zN (jv 3) zn) (zu y0 (zu yZ (jv 4) zn) zn) (jv 5)))))))) zr)
  (zh (zp (cA GB hr (jA6 (jv 0) (jv 7) (jv 2) (jv 3) (zu y0 (zu yZ (jv 4) zn) zn) (jv 5)))))))),?_⟩
 have sl:=zK
 have LM:LIM=4611686018427387904:=rfl
 rw[LM]at hB
 have ml:=hP.ml
 have b1000:=(ZI n).2.2
 refine(ex2q rfl ⟨lm,(ex2q rfl ⟨.inl (SqL.of hP.m),fun l1 f1=>?_⟩)⟩)
 have s1:=zj (o:=.lst (M.map V.str)) f1
 have h1:Hd K st wl o H (upd H l1 (.lst (M.map V.str))) l1 M B:=⟨hP.ok,⟨B,hP.s⟩,hP.w.gen,f1,.of s1,hP.s.same s1,zf⟩
 have nll:=hP.s.neS hP.l
 have npo:∀{H':Hp},Kp st H H'->H' po=some (.tup [.str t,.int (z:Nat)]):=fun k=>k.tups hP.s _ _ hpo
 dsimp only
 generalize upd H l1 (.lst (M.map V.str))=H1 at *
 obtain⟨tl,dl,ts,us,w1,_⟩:=hP.w.kp hP.s h1.kp
 refine(ex2q rfl (ex2q rfl ⟨wl,o.z,o.b,_,k,rfl,w1,hP.ok.z,?_⟩))
 have bod:∀(H2:Hp)(M2:List Str)(l2:Addr)(k2 B2:Nat)(kk:Int),kk=((k2:Nat):Int)->Kp st H H2->Sta K H2 st B2->H2 l2=some (.lst (M2.map V.str))->M2.length<=M.length->B2<=B+20->∀Q':VK,(∀(H':Hp)(p:Addr)(b:Bd)(a':Nat),Kw st wl H2 H'->Sta K H' st (B+bB n+20)->WlX H' wl o a' r->a'<=a->IsBd H' b p->RG b (dB n a) (sR n) (cR n)->Q' (.ref p) H')->yv K n [.ref st,.ref l2,.ref ll,.int kk,.int ((room-1) / 2),.ref wl] H2 Q' E0:=fun H2 M2 l2 k2 B2 kk ek kp2 S2 g2 m2 b2 Q' q' =>
  ⟨st,l2,ll,wl,M2,L,k2,_,B2,a,r,o,by rw[ek],⟨hP.ok,hP.w.kp hP.s kp2,S2,hP.al,g2,kp2.k _ _ nll hP.l,by lia,hP.ll⟩,hroom,hn,by rw[LM];lia,fun H' p b a' kw S' w' ha' hb hg=>q' H' p b a' kw (S'.mono (by lia)) w' ha' hb hg⟩
 refine(ex2q rfl (ixT (npo h1.kp) aI1 (ex4q rfl rfl (ex2q rfl ?_))))
 have low:∀(H2:Hp)(B2:Nat),Kp st H1 H2->Sta K H2 st B2->B2<=B+20->∀Q':VK,(∀(H':Hp)(p:Addr)(b:Bd)(a':Nat),Kw st wl H2 H'->Sta K H' st (B+bB n+20)->WlX H' wl o a' r->a'<=a->IsBd H' b p->RG b (dB n a) (sR n) (cR n)->Q' (.ref p) H')->yv K n [.ref st,.ref l1,.ref ll,.int (k:Nat),.int ((room-1) / 2),.ref wl] H2 Q' E0:=fun H2 B2 kp2 S2 b2 Q' q'=>bod H2 M l1 k B2 _ rfl (h1.kp.trans kp2) S2 (kp2.k _ _ h1.ne h1.m) (ud _) b2 Q' q'
 have fin:∀(H2:Hp),Kp st H H2->∀(H':Hp)(p:Addr)(b:Bd)(a':Nat),Kw st wl H2 H'->Sta K H' st (B+bB n+20)->WlX H' wl o a' r->a'<=a->IsBd H' b p->RG b (dB n a) (sR n) (cR n)->Q (.ref p) H':=fun H2 kp2 H' p b a' kw S' w' ha' hb hg=>q H' p b a' ((Kw.kp kp2).trans kw) S' w' ha' hb (hg.mono (by lia) (by lia) (ud _))
 by_cases cz:z=0
 ·refine iteE (decide_eq_false (by rw[cz];decide)) (iteF (nxtC ?_))
  exact(ex2q rfl (ex2q rfl (ex2q rfl (ex2q rfl (ex2q rfl (ex4q rfl rfl (ex4q rfl rfl ⟨⟨by decide,by decide⟩,(ex2q rfl (low H1 B .refl h1.s (by lia) Q (fin H1 h1.kp)))⟩)))))))
 refine zE (decide_eq_true (by lia)) (ex2q rfl ⟨st,2,B,rfl,h1.s,by rw[LM];lia,by decide,fun H2 r2 k2 S2 _ _=>⟨rfl,(ex2q rfl ?_)⟩⟩)
 by_cases c1:¬ r2=1
 ·refine iteE (decide_eq_false fun y=>c1 (V.int.inj y)) (nxtC ?_)
  exact(ex2q rfl (ex2q rfl (ex2q rfl (ex2q rfl (ex2q rfl (ex4q rfl rfl (ex4q rfl rfl ⟨⟨by decide,by decide⟩,(ex2q rfl (low H2 (B+1) k2 S2 (by lia) Q (fin H2 (h1.kp.trans k2))))⟩)))))))
 replace c1:r2=1:=Decidable.not_not.mp c1
 refine zE (decide_eq_true (by rw[c1])) ?_
 have h2:=h1.go k2 S2
 refine(ex2q rfl (ixT (npo h2.kp) aI0 (ex2q rfl (ex2q rfl (ex2q rfl (ixT (npo h2.kp) aI1 ⟨st,l1,z,M,B+1,H,wl,o,rfl,h2,hzM,by lia,by lia,by rw[LM];lia,fun H3 r3 N M' h3 t3 ml3 sub g3 nl3=>⟨sN4,fun pd fd'=>?_⟩⟩))))))
 have s4:=zj (o:=.tup [.str "make",.str t,.ref r3,.str ""]) fd'
 have h4:=h3.same s4
 have hd4:IsDd (upd H3 pd (.tup [.str "make",.str t,.ref r3,.str ""])) (.mk t N "") pd:=⟨r3,zf,s4 _ _ g3⟩
 dsimp only
 generalize upd H3 pd (.tup [.str "make",.str t,.ref r3,.str ""])=H4 at *
 refine(ex2q rfl (ex2q rfl (ex2q rfl (ex2q rfl (ex2q rfl ⟨sN1,fun l5 f5=>⟨l1,l5,(ex4q rfl rfl ⟨old f5 h4.m,zf,by rw[ua];show M'.length+1<=_;lia,fun l6 f6=>?_⟩)⟩⟩)))))
 have s6:=(zj (o:=.lst [.str (nm o.z o.b k)]) f5).new (o:=.lst (M'.map V.str++[.str (nm o.z o.b k)])) f6
 have h6:=h4.same s6
 have g6:=zf (H:=upd H4 l5 (.lst [.str (nm o.z o.b k)])) (a:=l6) (o:=.lst (M'.map V.str++[.str (nm o.z o.b k)]))
 have hd6:=hd4.keep (.of s6)
 generalize upd (upd H4 l5 (.lst [.str (nm o.z o.b k)])) l6 (.lst (M'.map V.str++[.str (nm o.z o.b k)]))=H6 at *
 refine(ex2q rfl (ex2q rfl (ex4q rfl rfl (ex2q rfl (ex4q rfl rfl (ex4q rfl rfl ⟨⟨by decide,by decide⟩,(ex2q rfl ?_)⟩))))))
 refine bod H6 (M'++[nm o.z o.b k]) l6 (k+1) (B+1+z) _ (by lia) h6.kp h6.s (by rw[g6,ui];rfl) (by rw[ub];show M'.length+1<=_;lia) (by lia) _ fun H7 p b a' kw S' w' ha' hb hg=>⟨sN4,fun r8 f8=>?_⟩
 have t67:Tups H6 H7:=kw.tups h6.s (hP.w.kp hP.s h6.kp)
 have s8:=zj (o:=.tup [.str "let",.str (nm o.z o.b k),.ref pd,.ref p]) f8
 have k8:Kp st H7 (upd H7 r8 (.tup [.str "let",.str (nm o.z o.b k),.ref pd,.ref p])):=.of s8
 exact q _ r8 (.lt (nm o.z o.b k) (.mk t N "") b) a' (((Kw.kp h6.kp).trans kw).trans (.kp k8)) (S'.same s8) (w'.kp S' k8) ha' ⟨pd,p,zf,(hd6.keep t67).keep (.of s8),hb.keep (.of s8)⟩ (hg.lt (ow:=[]) ⟨by show N.length<=1000;lia,rawM⟩)
theorem yw{x:Str}:∀{l:List Str},inV (.str x) (l.map V.str)=decide (x∈l)
 |[]=>rfl
 |y::l=>by
  have ih:=yw (x:=x) (l:=l)
  unfold inV at ih ⊢
  rw[uu,uO,ih]
  show((y == x) || decide (x∈l))=_
  by_cases e:y=x
  ·subst e;simp
  ·have e':(y == x)=false:=beq_eq_false_iff_ne.mpr e
   have e2:¬ x=y:=fun z=>e z.symm
   simp[e',e2]
theorem yE:∀{l:List Str},(l.map V.str).all xN=true
 |[]=>rfl
 |_::l=>by rw[uu,UJ,yE (l:=l)];rfl
def arR(a:ArmR)(H:Hp)(p:Addr):Prop:=∃q s,H p=some (.tup [.str a.t,.ref q,.str a.m,.str a.k,.ref s])/\H q=some (.tup (a.ns.map V.str))/\IsBd H a.b s
theorem arR.tk{a:ArmR}{H H':Hp}{p:Addr}(k:Tups H H')(h:arR a H p):arR a H' p:=let ⟨q,s,h1,h2,h3⟩:=h;⟨q,s,k _ _ h1,k _ _ h2,h3.keep k⟩
theorem Yn{H:Hp}:∀{l:List ArmR}{ts:List Addr},TsAt arR H l ts->IsArms H (Arms.ofL l) ts
 |[],ts,h=>by
  have:ts=[]:=Uo.mp h.1.symm
  subst this
  rw[Arms.ofL,IsArms]
 |a::l,[],h=>by cases h.1
 |a::l,t::ts,h=>by
  obtain⟨q,s,h1,h2,h3⟩:=h.2 0 a t rfl rfl
  rw[Arms.ofL,IsArms]
  exact⟨t,q,s,ts,rfl,h1,h2,h3,Yn ⟨Nat.succ.inj h.1,fun i x y e1 e2=>h.2 (i+1) x y e1 e2⟩⟩
def Xa(K:uc)(n:Nat):Sp:=fun vs H Q _=>∃(st lm ll wl:Addr)(M L:List Str)(k:Nat)(room:Int)(B a r:Nat)(o:Wg),vs=[.ref st,.ref lm,.ref ll,.int (k:Nat),.int room,.ref wl]/\Pw K st wl o a r H B lm ll M L n/\M.length+10+12*n<=63/\M++L≠[]/\(room-1) / 2<=(n:Int)/\n<=5/\B+15*(bB n+40)+20 < LIM/\PsR K st wl o r H (B+15*(bB n+40)+20) a (dB n a+2) (15*(sR n+70)+1) (cR n+1) Q
theorem scCaseW:FnScope ["_law_state","_law_mine","_law_lent","_law_k","_law_room","_law_world_here","_law_near","_law_x","_law_sort","_law_arms_here","_law_tag","_law_size","_law_kind","_law_names","_law_mode","_law_left","_law_news","_law_inner","_law_new"] lS0 (zo Z9):=.ok
theorem Xb:(["_law_state","_law_mine","_law_lent","_law_k","_law_room","_law_world_here","_law_near","_law_x","_law_sort","_law_arms_here","_law_tag","_law_size","_law_kind","_law_names","_law_mode","_law_left","_law_news","_law_inner","_law_new","_law_j"]:List Str).Nodup:=by decide +kernel
theorem VJ{n e:Nat}(he:2<=e)(F:Fun K "_law_case" "_law_case" Z9 f fd)(GD:Ca P w K mg base CX0 1 "_law_draw" lS3 (yp K))(GM:Ca P w K mg base CX0 1 "_law_name" lS7 spNm)(GA:Ca P w K mg base CX0 e "_law_arm" lS4 (VI K n))(m_len:mg "len"=none)(m_range:mg "range"=none)(m_tuple:mg "tuple"=none):FnOk P w K mg base CX0 (e+1) f fd lS0 (Xa K n):=by
 refine F.by scCaseW (fun vs H Q E h=>?_) (fun cdv A outer s H vs Q E hr h=>?_)
 ·obtain⟨st,lm,ll,wl,M,L,k,room,B,a,r,o,rfl,_⟩:=h
  rfl
 obtain⟨st,lm,ll,wl,M,L,k,room,B,a,r,o,rfl,hP,hml,hne,hroom,hn,hB,q⟩:=h
 have hr1:Room 1 _:=hr.mono (by lia)
 refine⟨_,
  (zg (sE 6 scCaseW.nd (zu ya (jv 1) (jv 2)))
  (zg (sE 7 scCaseW.nd (xX z6 (jv 6) (cA GD hr1 (jA2 (jv 0) (jL m_len (jv 6))))))
  (zg (sE 8 scCaseW.nd (zu zN zn (cA GD hr1 (jA2 (jv 0) zn))))
  (zg (sE 9 scCaseW.nd (zy zD))
  (zg (zM PassesOwn.never rfl (ye (xL 5)) (xm rfl (zA (gN 10 scCaseW.nd) (zA (gN 11 scCaseW.nd) (zA (gN 12 scCaseW.nd) ym))))
   (zh (zw (tN zx (jv 12) (jv 8))
    (zg (yg ["_law_j"] (i:=13) scCaseW.nd rfl (Or.inl rfl) rfl (zV rfl m_range (jA1 (jv 11))) (fun _ _ _ _ _=>(gN 19 Xb)) (fun _ _ _ _ _=>zW) (fun _ _ _ _ _=>(cA GM hr1 (jA2 (jv 5) (zu zN (jv 3) (jv 19))))))
    (zg (sE 14 scCaseW.nd zq)
    (zg (sE 15 scCaseW.nd (zu ya (jv 1) (jv 13)))
    (zg (zw (jW.pt (z9 (xx xy (jv 7) (jv 1) (by with_unfolding_all rfl)) (yc (tN vg (cA GD hr1 (jA2 (jv 0) zn)) zn))))
     (zg (sE 14 scCaseW.nd zq)
     (zh (zO (yf ur PySem.F.slot_list_remove PySem.F.type_list_remove Ql (jv 15) (jA1 (jv 7))))))  zr)
    (zg (yg ["_law_j"] (i:=16) scCaseW.nd rfl (Or.inl rfl) rfl (zV rfl m_range (jA1 (xL 5))) (fun _ _ _ _ _=>(gN 19 Xb)) (fun _ _ _ _ _=>zW) (fun _ _ _ _ _=>(cA GM hr1 (jA2 (jv 5) (zu zN (zu zN (jv 3) (jv 11)) (jv 19))))))
    (zg (yY zn (xz (jv 5) zn))
    (zg (sE 17 scCaseW.nd (cA GA hr (jA7 (jv 0) (jv 15) (jv 2) (zu zN (zu zN (jv 3) (jv 11)) (jL m_len (jv 16))) (jv 4) (jv 5) (zt (jA2 (jv 10) (jv 11))))))
    (zg (zM PassesOwn.never rfl (ye (jv 16)) (gN 18 scCaseW.nd)
     (zh (sE 17 scCaseW.nd (zt (jA4 zq (jv 18) (zt (jA2 zq (jv 3))) (zt (jA3 zq (jv 18) (jv 17))))))))
    (zh (zO (yf ur uE uF zI (jv 9) (jA1 (zt (jA5 (jv 10) (zG zB rfl m_tuple uI (jA1 (jv 13))) (jv 14) zq (jv 17)))))))))))))))  zr)))
  (zh (zp (zt (jA3 zq (jv 7) (zG zB rfl m_tuple uI (jA1 (jv 9)))))))))))),?_⟩
 have sl:=zK
 have LM:LIM=4611686018427387904:=rfl
 rw[LM]at hB
 have b1000:=(ZI n).2.2
 have hll:=hP.ll
 have ha34:=hP.al
 have nlm:=hP.s.neS hP.m
 have nll:=hP.s.neS hP.l
 have wlm:=hP.w.neS hP.m
 have wll:=hP.w.neS hP.l
 have nws:=hP.w.ne hP.s
 refine cut4 fun r1_ hr1_=>?_
 refine(ex2q rfl (ex2q rfl ⟨lm,ll,(ex4q rfl rfl ⟨hP.m,hP.l,by rw[ua,ua];lia,fun l2 f2=>?_⟩)⟩))
 have s2:=zj (o:=.lst (M.map V.str++L.map V.str)) f2
 have e2:upd H l2 (.lst (M.map V.str++L.map V.str)) l2=some (.lst ((M++L).map V.str)):=by rw[zf,ui]
 have S2:=hP.s.same s2
 have n2s:=hP.s.ne f2
 rw[<- ui]at s2 e2 S2
 dsimp only
 rw[<- ui]
 generalize upd H l2 (.lst ((M++L).map V.str))=H2 at *
 have lne:0 < (M++L).length:=UU.mpr hne
 have lml:(M++L).length<=100:=by rw[ub];lia
 refine(ex2q rfl (ex2q rfl (ex2q rfl ⟨l2,(ex2q rfl ⟨.inl (SqL.of e2),st,(((M++L).map V.str).length:Nat),B,rfl,S2,by rw[LM];lia,by rw[ua];lia,fun H4 r4 k4 S4 a4 b4=>?_⟩)⟩)))
 rw[ua]at b4
 obtain⟨j,rfl⟩:∃j:Nat,r4=(j:Int):=⟨r4.toNat,by lia⟩
 have hj:j < (M++L).length:=by lia
 have hxj:(M++L)[j]?=some (M++L)[j]:=uq hj
 have hxm:(M++L)[j]∈M++L:=List.getElem_mem hj
 refine⟨l2,_,_,_,rfl,rfl,SqL.of (k4.k _ _ n2s e2),zL (by rw[ug,hxj];rfl),?_⟩
 generalize (M++L)[j]=x at hxm
 have k04:Kp st H H4:=(Kp.of s2).trans k4
 refine(ex2q rfl ⟨st,2,B+1,rfl,S4,by rw[LM];lia,by decide,fun H5 r5 k5 S5 _ _=>(ex4q rfl rfl ?_)⟩)
 have k05:=k04.trans k5
 refine⟨sN0,fun la fa=>?_⟩
 have s6:=zj (o:=.lst []) fa
 have k06:=k05.trans (.of s6)
 have S6:=S5.same s6
 have fa0:H la=none:=k05.free (S5.ne fa) fa
 have las:=S5.ne fa
 have e6:=zf (H:=H5) (a:=la) (o:=.lst [])
 have law:la≠wl:=fun z=>by
  obtain⟨_,h1⟩:=hP.w.ex
  rw[z,h1]at fa0
  cases fa0
 have w5:=hP.w.kp hP.s k05
 have kw6:Kw st wl H5 _:=.of s6
 have w6:=w5.kp S5 (.of s6)
 dsimp only
 generalize upd H5 la (.lst [])=H6 at *
 obtain⟨tl,dl,ts,us,x1,x2,x3,x4,x5⟩:=id w5
 have Tn:=hP.ok.Tn
 have tln:=x3.1
 have nts:=S5.neR x2
 have ntw:=w5.neR x2
 subst hr1_
 refine(ex2q rfl (ixL (s6 _ _ x1) aI2 ⟨tl,rfl,⟨_,SqL.of (s6 _ _ x2)⟩,yQ (xs:=ts.map V.ref) (fun i σ H'=>∃y10 y11 y12 y13 y14 y15 y16 y17 y18,σ=[some (.ref st),some (.ref lm),some (.ref ll),some (.int (k:Nat)),some (.int room),some (.ref wl),some (.ref l2),some (.str x),some (.int (1+r5)),some (.ref la),y10,y11,y12,y13,y14,y15,y16,y17,y18]/\Kw st wl H5 H'/\Sta K H' st (B+2+i*(bB n+40))/\(∃a',a'<=a/\WlX H' wl o a' r)/\∃(as:List ArmR)(us:List Addr),H' la=some (.lst (us.map V.ref))/\as.length<=i/\TsAt arR H' as us/\∀z∈as,RA z (dB n a+1) (sR n+69) (cR n)) ⟨_,_,_,_,_,_,_,_,_,rfl,kw6,S6.mono (by lia),⟨a,ud _,w6⟩,[],[],e6,ud _,⟨rfl,fun i a t h=>by simp at h⟩,fun a ha=>by cases ha⟩ (fun i σ H' _ h=>?_) ?_ ?_⟩))
 ·obtain⟨_,_,_,_,_,_,_,_,_,_,k,_⟩:=h
  exact SqL.of (k.k _ _ nts ntw x2)
 ·rintro i v σ H7 hv ⟨y10,y11,y12,y13,y14,y15,y16,y17,y18,rfl,k7,S7,⟨a7,ha7,w7⟩,as,us,e7,al,hT,hG⟩
  rw[ug]at hv
  obtain⟨t,ht,rfl⟩:=uj.mp hv
  have hi:i < ts.length:=(uf.mp ht).1
  obtain⟨⟨tg,size,kind⟩,haT,hR⟩:=x3.at ht
  have a9:size<=9:=hP.ok.T _ (uw haT)
  have ul:=hT.1
  have ib:(i+1)*(bB n+40)<=15*(bB n+40):=uU _ (by lia)
  have is:(i+1)*(bB n+40)=i*(bB n+40)+(bB n+40):=Nat.succ_mul _ _
  have t67:=k7.tups S5 w5
  have k07:Kw st wl H H7:=(Kw.kp k05).trans k7
  have m7:=k07.k _ _ nlm wlm hP.m
  have ll7:=k07.k _ _ nll wll hP.l
  refine⟨t,(ex2q rfl ⟨SqT.of (t67 _ _ hR),rfl,_,_,rfl,_,_,rfl,_,_,rfl,rfl,?_⟩)⟩
  refine(ex2q rfl (ex2q rfl ⟨rfl,(ex2q rfl ?_)⟩))
  refine ite2 (fun c=>?_) (fun c=>nxtC ⟨_,_,_,_,_,_,_,_,_,rfl,k7,S7.mono (by lia),⟨a7,ha7,w7⟩,as,us,e7,by lia,hT,hG⟩)
  obtain⟨tl7,dl7,ts7,us7,w71,_⟩:=id w7
  refine cut3 fun r2_ hr2_=>?_
  refine(ex2q rfl (ex2q rfl ⟨by lia,by lia,yG (n:=((size:Nat):Int).toNat) (fun i τ ys H'=>H7=H'/\(∃y,τ=[some (.ref st),some (.ref lm),some (.ref ll),some (.int (k:Nat)),some (.int room),some (.ref wl),some (.ref l2),some (.str x),some (.int (1+r5)),some (.ref la),some (.str tg),some (.int (size:Nat)),some (.int (kind:Nat)),y13,y14,y15,y16,y17,y18,y])/\∃Ns:List Str,ys=Ns.map V.str/\Ns.length=i) ⟨rfl,⟨none,rfl⟩,[],rfl,rfl⟩ ?_ ?_⟩))
  ·rintro i τ ys H' hi ⟨rfl,⟨y,rfl⟩,Ns,rfl,nl⟩
   rw[Ua]at hi
   refine(ex2q rfl (ex2q rfl (ex2q rfl (ex4q rfl rfl ⟨wl,o.z,o.b,_,k+i,?_,w71,hP.ok.z,by rw[ua];lia,rfl,⟨_,rfl⟩,Ns++[nm o.z o.b (k+i)],by rw[ui];rfl,by rw[ub,nl];rfl⟩))))
   show[V.ref wl,V.int ((k:Int)+(0+(i:Int)))]=_
   rw[Int.zero_add]
   rfl
  rintro τ ys H' ⟨rfl,_,Ns,rfl,nl⟩ l8 f8
  rw[Ua]at nl
  have s8:=zj (o:=.lst (Ns.map V.str)) f8
  have e8:=zf (H:=H7) (a:=l8) (o:=.lst (Ns.map V.str))
  have n8s:=S7.ne f8
  dsimp only
  generalize upd H7 l8 (.lst (Ns.map V.str))=H8 at *
  refine(ex2q rfl (ex2q rfl ⟨lm,l8,(ex4q rfl rfl ⟨s8 _ _ m7,e8,by rw[ua,ua];lia,fun l9 f9=>?_⟩)⟩))
  have s9:=s8.new (o:=.lst (M.map V.str++Ns.map V.str)) f9
  have f97:H7 l9=none:=s8.free f9
  have n9s:=S7.ne f97
  have e89:=(zj (o:=.lst (M.map V.str++Ns.map V.str)) f9) _ _ e8
  have e9:upd H8 l9 (.lst (M.map V.str++Ns.map V.str)) l9=some (.lst ((M++Ns).map V.str)):=by rw[zf,ui]
  have S9:=S7.same s9
  dsimp only
  generalize upd H8 l9 (.lst (M.map V.str++Ns.map V.str))=H9 at *
  subst hr2_
  refine(show ∀(u:TS)(D:Ends),(∀(H10:Hp)(mode:Str)(M2:List Str),Kp st H7 H10->Sta K H10 st (B+2+i*(bB n+40)+1)->H10 l9=some (.lst (M2.map V.str))->M2.length<=M.length+size->size<=M2.length->H10 l8=some (.lst (Ns.map V.str))->u D [some (.ref st),some (.ref lm),some (.ref ll),some (.int (k:Nat)),some (.int room),some (.ref wl),some (.ref l2),some (.str x),some (.int (1+r5)),some (.ref la),some (.str tg),some (.int (size:Nat)),some (.int (kind:Nat)),some (.ref l8),some (.str mode),some (.ref l9),y16,y17,y18] H10)->(tSeq (tIfS _ _ wH) u:TS) D [some (.ref st),some (.ref lm),some (.ref ll),some (.int (k:Nat)),some (.int room),some (.ref wl),some (.ref l2),some (.str x),some (.int (1+r5)),some (.ref la),some (.str tg),some (.int (size:Nat)),some (.int (kind:Nat)),some (.ref l8),some (.str "look"),some (.ref l9),y16,y17,y18] H9 from ?key) _ _ ?rst
  case key =>
   intro u D rest
   have lS:(M++Ns).length=M.length+size:=by rw[ub,nl]
   refine(ex2q rfl (ex2q rfl ⟨lm,(ex2q rfl ⟨.inl (SqL.of (s9 _ _ m7)),rfl,yE,(ex2q rfl ?_)⟩)⟩))
   by_cases c:¬ x∈M
   ·exact iteE (show inV _ _=false by rw[yw,decide_eq_false c]) (iteF (nxtC (rest H9 _ (M++Ns) (.of s9) (S9.mono (by lia)) e9 (by lia) (by lia) e89)))
   replace c:=Decidable.not_not.mp c
   refine zE (show inV _ _=true by rw[yw,decide_eq_true c]) (ex2q rfl ⟨st,4,(ex2q rfl ⟨S9,by rw[LM];lia,by decide,fun H10 r10 k10 S10 _ _=>(ex4q rfl rfl (ex2q rfl ?_))⟩)⟩)
   have k710:Kp st H7 H10:=(Kp.of s9).trans k10
   have e10:=k10.k _ _ n9s e9
   by_cases c2:¬ 0 < r10
   ·exact iteE (decide_eq_false c2) (nxtC (rest H10 _ (M++Ns) k710 S10 e10 (by lia) (by lia) (k10.k _ _ n8s e89)))
   refine zE (decide_eq_true (Decidable.not_not.mp c2)) (ex2q rfl ⟨.inl ⟨rfl,_,SqL.of e10⟩,(ex2q rfl ⟨l9,M++Ns,x,rfl,rfl,e10,uv.mpr (.inl c),fun j hj=>?_⟩)⟩)
   have n89:l8≠l9:=fun z=>by rw[z]at e8;rw[e8]at f9;cases f9
   have mp:0 < M.length:=List.length_pos_of_mem c
   have le:((M++Ns).eraseIdx j).length+1=M.length+size:=by rw[UH hj];lia
   exact nxtC (rest _ "take" _ (k710.put f97) (S7.put f97 k710 S10) zf (by lia) (by lia) (by rw[zi n89];exact k10.k _ _ n8s e89))
  intro H10 mode M2 k10 S10 e10 m2a m2b e810
  have w10:=w7.kp S7 k10
  have e10a:=k10.k _ _ las e7
  have ll10:=k10.k _ _ (S7.neS ll7) ll7
  have T710:=k10.tups S7
  obtain⟨tl1,dl1,ts1,us1,w11,_⟩:=id w10
  have ha7':a7<=34:=uD ha7 ha34
  refine cut2 fun r3_ hr3_=>?_
  refine(ex2q rfl (ixL w11 aI4 (ex2q rfl ⟨by lia,by lia,yG (n:=((a7:Nat):Int).toNat) (fun i τ ys H'=>H10=H'/\(∃y,τ=[some (.ref st),some (.ref lm),some (.ref ll),some (.int (k:Nat)),some (.int room),some (.ref wl),some (.ref l2),some (.str x),some (.int (1+r5)),some (.ref la),some (.str tg),some (.int (size:Nat)),some (.int (kind:Nat)),some (.ref l8),some (.str mode),some (.ref l9),y16,y17,y18,y])/\∃Ns:List Str,ys=Ns.map V.str/\Ns.length=i) ⟨rfl,⟨none,rfl⟩,[],rfl,rfl⟩ ?_ ?_⟩)))
  ·rintro i τ ys H' hi ⟨rfl,⟨y,rfl⟩,Ns,rfl,nl⟩
   rw[Ua]at hi
   refine(ex2q rfl (ex2q rfl (ex2q rfl (ex4q rfl rfl (ex2q rfl (ex4q rfl rfl ⟨wl,o.z,o.b,_,k+size+i,?_,w11,hP.ok.z,by rw[ua];lia,rfl,⟨_,rfl⟩,Ns++[nm o.z o.b (k+size+i)],by rw[ui];rfl,by rw[ub,nl];rfl⟩))))))
   show[V.ref wl,V.int ((k:Int)+size+(0+(i:Int)))]=_
   rw[Int.zero_add]
   rfl
  rintro τ ys H' ⟨rfl,_,Nw,rfl,nlw⟩ lw fw
  rw[Ua]at nlw
  have sw:=zj (o:=.lst (Nw.map V.str)) fw
  have ew:=zf (H:=H10) (a:=lw) (o:=.lst (Nw.map V.str))
  have w12:=w10.kp S10 (.of sw)
  have S12:=S10.same sw
  have k12:Kp st H7 _:=k10.trans (.of sw)
  have e912:=sw _ _ e10
  have e812:=sw _ _ e810
  have ea12:=sw _ _ e10a
  have ll12:=sw _ _ ll10
  dsimp only
  generalize upd H10 lw (.lst (Nw.map V.str))=H12 at *
  obtain⟨tl2,dl2,w21,w22,S13,k13⟩:=w12.put S12 (a':=0)
  refine(show ∀(u:TS)(D:Ends),(∀(H13:Hp),Sta K H13 st (B+2+i*(bB n+40)+1)->WlX H13 wl o 0 r->Kw st wl H12 H13->u D [some (.ref st),some (.ref lm),some (.ref ll),some (.int (k:Nat)),some (.int room),some (.ref wl),some (.ref l2),some (.str x),some (.int (1+r5)),some (.ref la),some (.str tg),some (.int (size:Nat)),some (.int (kind:Nat)),some (.ref l8),some (.str mode),some (.ref l9),some (.ref lw),y17,y18] H13)->(tSeq _ u:TS) D [some (.ref st),some (.ref lm),some (.ref ll),some (.int (k:Nat)),some (.int room),some (.ref wl),some (.ref l2),some (.str x),some (.int (1+r5)),some (.ref la),some (.str tg),some (.int (size:Nat)),some (.int (kind:Nat)),some (.ref l8),some (.str mode),some (.ref l9),some (.ref lw),y17,y18] H12 from ?key2) _ _ ?rst2
  case key2 =>
   intro u D rest
   exact(ex2q rfl ⟨wl,_,4,4,rfl,rfl,w21,rfl,rest _ S13 w22 k13⟩)
  clear S13 w22 k13
  intro H13 S13 w13 k13
  subst hr3_
  refine cut1 fun r4_ hr4_=>?_
  have kp12:∀{q:Addr}{l:List Str},H12 q=some (.lst (l.map V.str))->H13 q=some (.lst (l.map V.str)):=fun h=>k13.k _ _ (S12.neS h) (w12.neS h) h
  refine(ex2q rfl (ex2q rfl (ex2q rfl (ex2q rfl (ex2q rfl (ex4q rfl rfl (ex2q rfl ⟨lw,(ex2q rfl ⟨.inl (SqL.of (kp12 ew)),(ex4q rfl rfl (ex2q rfl (ex2q rfl (ex2q rfl (ex2q rfl ⟨sN2,fun po fpo=>?_⟩)))))⟩)⟩)))))))
  have sp:=zj (o:=.tup [.str tg,.int (size:Nat)]) fpo
  refine⟨st,l9,ll,wl,po,M2,L,k+size+(Nw.map V.str).length,room,_,0,r,size,tg,o,rfl,⟨hP.ok,w13.kp S13 (.of sp),S13.same sp,by lia,sp _ _ (kp12 e912),sp _ _ (kp12 ll12),by lia,hll⟩,zf,a9,m2b,hroom,hn,by rw[LM];lia,fun H14 p b a' kw S14 w14 ha' hb hg=>?_⟩
  have w13':=w13.kp S13 (.of sp)
  have S13':=S13.same sp
  have kw14:Kw st wl H12 H14:=(k13.trans (.of sp)).trans kw
  have kp14:∀{q:Addr}{l:List Str},H12 q=some (.lst (l.map V.str))->H14 q=some (.lst (l.map V.str)):=fun h=>kw14.k _ _ (S12.neS h) (w12.neS h) h
  have ew14:=kp14 ew
  have e814:=kp14 e812
  have ea14:=kw14.k _ _ las law ea12
  have T14:Tups H7 H14:=(k12.tups S7).trans (kw14.tups S12 w12)
  have kw514:Kw st wl H5 H14:=k7.trans ((Kw.kp k12).trans kw14)
  have a0:a'=0:=by lia
  subst a0
  subst hr4_
  refine(ex2q rfl ⟨lw,rfl,⟨_,SqL.of ew14⟩,yQ (xs:=Nw.map V.str) (fun i σ H'=>∃(b:Bd)(p:Addr)(z:Option V),σ=[some (.ref st),some (.ref lm),some (.ref ll),some (.int (k:Nat)),some (.int room),some (.ref wl),some (.ref l2),some (.str x),some (.int (1+r5)),some (.ref la),some (.str tg),some (.int (size:Nat)),some (.int (kind:Nat)),some (.ref l8),some (.str mode),some (.ref l9),some (.ref lw),some (.ref p),z]/\Same H14 H'/\IsBd H' b p/\RG b (dB n 0+1+2*i) (sR n+1+2*i) (cR n)) ⟨b,p,(ex2q rfl ⟨.refl _,hb,hg⟩)⟩ (fun i σ H' _ h=>?_) ?_ ?_⟩)
  ·obtain⟨_,_,_,_,s,_⟩:=h
   exact SqL.of (s _ _ ew14)
  ·rintro i v σ H15 hv ⟨b,p,z,rfl,s15,hb,hg⟩
   rw[ug]at hv
   obtain⟨y,hy,rfl⟩:=uj.mp hv
   refine(ex2q rfl (ex2q rfl ⟨sN2,fun t1 f1=>(ex2q rfl (ex2q rfl ⟨sN3,fun t2 f2=>⟨sN4,fun t3 f3=>?_⟩⟩))⟩))
   have s3:=((zj (o:=.tup [.str "num",.int (k:Nat)]) f1).new (o:=.tup [.str "drop",.str y,.ref p]) f2).new (o:=.tup [.str "let",.str y,.ref t1,.ref t2]) f3
   exact⟨.lt y (.num (k:Nat)) (.drop y b),t3,(ex2q rfl ⟨s15.trans s3,⟨t1,t2,zf,old f3 (old f2 zf),p,old f3 zf,hb.keep (.of s3)⟩,((hg.drop (x:=y)).lt (x:=y) (ow:=[]) ⟨by show 0<=1000;decide,raw0 rfl⟩).mono (by lia) (by lia) (ud _)⟩)⟩
  rintro σ H15 ⟨b,p,z,rfl,s15,hb,hg⟩
  rw[ua,nlw]at hg
  have ea15:=s15 _ _ ea14
  have S15:=S14.same s15
  have w15:=w14.kp S14 (.of s15)
  refine(ex2q rfl ⟨.inl ⟨rfl,_,SqL.of ea15⟩,(ex2q rfl (ex2q rfl ⟨l8,(ex2q rfl (.inl ⟨SqL.of (s15 _ _ e814),fun t1 f1=>(ex2q rfl (ex2q rfl ⟨sN5,fun t2 f2=>⟨la,(ex4q rfl rfl ⟨old f2 (old f1 ea15),by rw[ua];lia,?_⟩)⟩⟩))⟩))⟩))⟩)
  have s16:=(zj (o:=.tup (Ns.map V.str)) f1).new (o:=.tup [.str tg,.ref t1,.str mode,.str "",.ref p]) f2
  have ar:arR ⟨tg,Ns,mode,"",b⟩ _ t2:=⟨t1,p,zf,old f2 zf,hb.keep (.of s16)⟩
  have S16:=S15.same s16
  have w16:=w15.kp S15 (.of s16)
  have ea16:=s16 _ _ ea15
  have T16:Tups H7 _:=(T14.trans (.of s15)).trans (.of s16)
  have kw16:Kw st wl H5 _:=(kw514.trans (.of s15)).trans (.of s16)
  generalize upd (upd H15 t1 (.tup (Ns.map V.str))) t2 (.tup [.str tg,.ref t1,.str mode,.str "",.ref p])=H16 at *
  have em:us.map V.ref++[V.ref t2]=(us++[t2]).map V.ref:=by rw[ui];rfl
  have T17:Tups H16 (upd H16 la (.lst (us.map V.ref++[V.ref t2]))):=fun q ys z=>by rw[zi fun x=>by rw[x,ea16]at z;cases z];exact z
  refine nxtC ⟨_,_,_,_,_,_,_,_,_,rfl,kw16.put fa,(S5.putS fa kw16.s S16).mono (by lia),⟨0,uN _,w5.putN S5 kw16 fa ea16 w16⟩,as++[⟨tg,Ns,mode,"",b⟩],us++[t2],by rw[zf,em],by rw[ub];show as.length+1<=_;lia,((hT.keep fun _ _ z=>z.tk T16).snoc ar).keep fun _ _ z=>z.tk T17,fun z hz=>?_⟩
  rcases uv.mp hz with hz|hz
  ·exact hG z hz
  ·rw[uB.mp hz]
   exact⟨hg.mono (by unfold dB;lia) (by lia) (ud _),rfl,by show Ns.length<=9;lia⟩
 rintro σ H7 ⟨y10,y11,y12,y13,y14,y15,y16,y17,y18,rfl,k7,S7,⟨a7,ha7,w7⟩,as,us,e7,al,hT,hG⟩
 rw[ua]at al S7
 have ib:ts.length*(bB n+40)<=15*(bB n+40):=uU _ (by lia)
 have ib2:as.length*(sR n+70)<=15*(sR n+70):=uU _ (by lia)
 refine(ex2q rfl (ex2q rfl ⟨la,(ex2q rfl (.inl ⟨SqL.of e7,fun t8 f8=>⟨sN3,fun t9 f9=>?_⟩⟩))⟩))
 have s9:=(zj (o:=.tup (us.map V.ref)) f8).new (o:=.tup [.str "case",.str x,.ref t8]) f9
 exact q _ t9 (.cs x (Arms.ofL as)) a7 (((Kw.kp k05).trans k7).trans (.of s9)) ((S7.same s9).mono (by lia)) (w7.kp S7 (.of s9)) ha7 ⟨t8,us,zf,old f9 zf,Yn (hT.keep fun _ _ z=>z.tk (.of s9))⟩ ((RG.cs hG).mono (by lia) (by lia) (ud _))
end
end GN
namespace L2
open PySem
theorem XJ{X:Cx}{sts:List Stmt}:jSs X sts (fun _ _ _=>False):=⟨fun _ _ _ _ _ _ h=>h.elim⟩
end L2
namespace GN
open PySem L2 K11
section
variable{P:Program}{w:World}{K:uc}{mg:Str->Option Value}{base:Heap}{f:Addr}{fd:FuncData}
theorem scBodyW:FnScope ["_law_state","_law_mine","_law_lent","_law_k","_law_room","_law_world_here","_law_way","_law_name_here","_law_near","_law_left","_law_deed_here","_law_x","_law_first"] lS0 (zo jt):=.ok
theorem Qp:(["_law_state","_law_mine","_law_lent","_law_k","_law_room","_law_world_here","_law_way","_law_name_here","_law_near","_law_left","_law_deed_here","_law_x","_law_first","_law_one"]:List Str).Nodup:=by decide +kernel
theorem XL(F:Fun K "_law_body" "_law_body" jt f fd)(GD:Ca P w K mg base CX0 1 "_law_draw" lS3 (yp K))(GM:Ca P w K mg base CX0 1 "_law_name" lS7 spNm)(GE:Ca P w K mg base CX0 2 "_law_end" lS9 (j0 K)):FnOk P w K mg base CX0 5 f fd lS0 (yv K 0):=by
 refine F.by scBodyW (fun vs H Q E h=>?_) (fun cdv A outer s H vs Q E hr h=>?_)
 ·obtain⟨st,lm,ll,wl,M,L,k,room,B,a,r,o,rfl,_⟩:=h
  rfl
 obtain⟨st,lm,ll,wl,M,L,k,room,B,a,r,o,rfl,hP,hroom,hn,hB,q⟩:=h
 have hr1:Room 1 _:=hr.mono (by decide)
 have hr2:Room 2 _:=hr.mono (by decide)
 refine⟨_,
  (zg (sE 6 scBodyW.nd (cA GD hr1 (jA2 (jv 0) zn)))
  (zg (sE 7 scBodyW.nd (cA GM hr1 (jA2 (jv 5) (jv 3))))
  (zg (sE 8 scBodyW.nd (zu ya (jv 1) (jv 2)))
  (zg (zw (tN Wo (jv 4) zn)
   (zh (zp (cA GE hr2 (jA3 (jv 0) (jv 1) (jv 7)))))  zr)
  XJ)))),?_⟩
 have sl:=zK
 have LM:LIM=4611686018427387904:=rfl
 rw[LM]at hB
 have ml:=hP.ml
 have lll:=hP.ll
 have ha34:=hP.al
 have nlm:=hP.s.neS hP.m
 have nll:=hP.s.neS hP.l
 have nws:=hP.w.ne hP.s
 have b1000:=(ZI 0).2.2
 refine(ex2q rfl ⟨st,10,B,rfl,hP.s,by rw[LM];lia,by decide,fun H1 way k1 S1 _ _=>?_⟩)
 have w1:=hP.w.kp hP.s k1
 obtain⟨tl,dl,ts,us,w11,_⟩:=id w1
 have m1:=k1.k _ _ nlm hP.m
 have ll1:=k1.k _ _ nll hP.l
 refine(ex2q rfl (ex2q rfl ⟨wl,o.z,o.b,_,k,rfl,w11,hP.ok.z,?_⟩))
 refine(ex2q rfl (ex2q rfl ⟨lm,ll,(ex4q rfl rfl ⟨m1,ll1,by rw[ua,ua];lia,fun l2 f2=>?_⟩)⟩))
 have s2:=zj (o:=.lst (M.map V.str++L.map V.str)) f2
 have e2:=zf (H:=H1) (a:=l2) (o:=.lst (M.map V.str++L.map V.str))
 have k2:Kp st H _:=k1.trans (.of s2)
 have S2:=S1.same s2
 have n2s:=S1.ne f2
 dsimp only
 generalize upd H1 l2 (.lst (M.map V.str++L.map V.str))=H2 at *
 refine(ex2q rfl (ex4q rfl rfl (ex2q rfl ?_)))
 refine zE (decide_eq_true hroom) ?_
 exact(ex2q rfl (ex2q rfl (ex2q rfl ⟨st,lm,_,M,B+1,rfl,S2,k2.k _ _ nlm hP.m,by lia,by rw[LM];lia,fun H3 p b k3 S3 hb hg=>q _ p b a (.kp (k2.trans k3)) (S3.mono (by lia)) (hP.w.kp hP.s (k2.trans k3)) (ud _) hb (hg.mono (by unfold dB;lia) (show M.length+2<=66 by lia) (uN _))⟩)))
theorem VL{n:Nat}(F:Fun K "_law_body" "_law_body" jt f fd)(GD:Ca P w K mg base CX0 1 "_law_draw" lS3 (yp K))(GM:Ca P w K mg base CX0 1 "_law_name" lS7 spNm)(GE:Ca P w K mg base CX0 2 "_law_end" lS9 (j0 K))(GG:Ca P w K mg base CX0 4 "_law_deed" lS12 (Y6 K))(GB:Ca P w K mg base CX0 (5+3*n) "_law_body" lS0 (yv K n))(GB2:Ca P w K mg base CX0 (5+3*(n / 2)) "_law_body" lS0 (yv K (n / 2)))(GC:Ca P w K mg base CX0 (5+3*(n / 2)+2) "_law_case" lS0 (Xa K (n / 2)))(m_len:mg "len"=none)(m_list:mg "list"=none):FnOk P w K mg base CX0 (5+3*(n+1)) f fd lS0 (yv K (n+1)):=by
 refine F.by scBodyW (fun vs H Q E h=>?_) (fun cdv A outer s H vs Q E hr h=>?_)
 ·obtain⟨st,lm,ll,wl,M,L,k,room,B,a,r,o,rfl,_⟩:=h
  rfl
 obtain⟨st,lm,ll,wl,M,L,k,room,B,a,r,o,rfl,hP,hroom,hn,hB,q⟩:=h
 have hrT:Room (5+3*n+2) _:=hr
 have hrB:Room (5+3*n) _:=hrT.mono (by lia)
 have hrC:Room (5+3*(n / 2)+2) _:=hrT.mono (by lia)
 have hrH:Room (5+3*(n / 2)) _:=hrT.mono (by lia)
 have hr4:Room 4 _:=hrT.mono (by lia)
 have hr2:Room 2 _:=hrT.mono (by lia)
 have hr1:Room 1 _:=hrT.mono (by lia)
 refine⟨_,
  (zg (sE 6 scBodyW.nd (cA GD hr1 (jA2 (jv 0) zn)))
  (zg (sE 7 scBodyW.nd (cA GM hr1 (jA2 (jv 5) (jv 3))))
  (zg (sE 8 scBodyW.nd (zu ya (jv 1) (jv 2)))
  (zg (zw (tN Wo (jv 4) zn)
   (zh (zp (cA GE hr2 (jA3 (jv 0) (jv 1) (jv 7)))))  zr)
  (zg (zw (jW.pt (vd (tN (vk hr1) (jv 8) (zy zD)) (xG (tN Zf (jv 6) zn))))
   (zg (sE 9 scBodyW.nd (zG yi rfl m_list Ud (jA1 (jv 1))))
   (zg (sE 10 scBodyW.nd (cA GG hr4 (jA4 (jv 0) (jv 9) (jv 2) (jv 5))))
   (zh (zp (zt (jA4 zq (jv 7) (jv 10) (cA GB hrB (jA6 (jv 0) (zu ya (jv 9) (zy (jA1 (jv 7)))) (jv 2) (zu zN (jv 3) zn) (zu yZ (jv 4) zn) (jv 5)))))))))  zr)
  (zg (sE 11 scBodyW.nd (xX z6 (jv 8) (cA GD hr1 (jA2 (jv 0) (jL m_len (jv 8))))))
  (zg (zw (tN zx (jv 6) zn)
   (zh (zp (zt (jA4 zq (jv 7) (jv 11) (cA GB hrB (jA6 (jv 0) (zu ya (jv 1) (zy (jA1 (jv 7)))) (jv 2) (zu zN (jv 3) zn) (zu yZ (jv 4) zn) (jv 5)))))))  zr)
  (zg (zw (jW.pt (z9 (tN zx (jv 6) zn) (yc (xx xy (jv 11) (jv 1) (by with_unfolding_all rfl)))))
   (zg (yg ["_law_one"] (i:=9) scBodyW.nd rfl (Or.inl rfl) rfl (ye (jv 1)) (fun _ _ _ _ _=>(gN 13 Qp)) (fun _ _ _ _ _=>(xR (tN v7 (jv 13) (jv 11)))) (fun _ _ _ _ _=>(jv 13)))
   (zh (zp (zt (jA3 zq (jv 11) (cA GB hrB (jA6 (jv 0) (jv 9) (jv 2) (jv 3) (zu yZ (jv 4) zn) (jv 5))))))))  zr)
  (zg (zw (tN zx (jv 6) zn)
   (zg (sE 12 scBodyW.nd (cA GB2 hrH (jA6 (jv 0) (jv 1) (jv 2) (jv 3) (zu y0 (zu yZ (jv 4) zn) zn) (jv 5))))
   (zh (zp (zt (jA4 zq (jv 11) (jv 12) (cA GB2 hrH (jA6 (jv 0) (jv 1) (jv 2) (jv 3) (zu y0 (zu yZ (jv 4) zn) zn) (jv 5))))))))  zr)
  (zh (zp (cA GC hrC (jA6 (jv 0) (jv 1) (jv 2) (jv 3) (jv 4) (jv 5)))))))))))))),?_⟩
 have sl:=zK
 have LM:LIM=4611686018427387904:=rfl
 rw[LM]at hB
 have ml:=hP.ml
 have lll:=hP.ll
 have ha34:=hP.al
 have nlm:=hP.s.neS hP.m
 have nll:=hP.s.neS hP.l
 have nws:=hP.w.ne hP.s
 obtain⟨eb,bh,b1000⟩:=ZI n
 obtain⟨z1,z2,z3,z4,z5⟩:=zca (show n<=4 by lia)
 rw[eb]at hB q
 refine(ex2q rfl ⟨st,10,B,rfl,hP.s,by rw[LM];lia,by decide,fun H1 way k1 S1 _ _=>?_⟩)
 have w1:=hP.w.kp hP.s k1
 obtain⟨tl,dl,ts,us,w11,_⟩:=id w1
 have m1:=k1.k _ _ nlm hP.m
 have ll1:=k1.k _ _ nll hP.l
 refine(ex2q rfl (ex2q rfl ⟨wl,o.z,o.b,_,k,rfl,w11,hP.ok.z,?_⟩))
 refine(ex2q rfl (ex2q rfl ⟨lm,ll,(ex4q rfl rfl ⟨m1,ll1,by rw[ua,ua];lia,fun l2 f2=>?_⟩)⟩))
 have s2:=zj (o:=.lst (M.map V.str++L.map V.str)) f2
 have e2:=zf (H:=H1) (a:=l2) (o:=.lst (M.map V.str++L.map V.str))
 have k2:Kp st H _:=k1.trans (.of s2)
 have S2:=S1.same s2
 have n2s:=S1.ne f2
 dsimp only
 generalize upd H1 l2 (.lst (M.map V.str++L.map V.str))=H2 at *
 refine(ex2q rfl (ex4q rfl rfl (ex2q rfl ?_)))
 by_cases c0:room<=0
 ·refine zE (decide_eq_true c0) ?_
  exact(ex2q rfl (ex2q rfl (ex2q rfl ⟨st,lm,_,M,B+1,rfl,S2,k2.k _ _ nlm hP.m,by lia,by rw[LM];lia,fun H3 p b k3 S3 hb hg=>q _ p b a (.kp (k2.trans k3)) (S3.mono (by lia)) (hP.w.kp hP.s (k2.trans k3)) (ud _) hb (hg.mono (by unfold dB;lia) (by have:66<=sR n:=(by have a:n=0\/n=1\/n=2\/n=3\/n=4:=(by lia);rcases a with rfl|rfl|rfl|rfl|rfl<;>decide);lia) (uN _))⟩)))
 refine iteE (decide_eq_false c0) (nxtC ?_)
 have wlm:=hP.w.neS hP.m
 have wll:=hP.w.neS hP.l
 have d1:∀a,dB (n+1) a=dB n a+4:=fun a=>by unfold dB;lia
 have d2:∀a,dB (n / 2) a<=dB n a:=fun a=>by unfold dB;lia
 have d3:∀{m a':Nat},a'<=a->dB m a'<=dB m a:=fun h=>by unfold dB;lia
 have bod:∀(m:Nat),m<=n->∀(H2:Hp)(M2:List Str)(l2:Addr)(k2 B2 a2:Nat)(kk rr:Int),kk=((k2:Nat):Int)->Kw st wl H H2->WlX H2 wl o a2 r->a2<=a->Sta K H2 st B2->H2 l2=some (.lst (M2.map V.str))->M2.length+12*m<=63->rr<=(m:Int)->B2+bB m < LIM->∀Q':VK,PsR K st wl o r H2 (B2+bB m) a2 (dB m a2) (sR m) (cR m) Q'->yv K m [.ref st,.ref l2,.ref ll,.int kk,.int rr,.ref wl] H2 Q' E0:=fun m hm H2 M2 l2 k2 B2 a2 kk rr ek kw w2 ha2 S2 g2 m2 hrr b2 Q' q' =>
  ⟨st,l2,ll,wl,M2,L,k2,rr,B2,a2,r,o,by rw[ek],⟨hP.ok,w2,S2,uD ha2 ha34,g2,kw.k _ _ nll wll hP.l,m2,lll⟩,hrr,by lia,b2,q'⟩
 dsimp only
 change (tSeq (tIfS _ _ _) (tSeq _ _):TS) { nx:=fun _ H'=>Q .non H',rt:=Q } [some (.ref st),some (.ref lm),some (.ref ll),some (.int (k:Nat)),some (.int room),some (.ref wl),some (.int way),some (.str (nm o.z o.b k)),some (.ref l2),none,none,none,none] H2
 refine(show ∀a' u:TS,(∀(D:Ends)(H3:Hp),D.rt=Q->Kp st H H3->Sta K H3 st (B+1)->a' D [some (.ref st),some (.ref lm),some (.ref ll),some (.int (k:Nat)),some (.int room),some (.ref wl),some (.int way),some (.str (nm o.z o.b k)),some (.ref l2),none,none,none,none] H3)->(M++L≠[]->∀H3:Hp,Kp st H H3->Sta K H3 st (B+1)->H3 l2=some (.lst ((M++L).map V.str))->u { nx:=fun _ H'=>Q .non H',rt:=Q } [some (.ref st),some (.ref lm),some (.ref ll),some (.int (k:Nat)),some (.int room),some (.ref wl),some (.int way),some (.str (nm o.z o.b k)),some (.ref l2),none,none,none,none] H3)->(tSeq (tIfS _ a' wH) u:TS) { nx:=fun _ H'=>Q .non H',rt:=Q } [some (.ref st),some (.ref lm),some (.ref ll),some (.int (k:Nat)),some (.int room),some (.ref wl),some (.int way),some (.str (nm o.z o.b k)),some (.ref l2),none,none,none,none] H2 from ?key) _ _ ?lt ?rst
 case key =>
  intro a' u lt rest
  refine(ex2q rfl ⟨sN0,fun l3 f3=>?_⟩)
  have s3:=zj (o:=.lst []) f3
  have e3:=s3 _ _ e2
  refine⟨l2,l3,(ex2q rfl ⟨rfl,SqL.of e3,SqL.of zf,(ex2q rfl ?_)⟩)⟩
  by_cases ce:(M.map V.str++L.map V.str).isEmpty=true
  ·exact zE ce (iteT (lt _ _ rfl (k2.trans (.of s3)) (S2.same s3)))
  ·refine iteE (by simpa using ce) (ex2q rfl (ex4q rfl rfl (ex2q rfl ?_)))
   by_cases c5:way < 4
   ·exact zE (decide_eq_true c5) (lt _ _ rfl (k2.trans (.of s3)) (S2.same s3))
   ·refine iteE (decide_eq_false c5) (nxtC (rest (fun e=>ce ?_) _ (k2.trans (.of s3)) (S2.same s3) (by rw[ui];exact e3)))
    rw[<- ui,e]
    rfl
 case lt =>
  intro D H3 hD k3 S3
  have w3:=hP.w.kp hP.s k3
  have m3:=k3.k _ _ nlm hP.m
  have ll3:=k3.k _ _ nll hP.l
  refine(ex2q rfl ⟨lm,(ex2q rfl ⟨.inl (SqL.of m3),fun l4 f4=>?_⟩)⟩)
  have s4:=zj (o:=.lst (M.map V.str)) f4
  have h4:Hd K st wl o H3 (upd H3 l4 (.lst (M.map V.str))) l4 M (B+1):=⟨hP.ok,⟨_,S3⟩,w3.gen,f4,.of s4,S3.same s4,zf⟩
  refine(ex2q rfl (ex2q rfl (ex2q rfl (ex2q rfl ⟨st,l4,ll,wl,M,L,B+1,H3,o,rfl,h4,ll3,by lia,by lia,by rw[LM];lia,fun H5 r5 d M' h5 t5 sub5 ml5 I5 L5=>?_⟩))))
  have k5:=k3.trans h5.kp
  refine(ex2q rfl (ex2q rfl (ex2q rfl (ex2q rfl (ex2q rfl ⟨sN1,fun l6 f6=>?_⟩)))))
  have s6:=zj (o:=.lst [.str (nm o.z o.b k)]) f6
  refine⟨l4,l6,(ex4q rfl rfl ⟨s6 _ _ h5.m,zf,by rw[ua];show M'.length+1<=_;lia,fun l7 f7=>?_⟩)⟩
  have s7:=s6.new (o:=.lst (M'.map V.str++[.str (nm o.z o.b k)])) f7
  have h7:=h5.same s7
  have e7:upd (upd H5 l6 (.lst [.str (nm o.z o.b k)])) l7 (.lst (M'.map V.str++[.str (nm o.z o.b k)])) l7=some (.lst ((M'++[nm o.z o.b k]).map V.str)):=by rw[zf,ui];rfl
  have k7:=k3.trans h7.kp
  refine(ex2q rfl (ex2q rfl (ex4q rfl rfl (ex2q rfl (ex4q rfl rfl (ex2q rfl (bod n (ud _) _ (M'++[nm o.z o.b k]) l7 (k+1) _ a _ _ (by lia) (.kp k7) (hP.w.kp hP.s k7) (ud _) h7.s e7 (by rw[ub];show M'.length+1+_<=_;lia) (by lia) (by rw[LM];lia) _ fun H8 p b a' kw S8 w8 ha8 hb hg=>⟨sN4,fun t9 f9=>?_⟩)))))))
  have s9:=zj (o:=.tup [.str "let",.str (nm o.z o.b k),.ref r5,.ref p]) f9
  have w7:=hP.w.kp hP.s k7
  show D.rt _ _
  rw[hD]
  exact q _ t9 (.lt (nm o.z o.b k) d b) a' (((Kw.kp k7).trans kw).trans (.of s9)) ((S8.same s9).mono (by lia)) (w8.kp S8 (.of s9)) ha8 ⟨r5,p,zf,((I5.keep (.of s7)).keep (kw.tups h7.s w7)).keep (.of s9),hb.keep (.of s9)⟩ ((hg.lt L5).mono (by rw[d1];lia) (by lia) (by lia))
 intro hne H3 k3 S3 e3
 have m3:=k3.k _ _ nlm hP.m
 have ll3:=k3.k _ _ nll hP.l
 have lne:0 < (M++L).length:=UU.mpr hne
 have lml:(M++L).length<=100:=by rw[ub];lia
 refine(ex2q rfl (ex2q rfl (ex2q rfl ⟨l2,(ex2q rfl ⟨.inl (SqL.of e3),st,(((M++L).map V.str).length:Nat),B+1,rfl,S3,by rw[LM];lia,by rw[ua];lia,fun H4 r4 k4 S4 a4 b4=>?_⟩)⟩)))
 rw[ua]at b4
 obtain⟨j,rfl⟩:∃j:Nat,r4=(j:Int):=⟨r4.toNat,by lia⟩
 have hj:j < (M++L).length:=by lia
 have hxj:(M++L)[j]?=some (M++L)[j]:=uq hj
 refine⟨l2,_,_,_,rfl,rfl,SqL.of (k4.k _ _ n2s e3),zL (by rw[ug,hxj];rfl),?_⟩
 generalize (M++L)[j]=x
 have k04:=k3.trans k4
 have m4:=k04.k _ _ nlm hP.m
 have ll4:=k04.k _ _ nll hP.l
 have w4:=hP.w.kp hP.s k04
 refine(ex2q rfl ⟨rfl,(ex2q rfl ?_)⟩)
 by_cases c4:way=4
 ·refine zE (decide_eq_true (by rw[c4])) ?_
  refine(ex2q rfl (ex2q rfl (ex2q rfl (ex2q rfl (ex2q rfl ⟨sN1,fun l6 f6=>?_⟩)))))
  have s6:=zj (o:=.lst [.str (nm o.z o.b k)]) f6
  refine⟨lm,l6,(ex4q rfl rfl ⟨s6 _ _ m4,zf,by rw[ua];show M.length+1<=_;lia,fun l7 f7=>?_⟩)⟩
  have s7:=s6.new (o:=.lst (M.map V.str++[.str (nm o.z o.b k)])) f7
  have e7:upd (upd H4 l6 (.lst [.str (nm o.z o.b k)])) l7 (.lst (M.map V.str++[.str (nm o.z o.b k)])) l7=some (.lst ((M++[nm o.z o.b k]).map V.str)):=by rw[zf,ui];rfl
  refine(ex2q rfl (ex2q rfl (ex4q rfl rfl (ex2q rfl (ex4q rfl rfl (ex2q rfl (bod n (ud _) _ (M++[nm o.z o.b k]) l7 (k+1) _ a _ _ (by lia) (.kp (k04.trans (.of s7))) (w4.kp S4 (.of s7)) (ud _) (S4.same s7) e7 (by rw[ub];show M.length+1+_<=_;lia) (by lia) (by rw[LM];lia) _ fun H8 p b a' kw S8 w8 ha8 hb hg=>⟨sN4,fun t9 f9=>?_⟩)))))))
  have s9:=zj (o:=.tup [.str "hold",.str (nm o.z o.b k),.str x,.ref p]) f9
  exact q _ t9 (.hold (nm o.z o.b k) x b) a' (((Kw.kp (k04.trans (.of s7))).trans kw).trans (.of s9)) ((S8.same s9).mono (by lia)) (w8.kp S8 (.of s9)) ha8 ⟨p,zf,hb.keep (.of s9)⟩ (hg.hold.mono (by rw[d1];lia) (by lia) (by lia))
 refine iteE (decide_eq_false fun z=>c4 (V.int.inj z)) (nxtC ?_)
 dsimp only
 change (tSeq (tIfS _ _ _) (tSeq _ _):TS) { nx:=fun _ H'=>Q .non H',rt:=Q } [some (.ref st),some (.ref lm),some (.ref ll),some (.int (k:Nat)),some (.int room),some (.ref wl),some (.int way),some (.str (nm o.z o.b k)),some (.ref l2),none,none,some (.str x),none] H4
 refine(show ∀u:TS,u { nx:=fun _ H'=>Q .non H',rt:=Q } [some (.ref st),some (.ref lm),some (.ref ll),some (.int (k:Nat)),some (.int room),some (.ref wl),some (.int way),some (.str (nm o.z o.b k)),some (.ref l2),none,none,some (.str x),none] H4->(tSeq (tIfS _ _ wH) u:TS) { nx:=fun _ H'=>Q .non H',rt:=Q } [some (.ref st),some (.ref lm),some (.ref ll),some (.int (k:Nat)),some (.int room),some (.ref wl),some (.int way),some (.str (nm o.z o.b k)),some (.ref l2),none,none,some (.str x),none] H4 from ?key2) _ ?rst2
 case key2 =>
  intro u rest
  refine(ex2q rfl ⟨rfl,(ex2q rfl ?_)⟩)
  by_cases c5:¬ way=5
  ·exact iteE (decide_eq_false fun z=>c5 (V.int.inj z)) (iteF (nxtC rest))
  refine zE (decide_eq_true (by rw[Decidable.not_not.mp c5])) (ex2q rfl (ex2q rfl ⟨lm,(ex2q rfl ⟨.inl (SqL.of m4),rfl,yE,(ex2q rfl ?_)⟩)⟩))
  by_cases c:¬ x∈M
  ·exact iteE (show inV _ _=false by rw[yw,decide_eq_false c]) (nxtC rest)
  refine zE (show inV _ _=true by rw[yw,decide_eq_true (Decidable.not_not.mp c)]) ?_
  refine(ex2q rfl ⟨lm,rfl,⟨_,SqL.of m4⟩,yL (xs:=M.map V.str) (fun j τ ys H'=>H4=H'/\(∃v,τ=[some (.ref st),some (.ref lm),some (.ref ll),some (.int (k:Nat)),some (.int room),some (.ref wl),some (.int way),some (.str (nm o.z o.b k)),some (.ref l2),none,none,some (.str x),none,v])/\∃us:List Str,ys=us.map V.str/\us.length<=j) ⟨rfl,⟨none,rfl⟩,[],rfl,ud _⟩ (fun j τ ys H' _ h=>SqL.of (h.1 ▸ m4)) ?_ ?_⟩)
  ·rintro j v τ ys H5 hv' ⟨rfl,⟨v',rfl⟩,us,rfl,ul⟩
   rw[ug]at hv'
   obtain⟨y,hy,rfl⟩:=uj.mp hv'
   have hj:=(uf.mp hy).1
   refine(ex2q rfl (ex2q rfl ⟨rfl,(ex2q rfl ?_)⟩))
   by_cases c:y=x
   ·exact iteE (show(!decide (V.str y=V.str x))=false by rw[decide_eq_true (congrArg V.str c)];rfl) ⟨rfl,⟨_,rfl⟩,us,rfl,by lia⟩
   ·exact zE (show(!decide (V.str y=V.str x))=true by rw[decide_eq_false fun z=>c (V.str.inj z)];rfl) (ex2q rfl ⟨by rw[ua];lia,rfl,⟨_,rfl⟩,us++[y],by rw[ui];rfl,by rw[ub];show us.length+1<=_;lia⟩)
  rintro τ ys H5 ⟨rfl,_,M2,rfl,ul⟩ l5 f5
  rw[ua]at ul
  have s5:=zj (o:=.lst (M2.map V.str)) f5
  refine(ex2q rfl (ex2q rfl (ex2q rfl (ex2q rfl (ex2q rfl (ex2q rfl (ex4q rfl rfl (ex2q rfl (bod n (ud _) _ M2 l5 k _ a _ _ rfl (.kp (k04.trans (.of s5))) (w4.kp S4 (.of s5)) (ud _) (S4.same s5) zf (by lia) (by lia) (by rw[LM];lia) _ fun H8 p b a' kw S8 w8 ha8 hb hg=>⟨sN3,fun t9 f9=>?_⟩)))))))))
  have s9:=zj (o:=.tup [.str "drop",.str x,.ref p]) f9
  exact q _ t9 (.drop x b) a' (((Kw.kp (k04.trans (.of s5))).trans kw).trans (.of s9)) ((S8.same s9).mono (by lia)) (w8.kp S8 (.of s9)) ha8 ⟨p,zf,hb.keep (.of s9)⟩ (hg.drop.mono (by rw[d1];lia) (by lia) (by lia))
 refine(ex2q rfl ⟨rfl,(ex2q rfl ?_)⟩)
 have hdv:(room-1) / 2<=((n / 2:Nat):Int):=by lia
 have hn2:n / 2<=n:=Nat.div_le_self _ _
 by_cases c6:way=6
 ·refine zE (decide_eq_true (by rw[c6])) ?_
  refine(ex2q rfl (ex2q rfl (ex2q rfl (ex2q rfl (ex2q rfl (ex4q rfl rfl (ex4q rfl rfl ⟨⟨by decide,by decide⟩,(ex2q rfl (bod (n / 2) hn2 _ M lm k _ a _ _ rfl (.kp k04) w4 (ud _) S4 m4 (by lia) hdv (by rw[LM];lia) _ fun H5 p5 b5 a5 kw5 S5 w5 ha5 hb5 hg5=>?_))⟩)))))))
  have k05:Kw st wl H H5:=(Kw.kp k04).trans kw5
  refine(ex2q rfl (ex2q rfl (ex2q rfl (ex2q rfl (ex2q rfl (ex2q rfl (ex2q rfl (ex4q rfl rfl (ex4q rfl rfl ⟨⟨by decide,by decide⟩,(ex2q rfl (bod (n / 2) hn2 _ M lm k _ a5 _ _ rfl k05 w5 ha5 S5 (k05.k _ _ nlm wlm hP.m) (by lia) hdv (by rw[LM];lia) _ fun H6 p6 b6 a6 kw6 S6 w6 ha6 hb6 hg6=>⟨sN4,fun t7 f7=>?_⟩))⟩)))))))))
  have s7:=zj (o:=.tup [.str "if",.str x,.ref p5,.ref p6]) f7
  have d5:=d3 (m:=n / 2) ha5
  have d2':=d2 a
  exact q _ t7 (.iff x b5 b6) a6 ((k05.trans kw6).trans (.of s7)) ((S6.same s7).mono (by lia)) (w6.kp S6 (.of s7)) (uD ha6 ha5) ⟨p5,p6,zf,(hb5.keep (kw6.tups S5 w5)).keep (.of s7),hb6.keep (.of s7)⟩ ((hg5.iff (hg6.mono d5 (ud _) (ud _))).mono (by rw[d1];lia) (by lia) (by lia))
 refine iteE (decide_eq_false fun z=>c6 (V.int.inj z)) (nxtC ?_)
 have d2':=d2 a
 exact(ex2q rfl (ex2q rfl (ex2q rfl (ex2q rfl (ex2q rfl (ex2q rfl ⟨st,lm,ll,wl,M,L,k,room,B+1+1,a,r,o,rfl,⟨hP.ok,w4,S4,ha34,m4,ll4,by lia,lll⟩,by lia,hne,hdv,by lia,by rw[LM];lia,fun H8 p b a' kw S8 w8 ha8 hb hg=>q _ p b a' ((Kw.kp k04).trans kw) (S8.mono (by lia)) w8 ha8 hb (hg.mono (by rw[d1];lia) (by lia) (by lia))⟩))))))
def rowR(a:Str×Dd)(H:Hp)(t:Addr):Prop:=∃q,H t=some (.tup [.str a.1,.ref q])/\IsDd H a.2 q
theorem rowR.tk{a:Str×Dd}{H H':Hp}{t:Addr}(k:Tups H H')(h:rowR a H t):rowR a H' t:=let ⟨q,h1,h2⟩:=h;⟨q,k _ _ h1,h2.keep k⟩
def era(H:Hp)(p:Addr):Hp:=fun b=>if b=p then none else H b
theorem xK{H:Hp}{p b:Addr}(n:b≠p):era H p b=H b:=if_neg n
theorem VM{H:Hp}{p:Addr}:era H p p=none:=if_pos rfl
theorem VN{H:Hp}{p:Addr}:Same (era H p) H:=fun b u h=>by
 by_cases e:b=p
 ·rw[e,VM]at h;cases h
 ·rwa [xK e]at h
theorem Hd.fresh{K:uc}{st wl lm:Addr}{o:Wg}{H0 H:Hp}{M:List Str}{B:Nat}(h:Hd K st wl o H0 H lm M B):Kp st H0 (era H lm)/\Hd K st wl o (era H lm) H lm M B:=by
 obtain⟨B0,S0⟩:=id h.s0
 have kp:Kp st H0 (era H lm):=⟨fun b u n q=>by rw[xK (zk q h.f)];exact h.kp.k b u n q,fun a k q=>by
  obtain⟨k',h'⟩:=h.kp.s a k q
  exact⟨k',by rw[xK (zk q h.f)];exact h'⟩⟩
 have S1:Sta K (era H lm) st B:=by
  obtain⟨a,ns,i,h1,h2,h3,_⟩:=S0
  obtain⟨a',ns',i',g1,g2,g3,g4⟩:=h.s
  obtain⟨k',h'⟩:=h.kp.s a _ h1
  rw[g1]at h'
  have ea:a'=a:=congrArg (fun o=>match o with|some (HO.lst (V.ref x::_))=>x|_=>0) h'
  subst ea
  have g1':era H lm st=some (.lst [.ref a',.int ((i':Nat):Int)]):=by rw[xK (zk h1 h.f)];exact g1
  have key:a'≠lm->Sta K (era H lm) st B:=fun n=>by
   refine⟨a',ns',i',g1',g2,?_,g4⟩
   rcases g3 with(g|⟨o,g⟩)|g
   ·exact .inl (.inl (by rw[xK n];exact g))
   ·exact .inl (.inr ⟨o,by rw[xK n];exact g⟩)
   ·exact .inr g
  rcases h3 with(h3|⟨_,h3⟩)|h3
  ·exact key (zk h3 h.f)
  ·exact key (zk h3 h.f)
  ·exact⟨a',ns,i',g1',fun _ _=>.inr h3,.inr h3,g4⟩
 exact⟨kp,h.ok,⟨B,S1⟩,h.w.kp S0 kp,VM,.of VN,h.s,h.m⟩
def VO(K:uc):Sp:=fun vs H Q _=>∃(st lm wl:Addr)(M:List Str)(k size B:Nat)(tag:Str)(o:Wg),vs=[.ref st,.ref lm,.int (k:Nat),.str tag,.int (size:Nat),.ref wl]/\WgOk o/\WlAt H wl o/\Sta K H st B/\H lm=some (.lst (M.map V.str))/\M.length<=60/\size<=9/\B+300 < LIM/\∀(H':Hp)(p:Addr)(b:Bd),Kp st H H'->Sta K H' st (B+40)->IsBd H' b p->RG b (M.length+8) (M.length+8) 0->Q (.ref p) H'
theorem scFoot:FnScope ["_law_state","_law_mine","_law_k","_law_tag","_law_size","_law_world_here","_law_left","_law_rows","_law_j","_law_body_here","_law_name_here","_law_deed_here"] lS6 (zo WH):=.ok
theorem Qq(F:Fun K "_law_foot" "_law_foot" WH f fd)(GD:Ca P w K mg base CX0 1 "_law_draw" lS3 (yp K))(GM:Ca P w K mg base CX0 1 "_law_name" lS7 spNm)(GS:Ca P w K mg base CX0 2 "_law_some" lS8 (vL K))(GE:Ca P w K mg base CX0 2 "_law_end" lS9 (j0 K))(m_len:mg "len"=none)(m_list:mg "list"=none)(m_range:mg "range"=none)(m_reversed:mg "reversed"=none):FnOk P w K mg base CX0 3 f fd lS6 (VO K):=by
 refine F.by scFoot (fun vs H Q E h=>?_) (fun cdv A outer s H vs Q E hr h=>?_)
 ·obtain⟨st,lm,wl,M,k,size,B,tag,o,rfl,_⟩:=h
  rfl
 obtain⟨st,lm,wl,M,k,size,B,tag,o,rfl,hok,hw,hS,hm,hM,h9,hB,q⟩:=h
 have hr1:Room 1 _:=hr.mono (by decide)
 refine⟨_,
  (zg (sE 6 scFoot.nd (zG yi rfl m_list Ud (jA1 (jv 1))))
  (zg (sE 7 scFoot.nd (zy zD))
  (zg (zM PassesOwn.never rfl (zV rfl m_range (jA1 (cA GD hr1 (jA2 (jv 0) zn)))) (gN 8 scFoot.nd)
   (zh (zw (tN zbS (jL m_len (jv 6)) (jv 4))
    (zg (zO (yf ur uE uF zI (jv 7) (jA1 (zt (jA2 (cA GM hr1 (jA2 (jv 5) (zu zN (jv 2) (jv 8)))) (zt (jA4 zq (jv 3) (cA GS hr (jA3 (jv 0) (jv 6) (jv 4))) zq)))))))
    (zh (zO (yf ur uE uF zI (jv 6) (jA1 (yd zP (xX z6 (jv 7) (yh zn)) zn (fun _ _=>rfl)))))))  zr)))
  (zg (sE 9 scFoot.nd (cA GE hr (jA3 (jv 0) (jv 6) (cA GM hr1 (jA2 (jv 5) (zu zN (jv 2) zn))))))
  (zg (zM PassesOwn.never rfl (jy rfl m_reversed (jA1 (jv 7))) (xm rfl (zA (gN 10 scFoot.nd) (zA (gN 11 scFoot.nd) ym)))
   (zh (sE 9 scFoot.nd (zt (jA4 zq (jv 10) (jv 11) (jv 9))))))
  (zh (zp (jv 9)))))))),?_⟩
 have sl:=zK
 have LM:LIM=4611686018427387904:=rfl
 rw[LM]at hB
 refine(ex2q rfl ⟨lm,(ex2q rfl ⟨.inl (SqL.of hm),fun l6 f6=>?_⟩)⟩)
 have s6:=zj (o:=.lst (M.map V.str)) f6
 have e6:=zf (H:=H) (a:=l6) (o:=.lst (M.map V.str))
 dsimp only
 generalize upd H l6 (.lst (M.map V.str))=H1 at *
 refine⟨sN0,fun l7 f7=>?_⟩
 have f70:H l7=none:=s6.free f7
 have n76:l7≠l6:=fun z=>by rw[z,e6]at f7;cases f7
 have s7:=s6.new (o:=.lst []) f7
 have e67:=zj (o:=.lst []) f7 _ _ e6
 have e7:=zf (H:=H1) (a:=l7) (o:=.lst [])
 have n7s:=hS.ne f70
 dsimp only
 generalize upd H1 l7 (.lst [])=H2 at *
 have h2:Hd K st wl o H H2 l6 M B:=⟨hok,⟨B,hS⟩,hw,f6,.of s7,hS.same s7,e67⟩
 refine(ex2q rfl ⟨st,4,B,rfl,h2.s,by rw[LM];lia,by decide,fun H3 r k3 S3 r0 r1=>?_⟩)
 refine(ex2q rfl ⟨by lia,by lia,yR (n:=r.toNat) (fun i σ H'=>∃(M':List Str)(us:List Addr)(rs:List (Str×Dd))(y:Option V),σ=[some (.ref st),some (.ref lm),some (.int (k:Nat)),some (.str tag),some (.int (size:Nat)),some (.ref wl),some (.ref l6),some (.ref l7),y,none,none,none]/\Hd K st wl o H H' l6 M' (B+1+9*i)/\H' l7=some (.lst (us.map V.ref))/\TsAt rowR H' rs us/\rs.length<=i/\(∀z∈rs,LnD [] z.2)/\M'.length<=M.length+i) ⟨M,[],[],none,rfl,h2.go k3 S3,k3.k _ _ n7s e7,⟨rfl,fun i a t h=>by simp at h⟩,ud _,(fun z h=>by cases h),ud _⟩ ?_ ?_⟩)
 ·rintro i σ H4 hi ⟨M',us,rs,y,rfl,h4,e4,hT,rl,hL,ml⟩
  have ul:=hT.1
  have i4:i < 4:=by lia
  refine(ex2q rfl ⟨l6,(ex2q rfl ⟨.inl (SqL.of h4.m),(ex2q rfl (ex4q rfl rfl (ex2q rfl ?_)))⟩)⟩)
  refine ite2 (fun c=>?_) (fun c=>nxtC ⟨M',us,rs,(ex2q rfl ⟨h4.mono (by lia),e4,hT,by lia,hL,by lia⟩)⟩)
  rw[decide_eq_true_eq,ua]at c
  obtain⟨tl,dl,ts,us',xs,w1,_⟩:=h4.wa
  refine(ex2q rfl ⟨.inl ⟨rfl,_,SqL.of e4⟩,(ex2q rfl (ex2q rfl (ex2q rfl (ex4q rfl rfl ⟨wl,o.z,o.b,_,k+i,?_,w1,hok.z,?_⟩))))⟩)
  ·show[V.ref wl,V.int ((k:Int)+(0+(i:Int)))]=_
   rw[Int.zero_add]
   rfl
  obtain⟨kp4,h4'⟩:=h4.fresh
  refine(ex2q rfl (ex2q rfl (ex2q rfl (ex2q rfl ⟨st,l6,size,M',_,_,wl,o,rfl,h4',by lia,by lia,by lia,by rw[LM];lia,fun H5 r5 N M5 h5' t5 ml5 sub g5 nl5=>⟨sN4,fun t1 f1=>⟨sN2,fun t2 f2=>?_⟩⟩⟩))))
  have e5:H5 l7=some (.lst (us.map V.ref)):=h5'.kp.k _ _ n7s (by rw[xK n76];exact e4)
  have h5:Hd K st wl o H H5 l6 M5 (B+1+9*i+size):=⟨hok,⟨B,hS⟩,hw,f6,kp4.trans h5'.kp,h5'.s,h5'.m⟩
  have s6:=(zj (o:=.tup [.str "make",.str tag,.ref r5,.str ""]) f1).new (o:=.tup [.str (nm o.z o.b (k+i)),.ref t1]) f2
  have rw6:rowR (nm o.z o.b (k+i),.mk tag N "") _ t2:=⟨t1,zf,r5,old f2 zf,s6 _ _ g5⟩
  have tp6:=zf (H:=upd H5 t1 (.tup [.str "make",.str tag,.ref r5,.str ""])) (a:=t2) (o:=.tup [.str (nm o.z o.b (k+i)),.ref t1])
  have h6:=h5.same s6
  have e6':=s6 _ _ e5
  have T6:Tups H4 _:=t5.trans (.of s6)
  refine⟨l7,(ex4q rfl rfl ⟨e6',by rw[ua];lia,?_⟩)⟩
  dsimp only
  generalize upd (upd H5 t1 (.tup [.str "make",.str tag,.ref r5,.str ""])) t2 (.tup [.str (nm o.z o.b (k+i)),.ref t1])=H6 at *
  have em:us.map V.ref++[V.ref t2]=(us++[t2]).map V.ref:=by rw[ui];rfl
  rw[em]
  obtain⟨h7,T7⟩:=h6.put (u:=.lst ((us++[t2]).map V.ref)) f70 n76 e6'
  have e77:=zf (H:=H6) (a:=l7) (o:=.lst ((us++[t2]).map V.ref))
  have tp7:=T7 _ _ tp6
  have T47:=T6.trans T7
  have hT7:=(hT.keep fun _ _ z=>z.tk T47).snoc (rw6.tk T7)
  generalize upd H6 l7 (.lst ((us++[t2]).map V.ref))=H7 at *
  refine(ex2q rfl ⟨.inl ⟨rfl,_,SqL.of h7.m⟩,(ex2q rfl (ex2q rfl ⟨l7,_,_,_,rfl,rfl,SqL.of e77,by rw[ui];exact zC _ _,ixT tp7 aI0 ⟨l6,(ex4q rfl rfl ⟨h7.m,by rw[ua];lia,?_⟩)⟩⟩))⟩)
  have em2:M5.map V.str++[V.str (nm o.z o.b (k+i))]=(M5++[nm o.z o.b (k+i)]).map V.str:=by rw[ui];rfl
  obtain⟨h8,T8⟩:=h7.set (M':=M5++[nm o.z o.b (k+i)])
  have e78:upd H7 l6 (.lst ((M5++[nm o.z o.b (k+i)]).map V.str)) l7=some (.lst ((us++[t2]).map V.ref)):=by rw[zi n76];exact e77
  have hT8:=hT7.keep fun _ _ z=>z.tk T8
  rw[<- em2]at h8 e78 hT8
  refine nxtC ⟨_,_,_,_,rfl,h8.mono (by lia),e78,hT8,by rw[ub];show rs.length+1<=_;lia,fun z hz=>?_,by rw[ub];show M5.length+1<=_;lia⟩
  rcases uv.mp hz with hz|hz
  ·exact hL z hz
  ·rw[uB.mp hz]
   exact⟨by show N.length<=1000;lia,rawM⟩
 rintro σ H4 ⟨M',us,rs,y,rfl,h4,e4,hT,rl,hL,ml⟩
 have ul:=hT.1
 have r3:r.toNat<=3:=by lia
 obtain⟨tl,dl,ts,us',xs,w1,_⟩:=h4.wa
 refine(ex2q rfl (ex2q rfl (ex2q rfl (ex2q rfl (ex4q rfl rfl ⟨wl,o.z,o.b,_,k+4,rfl,w1,hok.z,st,l6,_,M',(ex2q rfl ⟨h4.s,h4.m,by lia,by rw[LM];lia,fun H5 p5 b5 k5 S5 hb5 hg5=>?_⟩)⟩)))))
 have e5:=k5.k _ _ n7s e4
 have T5:=k5.tups h4.s
 have hT5:=hT.keep fun _ _ z=>z.tk T5
 refine(ex2q rfl ⟨_,_,rfl,SqL.of e5,wU (xs:=us.map V.ref) (fun i σ H'=>Same H5 H'/\∃(b:Bd)(p:Addr)(y x' y':Option V),σ=[some (.ref st),some (.ref lm),some (.int (k:Nat)),some (.str tag),some (.int (size:Nat)),some (.ref wl),some (.ref l6),some (.ref l7),y,some (.ref p),x',y']/\IsBd H' b p/\RG b (M'.length+2+i) (M'.length+2+i) 0) ⟨.refl _,b5,p5,_,none,none,rfl,hb5,hg5⟩ (fun i σ H' _ h=>SqL.of (h.1 _ _ e5)) ?_ ?_⟩)
 ·rintro i v σ H6 hv ⟨s6,b,p,y,x',y',rfl,hb,hg⟩
  rw[<- List.map_reverse,ug]at hv
  obtain⟨t,ht,rfl⟩:=uj.mp hv
  have hi:i < us.length:=by
   have:=(uf.mp ht).1
   rwa [u6]at this
  rw[List.getElem?_reverse hi]at ht
  obtain⟨⟨n,d⟩,haT,qd,d1,d2⟩:=hT5.at ht
  have hLd:=hL _ (uw haT)
  refine⟨_,_,rfl,SqT.of (s6 _ _ d1),rfl,_,_,rfl,_,_,rfl,rfl,(ex2q rfl (ex2q rfl (ex2q rfl ⟨sN4,fun t7 f7=>?_⟩)))⟩
  have s7:=zj (o:=.tup [.str "let",.str n,.ref qd,.ref p]) f7
  exact⟨s6.trans s7,.lt n d b,t7,_,_,_,rfl,⟨qd,p,zf,d2.keep (.of (s6.trans s7)),hb.keep (.of s7)⟩,(hg.lt hLd).mono (by lia) (by lia) (ud _)⟩
 ·rintro σ H6 ⟨s6,b,p,y,x',y',rfl,hb,hg⟩
  rw[ua]at hg
  exact(ex2q rfl (q _ p b ((h4.kp.trans k5).trans (.of s6)) ((S5.same s6).mono (by lia)) hb (hg.mono (by lia) (by lia) (ud _))))
def hdR(l7 l8:Addr)(a:Str×List Str)(H:Hp)(t:Addr):Prop:=∃q,H t=some (.tup [.str a.1,.ref q])/\H q=some (.lst (a.2.map V.str))/\q≠l7/\q≠l8
def Xc(K:uc):Sp:=fun vs H Q _=>∃(st lm wl:Addr)(M:List Str)(k B:Nat)(o:Wg),vs=[.ref st,.ref lm,.int (k:Nat),.ref wl]/\WgOk o/\WlAt H wl o/\Sta K H st B/\H lm=some (.lst (M.map V.str))/\0 < M.length/\M.length<=3/\(∃tg,o.T[3]?=some tg/\1<=tg.2.1)/\B+1000 < LIM/\∀(H':Hp)(p:Addr)(b:Bd),Kp st H H'->Sta K H' st (B+100)->IsBd H' b p->RG b 60 200 5->Q (.ref p) H'
theorem scChain:FnScope ["_law_state","_law_mine","_law_k","_law_world_here","_law_tag","_law_size","_law_kind","_law_left","_law_heads","_law_j","_law_x","_law_names","_law_first","_law_body_here"] lS13 (zo Ya):=.ok
theorem Qr:(["_law_state","_law_mine","_law_k","_law_world_here","_law_tag","_law_size","_law_kind","_law_left","_law_heads","_law_j","_law_x","_law_names","_law_first","_law_body_here","_law_one"]:List Str).Nodup:=by decide +kernel
theorem VP(F:Fun K "_law_chain" "_law_chain" Ya f fd)(GD:Ca P w K mg base CX0 1 "_law_draw" lS3 (yp K))(GM:Ca P w K mg base CX0 1 "_law_name" lS7 spNm)(GF:Ca P w K mg base CX0 3 "_law_foot" lS6 (VO K))(m_list:mg "list"=none)(m_range:mg "range"=none)(m_reversed:mg "reversed"=none)(m_tuple:mg "tuple"=none):FnOk P w K mg base CX0 4 f fd lS13 (Xc K):=by
 refine F.by scChain (fun vs H Q E h=>?_) (fun cdv A outer s H vs Q E hr h=>?_)
 ·obtain⟨st,lm,wl,M,k,B,o,rfl,_⟩:=h
  rfl
 obtain⟨st,lm,wl,M,k,B,o,rfl,hok,hw,hS,hm,hM0,hM,⟨⟨tag,size,kind⟩,hT3,h1⟩,hB,q⟩:=h
 have hr1:Room 1 _:=hr.mono (by decide)
 refine⟨_,
  (zg (yY (yd z6 (xL 3) zn (fun _ _=>rfl)) (xm rfl (zA (gN 4 scChain.nd) (zA (gN 5 scChain.nd) (zA (gN 6 scChain.nd) ym)))))
  (zg (sE 7 scChain.nd (zG yi rfl m_list Ud (jA1 (jv 1))))
  (zg (sE 8 scChain.nd (zy zD))
  (zg (zM PassesOwn.never rfl (zV rfl m_range (jA1 (zu zN zn (cA GD hr1 (jA2 (jv 0) zn))))) (gN 9 scChain.nd)
   (zg (sE 10 scChain.nd (vf ur Uj Uk vi (jv 7)))
   (zg (yg ["_law_one"] (i:=11) scChain.nd rfl (Or.inl rfl) rfl (zV rfl m_range (jA1 (jv 5))) (fun _ _ _ _ _=>(gN 14 Qr)) (fun _ _ _ _ _=>zW) (fun _ _ _ _ _=>(cA GM hr1 (jA2 (jv 3) (zu zN (jv 2) (jv 14))))))
   (zg (sE 2 scChain.nd (zu zN (jv 2) (jv 5)))
   (zg (zO (yf ur uE uF zI (jv 8) (jA1 (zt (jA2 (jv 10) (jv 11))))))
   (zh (sE 7 scChain.nd (zu ya (jv 7) (jv 11)))))))))
  (zg (sE 12 scChain.nd (cA GF hr (jA6 (jv 0) (jv 7) (jv 2) (jv 4) (jv 5) (jv 3))))
  (zg (sE 13 scChain.nd (zt (jA4 zq (xL 7) (jv 12) (cA GF hr (jA6 (jv 0) (jv 7) (jv 2) (jv 4) (jv 5) (jv 3))))))
  (zg (zM PassesOwn.never rfl (jy rfl m_reversed (jA1 (jv 8))) (xm rfl (zA (gN 10 scChain.nd) (zA (gN 11 scChain.nd) ym)))
   (zh (sE 13 scChain.nd (zt (jA3 zq (jv 10) (zt (jA1 (zt (jA5 (jv 4) (zG zB rfl m_tuple uI (jA1 (jv 11))) zq zq (jv 13))))))))))
  (zh (zp (jv 13)))))))))),?_⟩
 have sl:=zK
 have LM:LIM=4611686018427387904:=rfl
 rw[LM]at hB
 have h9:size<=9:=hok.T _ (uw hT3)
 replace h1:1<=size:=h1
 obtain⟨tl,dl,ts,us0,xs0,w1,w2,w3,_⟩:=id hw
 have t3l:3 < ts.length:=by rw[<- w3.1];exact(uf.mp hT3).1
 have ht3:ts[3]?=some ts[3]:=uq t3l
 have hR3:=w3.2 3 _ _ hT3 ht3
 refine(ex2q rfl (ixL w1 aI2 (ixL w2 (zL (j:=3) (by rw[ug,ht3];rfl)) ⟨_,_,rfl,SqT.of hR3,rfl,_,_,rfl,_,_,rfl,_,_,rfl,rfl,?_⟩)))
 refine(ex2q rfl ⟨lm,(ex2q rfl ⟨.inl (SqL.of hm),fun l7 f7=>?_⟩)⟩)
 have s7:=zj (o:=.lst (M.map V.str)) f7
 have e7:=zf (H:=H) (a:=l7) (o:=.lst (M.map V.str))
 dsimp only
 generalize upd H l7 (.lst (M.map V.str))=H1 at *
 refine⟨sN0,fun l8 f8=>?_⟩
 have f80:H l8=none:=s7.free f8
 have n78:l7≠l8:=fun z=>by rw[<- z,e7]at f8;cases f8
 have s8:=s7.new (o:=.lst []) f8
 have e78:=zj (o:=.lst []) f8 _ _ e7
 have e8:=zf (H:=H1) (a:=l8) (o:=.lst [])
 have n8s:=hS.ne f80
 have n7s:=hS.ne f7
 dsimp only
 generalize upd H1 l8 (.lst [])=H2 at *
 refine(ex2q rfl ⟨st,5,B,rfl,hS.same s8,by rw[LM];lia,by decide,fun H3 r k3 S3 r0 r1=>(ex4q rfl rfl ?_)⟩)
 refine(ex2q rfl ⟨by lia,by lia,yR (n:=(1+r).toNat) (fun i σ H'=>∃(k':Nat)(l7:Addr)(M':List Str)(us:List Addr)(hs:List (Str×List Str))(y9 y10 y11:Option V),σ=[some (.ref st),some (.ref lm),some (.int (k':Nat)),some (.ref wl),some (.str tag),some (.int (size:Nat)),some (.int (kind:Nat)),some (.ref l7),some (.ref l8),y9,y10,y11,none,none]/\Kp st H H'/\Sta K H' st (B+1)/\H l7=none/\l7≠l8/\H' l7=some (.lst (M'.map V.str))/\0 < M'.length/\M'.length<=3+8*i/\H' l8=some (.lst (us.map V.ref))/\TsAt (hdR l7 l8) H' hs us/\hs.length<=i/\∀z∈hs,z.2.length<=9) ⟨k,l7,M,[],[],_,_,_,rfl,(Kp.of s8).trans k3,S3,f7,n78,k3.k _ _ n7s e78,hM0,hM,k3.k _ _ n8s e8,⟨rfl,fun i a t h=>by simp at h⟩,ud _,(fun z h=>by cases h)⟩ ?_ ?_⟩)
 ·rintro i σ H4 hi ⟨k',l7,M',us,hs,y9,y10,y11,rfl,k4,S4,f7,n78,e4,hp,ml,e48,hT,hl,hL⟩
  have i5:i < 5:=by lia
  have ul:=hT.1
  obtain⟨M0,x,rfl⟩:∃M0 x,M'=M0++[x]:=let ⟨a,b,e⟩:=(List.eq_nil_or_concat M').resolve_left (List.ne_nil_of_length_pos hp);⟨a,b,by rw[e,List.concat_eq_append]⟩
  rw[ub]at ml
  have ml':M0.length+1<=3+8*i:=ml
  have ea:(M0++[x]).map V.str=M0.map V.str++[V.str x]:=by rw[ui];rfl
  have eb:((M0++[x]).map V.str)[((M0++[x]).map V.str).length-1]?=some (.str x):=by rw[ea];simp
  have ec:((M0++[x]).map V.str).dropLast=M0.map V.str:=by rw[ea];simp
  refine(ex2q rfl ⟨.inl ⟨rfl,_,SqL.of e4⟩,l7,(ex4q rfl rfl ⟨e4,eb,?_⟩)⟩)
  rw[ec]
  have T5:Tups H4 (upd H4 l7 (.lst (M0.map V.str))):=fun b xs z=>by rw[zi (xh z e4 (by intro z;cases z))];exact z
  have k5:=k4.put (o:=.lst (M0.map V.str)) f7
  have S5:=hS.put (o:=.lst (M0.map V.str)) f7 k4 S4
  have e5:=zf (H:=H4) (a:=l7) (o:=.lst (M0.map V.str))
  have e58:upd H4 l7 (.lst (M0.map V.str)) l8=some (.lst (us.map V.ref)):=by rw[zi n78.symm];exact e48
  have hT5:TsAt (hdR l7 l8) (upd H4 l7 (.lst (M0.map V.str))) hs us:=hT.keep fun a t ⟨q,z1,z2,z3,z4⟩=>⟨q,T5 _ _ z1,by rw[zi z3];exact z2,z3,z4⟩
  dsimp only
  generalize upd H4 l7 (.lst (M0.map V.str))=H5 at *
  have w5:=hw.kp hS k5
  obtain⟨tl5,dl5,ts5,us5,xs5,w51,_⟩:=id w5
  refine(ex2q rfl (ex2q rfl ⟨by lia,by lia,yG (n:=((size:Nat):Int).toNat) (fun i' τ ys H'=>H5=H'/\(∃y,τ=[some (.ref st),some (.ref lm),some (.int (k':Nat)),some (.ref wl),some (.str tag),some (.int (size:Nat)),some (.int (kind:Nat)),some (.ref l7),some (.ref l8),some (.int (0+(i:Int))),some (.str x),y11,none,none,y])/\∃Ns:List Str,ys=Ns.map V.str/\Ns.length=i') ⟨rfl,⟨none,rfl⟩,[],rfl,rfl⟩ ?_ ?_⟩))
  ·rintro i τ ys H' hi ⟨rfl,⟨y,rfl⟩,Ns,rfl,nl⟩
   rw[Ua]at hi
   refine(ex2q rfl (ex2q rfl (ex2q rfl (ex4q rfl rfl ⟨wl,o.z,o.b,_,k'+i,?_,w51,hok.z,by rw[ua];lia,rfl,⟨_,rfl⟩,Ns++[nm o.z o.b (k'+i)],by rw[ui];rfl,by rw[ub,nl];rfl⟩))))
   show[V.ref wl,V.int ((k':Int)+(0+(i:Int)))]=_
   rw[Int.zero_add]
   rfl
  rintro τ ys H' ⟨rfl,_,Ns,rfl,nl⟩ ln fn
  rw[Ua]at nl
  have s6:=zj (o:=.lst (Ns.map V.str)) fn
  have e6:=zf (H:=H5) (a:=ln) (o:=.lst (Ns.map V.str))
  have k6:Kp st H _:=k5.trans (.of s6)
  have S6:=S5.same s6
  have e67:=s6 _ _ e5
  have e68:=s6 _ _ e58
  have n8n:ln≠l8:=fun z=>by rw[z,e58]at fn;cases fn
  have hT6:TsAt (hdR l7 l8) _ hs us:=hT5.keep fun a t ⟨q,z1,z2,z3,z4⟩=>⟨q,s6 _ _ z1,s6 _ _ z2,z3,z4⟩
  dsimp only
  generalize upd H5 ln (.lst (Ns.map V.str))=H6 at *
  refine(ex2q rfl (ex2q rfl (ex4q rfl rfl ?_)))
  refine(ex2q rfl ⟨.inl ⟨rfl,_,SqL.of e68⟩,(ex2q rfl (ex2q rfl ⟨sN2,fun t7 f7'=>⟨l8,(ex4q rfl rfl ⟨old f7' e68,by rw[ua];lia,?_⟩)⟩⟩))⟩)
  have s7:=zj (o:=.tup [.str x,.ref ln]) f7'
  have k7:Kp st H _:=k6.trans (.of s7)
  have S7:=S6.same s7
  have e7:=s7 _ _ e6
  have e77:=s7 _ _ e67
  have e78:=s7 _ _ e68
  have t7:=zf (H:=H6) (a:=t7) (o:=.tup [.str x,.ref ln])
  have hT7:TsAt (hdR l7 l8) _ hs us:=hT6.keep fun a t ⟨q,z1,z2,z3,z4⟩=>⟨q,s7 _ _ z1,s7 _ _ z2,z3,z4⟩
  rename_i t7'
  dsimp only
  generalize upd H6 t7' (.tup [.str x,.ref ln])=H7 at *
  have em:us.map V.ref++[V.ref t7']=(us++[t7']).map V.ref:=by rw[ui];rfl
  rw[em]
  have T8:Tups H7 (upd H7 l8 (.lst ((us++[t7']).map V.ref))):=fun b xs z=>by rw[zi (xh z e78 (by intro z;cases z))];exact z
  have k8:=k7.put (o:=.lst ((us++[t7']).map V.ref)) f80
  have S8:=hS.put (o:=.lst ((us++[t7']).map V.ref)) f80 k7 S7
  have e8:=zf (H:=H7) (a:=l8) (o:=.lst ((us++[t7']).map V.ref))
  have e87:upd H7 l8 (.lst ((us++[t7']).map V.ref)) l7=some (.lst (M0.map V.str)):=by rw[zi n78];exact e77
  have e8n:upd H7 l8 (.lst ((us++[t7']).map V.ref)) ln=some (.lst (Ns.map V.str)):=by rw[zi n8n];exact e7
  have hT8:TsAt (hdR l7 l8) (upd H7 l8 (.lst ((us++[t7']).map V.ref))) hs us:=hT7.keep fun a t ⟨q,z1,z2,z3,z4⟩=>⟨q,T8 _ _ z1,by rw[zi z4];exact z2,z3,z4⟩
  have t8:=T8 _ _ t7
  generalize upd H7 l8 (.lst ((us++[t7']).map V.ref))=H8 at *
  refine(ex2q rfl (ex2q rfl ⟨l7,ln,(ex4q rfl rfl ⟨e87,e8n,by rw[ua,ua];lia,fun l9 f9=>?_⟩)⟩))
  have s9:=zj (o:=.lst (M0.map V.str++Ns.map V.str)) f9
  have f90:H l9=none:=k8.free (S8.ne f9) f9
  have n98:l9≠l8:=fun z=>by rw[z,e8]at f9;cases f9
  refine⟨k'+size,l9,M0++Ns,us++[t7'],hs++[(x,Ns)],_,_,_,rfl,k8.trans (.of s9),S8.same s9,f90,n98,by rw[ui];exact zf,by rw[ub];lia,by rw[ub];lia,s9 _ _ e8,(TsAt.snoc (R:=hdR l9 l8) ⟨hT8.1,fun i a t e1 e2=>(let ⟨q,z1,z2,z3,z4⟩:=hT8.2 i a t e1 e2;⟨q,s9 _ _ z1,s9 _ _ z2,zk z2 f9,z4⟩)⟩ ⟨ln,s9 _ _ t8,s9 _ _ e8n,zk e8n f9,n8n⟩),by rw[ub];show hs.length+1<=_;lia,fun z hz=>?_⟩
  rcases uv.mp hz with hz|hz
  ·exact hL z hz
  ·rw[uB.mp hz]
   show Ns.length<=9
   lia
 rintro σ H4 ⟨k',l7,M',us,hs,y9,y10,y11,rfl,k4,S4,f7,n78,e4,hp,ml,e48,hT,hl,hL⟩
 have r5:(1+r).toNat<=5:=by lia
 have ul:=hT.1
 have n7s:=hS.ne f7
 refine(ex2q rfl (ex2q rfl (ex2q rfl (ex2q rfl (ex2q rfl (ex2q rfl ⟨st,l7,wl,M',k',size,B+1,tag,o,rfl,hok,hw.kp hS k4,S4,e4,by lia,h9,by rw[LM];lia,fun H5 p5 b5 k5 S5 hb5 hg5=>?_⟩))))))
 have k05:=k4.trans k5
 have e5:=k5.k _ _ n7s e4
 have h0:M'[0]?=some M'[0]:=uq hp
 refine(ex2q rfl (ixL e5 (zL (j:=0) (by rw[ug,h0];rfl)) (ex2q rfl (ex2q rfl (ex2q rfl (ex2q rfl (ex2q rfl (ex2q rfl (ex2q rfl ⟨st,l7,wl,M',k',size,_,tag,o,rfl,hok,hw.kp hS k05,S5,e5,by lia,h9,by rw[LM];lia,fun H6 p6 b6 k6 S6 hb6 hg6=>⟨sN4,fun t7 f7'=>?_⟩⟩)))))))))
 have s7:=zj (o:=.tup [.str "if",.str M'[0],.ref p5,.ref p6]) f7'
 have hb7:IsBd (upd H6 t7 (.tup [.str "if",.str M'[0],.ref p5,.ref p6])) (.iff M'[0] b5 b6) t7:=⟨p5,p6,zf,(hb5.keep (k6.tups S5)).keep (.of s7),hb6.keep (.of s7)⟩
 have hg7:=(hg5.iff (x:=M'[0]) hg6).mono (d':=52) (s':=103) (c':=0) (by lia) (by lia) (ud _)
 have k47:Kp st H4 _:=(k5.trans k6).trans (.of s7)
 have S7:=S6.same s7
 have hT7:=hT.keep (R:=hdR l7 l8) (k:=fun a t h=>(let ⟨q,z1,z2,z3,z4⟩:=h;⟨q,k47.tups S4 _ _ z1,k47.k _ _ (S4.neS z2) z2,z3,z4⟩:hdR l7 l8 a _ t))
 have e78:=k47.k _ _ n8s e48
 have k07:=k4.trans k47
 dsimp only
 generalize upd H6 t7 (.tup [.str "if",.str M'[0],.ref p5,.ref p6])=H7 at *
 refine(ex2q rfl ⟨_,_,rfl,SqL.of e78,wU (xs:=us.map V.ref) (fun i σ H'=>Same H7 H'/\∃(b:Bd)(p:Addr)(y9 y10 y11 y12:Option V),σ=[some (.ref st),some (.ref lm),some (.int (k':Nat)),some (.ref wl),some (.str tag),some (.int (size:Nat)),some (.int (kind:Nat)),some (.ref l7),some (.ref l8),y9,y10,y11,y12,some (.ref p)]/\IsBd H' b p/\RG b (52+i) (103+2*i) i) ⟨.refl _,_,t7,_,_,_,_,rfl,hb7,hg7⟩ (fun i σ H' _ h=>SqL.of (h.1 _ _ e78)) ?_ ?_⟩)
 ·rintro i v σ H8 hv ⟨s8,b,p,y9,y10,y11,y12,rfl,hb,hg⟩
  rw[<- List.map_reverse,ug]at hv
  obtain⟨t,ht,rfl⟩:=uj.mp hv
  have hi:i < us.length:=by
   have:=(uf.mp ht).1
   rwa [u6]at this
  rw[List.getElem?_reverse hi]at ht
  obtain⟨⟨x,Ns⟩,haT,qd,d1,d2,_⟩:=hT7.at ht
  have hLd:Ns.length<=9:=hL _ (uw haT)
  refine⟨_,_,rfl,SqT.of (s8 _ _ d1),rfl,_,_,rfl,_,_,rfl,rfl,(ex2q rfl (ex2q rfl (ex2q rfl ⟨qd,(ex2q rfl (.inl ⟨SqL.of (s8 _ _ d2),fun t1 f1=>(ex2q rfl ⟨sN5,fun t2 f2=>⟨sN1,fun t3 f3=>⟨sN3,fun t4 f4=>?_⟩⟩⟩)⟩))⟩)))⟩
  have s9:=(((zj (o:=.tup (Ns.map V.str)) f1).new (o:=.tup [.str tag,.ref t1,.str "take",.str "",.ref p]) f2).new (o:=.tup [.ref t2]) f3).new (o:=.tup [.str "case",.str x,.ref t3]) f4
  have ar:arR ⟨tag,Ns,"take","",b⟩ _ t2:=⟨t1,p,old f4 (old f3 zf),old f4 (old f3 (old f2 zf)),hb.keep (.of s9)⟩
  refine⟨s8.trans s9,.cs x (Arms.ofL [⟨tag,Ns,"take","",b⟩]),t4,_,_,_,_,rfl,⟨t3,[t2],zf,old f4 zf,Yn (TsAt.snoc (l:=[]) (ts:=[]) ⟨rfl,fun i a t h=>(by simp at h)⟩ ar)⟩,(RG.cs (x:=x) (l:=[⟨tag,Ns,"take","",b⟩]) (d:=52+i) (s:=103+2*i) (c:=i) fun a ha=>?_).mono (by lia) (by show 1*(103+2*i+1)+1<=_;lia) (ud _)⟩
  rw[uB.mp ha]
  exact⟨hg,rfl,hLd⟩
 ·rintro σ H8 ⟨s8,b,p,y9,y10,y11,y12,rfl,hb,hg⟩
  rw[ua]at hg
  exact(ex2q rfl (q _ p b (k07.trans (.of s8)) ((S7.same s8).mono (by lia)) hb (hg.mono (by lia) (by lia) (by lia))))
end
theorem ZJ{H H':Hp}{r:Addr}(s:Same H H')(h:H' r=none):H r=none:=by
 cases e:H r with
 |none=>rfl
 |some o=>rw[s _ _ e]at h;cases h
theorem j6(k:Nat):cl (ys k)=Ux (k % 2) 121:=by
 unfold ys
 rcases(show k % 2=0\/k % 2=1 by lia)with e|e
 ·rw[e];decide +kernel
 ·rw[e];decide +kernel
theorem wX{z:Str}{b:Bool}{j k:Nat}(hj:j < 1352)(hk:k < 1352)(h:nm z b j=nm z b k):j=k:=by
 have hl:∀i:Nat,(cl (core i)).length=3:=fun i=>by rw[wW];rfl
 have cinj:cl (core j)=cl (core k)->j % 2=k % 2->j=k:=fun e e0=>by
  rw[wW,wW]at e
  injection e with e1 e2
  injection e2 with _ e3
  injection e3 with e3 _
  lia
 have e:=congrArg cl h
 unfold nm at e
 cases b with
 |true =>
  rw[if_pos rfl,if_pos rfl,yb,yb,yb,yb]at e
  have el:=congrArg List.length e
  rw[ub,ub,ub,ub,hl,hl,j6,j6,UA,UA]at el
  rw[Um,Um]at e
  exact cinj (List.append_inj_left e (by rw[hl,hl])) (by lia)
 |false =>
  rw[if_neg (by decide),if_neg (by decide),yb,yb,yb,yb]at e
  have el:=congrArg List.length e
  rw[ub,ub,ub,ub,hl,hl,j6,j6,UA,UA]at el
  exact cinj (List.append_inj_right' e (by rw[hl,hl])) (by lia)
structure WI(K:uc)(st:Addr)(H H':Hp)(B:Nat)(z:Str)(b:Bool)(wl tl dl:Addr)(rm:Int)(T:List (Str×Nat×Nat))(D:List (Str×List Bool)):Prop where
 s0:∃B0,Sta K H st B0
 k:Kp st H H'
 s:Sta K H' st B
 w:H' wl=some (.lst [.str z,.bl b,.ref tl,.ref dl,.int 0,.int rm])
 t:∃ts,H' tl=some (.lst (ts.map V.ref))/\TsAt tgR H' T ts
 d:∃us,H' dl=some (.lst (us.map V.ref))/\TsAt dfR H' D us
 f1:H wl=none
 f2:H tl=none
 f3:H dl=none
 n1:wl≠tl
 n2:wl≠dl
 n3:tl≠dl
section
variable{K:uc}{st wl tl dl:Addr}{H H' H2:Hp}{B B':Nat}{z:Str}{b:Bool}{rm:Int}{T:List (Str×Nat×Nat)}{D:List (Str×List Bool)}
theorem WI.by(h:WI K st H H' B z b wl tl dl rm T D)(k:∀c∈[wl,tl,dl],∀o,H' c=some o->H2 c=some o)(t:Tups H' H2)(kp:Kp st H H2)(s:Sta K H2 st B'):WI K st H H2 B' z b wl tl dl rm T D:=by
 obtain⟨ts,t1,t2⟩:=h.t
 obtain⟨us,d1,d2⟩:=h.d
 exact⟨h.s0,kp,s,k _ (by simp) _ h.w,⟨ts,k _ (by simp) _ t1,t2.keep fun _ _ z=>z.tk t⟩,⟨us,k _ (by simp) _ d1,d2.keep fun _ _ z=>z.tk t⟩,h.f1,h.f2,h.f3,h.n1,h.n2,h.n3⟩
theorem WI.ne(h:WI K st H H' B z b wl tl dl rm T D):∀c∈[wl,tl,dl],c≠st:=by
 intro c hc
 obtain⟨B0,s0⟩:=h.s0
 simp only[um,Uc,or_false]at hc
 rcases hc with rfl|rfl|rfl
 ·exact s0.ne h.f1
 ·exact s0.ne h.f2
 ·exact s0.ne h.f3
theorem WI.go(h:WI K st H H' B z b wl tl dl rm T D)(k:Kp st H' H2)(s:Sta K H2 st B'):WI K st H H2 B' z b wl tl dl rm T D:=h.by (fun c hc o q=>k.k _ _ (h.ne c hc) q) (k.tups h.s) (h.k.trans k) s
theorem WI.same(h:WI K st H H' B z b wl tl dl rm T D)(s:Same H' H2):WI K st H H2 B z b wl tl dl rm T D:=h.go (.of s) (h.s.same s)
theorem WI.mono(h:WI K st H H' B z b wl tl dl rm T D)(l:B<=B'):WI K st H H' B' z b wl tl dl rm T D:=⟨h.s0,h.k,h.s.mono l,h.w,h.t,h.d,h.f1,h.f2,h.f3,h.n1,h.n2,h.n3⟩
theorem WI.new(h:WI K st H H' B z b wl tl dl rm T D){p:Addr}(hp:H' p=none):H p=none/\p∉[wl,tl,dl]:=by
 refine⟨h.k.free (h.s.ne hp) hp,fun hm=>?_⟩
 obtain⟨ts,t1,t2⟩:=h.t
 obtain⟨us,d1,d2⟩:=h.d
 simp only[um,Uc,or_false]at hm
 rcases hm with e|e|e
 ·rw[e,h.w]at hp;cases hp
 ·rw[e,t1]at hp;cases hp
 ·rw[e,d1]at hp;cases hp
theorem WI.put(h:WI K st H H' B z b wl tl dl rm T D){p:Addr}{xs ys:List V}(hl:H' p=some (.lst xs))(hp:H p=none)(n:p∉[wl,tl,dl]):WI K st H (upd H' p (.lst ys)) B z b wl tl dl rm T D:=by
 obtain⟨B0,s0⟩:=h.s0
 refine h.by (fun c hc o q=>by rw[zi (fun e=>n (by rw[<- e];exact hc))];exact q) (fun c xs q=>?_) (h.k.put hp) (s0.put hp h.k h.s)
 rw[zi (fun e=>by rw[e,hl]at q;cases q)]
 exact q
theorem WI.room(h:WI K st H H' B z b wl tl dl rm T D){rm':Int}:WI K st H (upd H' wl (.lst [.str z,.bl b,.ref tl,.ref dl,.int 0,.int rm'])) B z b wl tl dl rm' T D:=by
 obtain⟨B0,s0⟩:=h.s0
 obtain⟨ts,t1,t2⟩:=h.t
 obtain⟨us,d1,d2⟩:=h.d
 have t:Tups H' (upd H' wl (.lst [.str z,.bl b,.ref tl,.ref dl,.int 0,.int rm'])):=fun c xs q=>by
  rw[zi (fun e=>by rw[e,h.w]at q;cases q)]
  exact q
 exact⟨h.s0,h.k.put h.f1,s0.put h.f1 h.k h.s,zf,⟨ts,by rw[zi (Ne.symm h.n1)];exact t1,t2.keep fun _ _ z=>z.tk t⟩,⟨us,by rw[zi (Ne.symm h.n2)];exact d1,d2.keep fun _ _ z=>z.tk t⟩,h.f1,h.f2,h.f3,h.n1,h.n2,h.n3⟩
theorem WI.addT(h:WI K st H H' B z b wl tl dl rm T D){tg:Str×Nat×Nat}{p:Addr}(hp:tgR tg H' p){ts:List Addr}(e:H' tl=some (.lst (ts.map V.ref)))(et:TsAt tgR H' T ts):WI K st H (upd H' tl (.lst (ts.map V.ref++[.ref p]))) B z b wl tl dl rm (T++[tg]) D:=by
 obtain⟨B0,s0⟩:=h.s0
 obtain⟨us,d1,d2⟩:=h.d
 have t:Tups H' (upd H' tl (.lst (ts.map V.ref++[.ref p]))):=fun c xs q=>by
  rw[zi (fun x=>by rw[x,e]at q;cases q)]
  exact q
 exact⟨h.s0,h.k.put h.f2,s0.put h.f2 h.k h.s,by rw[zi h.n1];exact h.w,⟨ts++[p],by rw[zf,ui];rfl,(et.snoc hp).keep fun _ _ z=>z.tk t⟩,⟨us,by rw[zi (Ne.symm h.n3)];exact d1,d2.keep fun _ _ z=>z.tk t⟩,h.f1,h.f2,h.f3,h.n1,h.n2,h.n3⟩
theorem WI.addD(h:WI K st H H' B z b wl tl dl rm T D){df:Str×List Bool}{p:Addr}(hp:dfR df H' p){us:List Addr}(e:H' dl=some (.lst (us.map V.ref)))(et:TsAt dfR H' D us):WI K st H (upd H' dl (.lst (us.map V.ref++[.ref p]))) B z b wl tl dl rm T (D++[df]):=by
 obtain⟨B0,s0⟩:=h.s0
 obtain⟨ts,t1,t2⟩:=h.t
 have t:Tups H' (upd H' dl (.lst (us.map V.ref++[.ref p]))):=fun c xs q=>by
  rw[zi (fun x=>by rw[x,e]at q;cases q)]
  exact q
 exact⟨h.s0,h.k.put h.f3,s0.put h.f3 h.k h.s,by rw[zi h.n2];exact h.w,⟨ts,by rw[zi h.n3];exact t1,t2.keep fun _ _ z=>z.tk t⟩,⟨us++[p],by rw[zf,ui];rfl,(et.snoc hp).keep fun _ _ z=>z.tk t⟩,h.f1,h.f2,h.f3,h.n1,h.n2,h.n3⟩
end
def Xd(K:uc):Sp:=fun vs H Q _=>∃(st:Addr)(B:Nat),vs=[.ref st]/\Sta K H st B/\B+100 < LIM/\∀H' wl o (rm:Nat),Kp st H H'->Sta K H' st (B+100)->WgOk o->WlX H' wl o 0 rm->(o.T.length=4->∃tg,o.T[3]?=some tg/\1<=tg.2.1)->rm<=5->Q (.ref wl) H'
structure RmOk(R:List Nat):Prop where
 z:R[0]?=some 0
 n:∀x∈R,x<=9
 l:4<=R.length
 u:R.length<=15
 p:R.length=4->1<=R.getD 3 0
def tgs(z:Str)(b:Bool)(R:List Nat)(k:Nat):List (Str×Nat×Nat):=(Uw k).map fun k=>(nm z b k,R.getD k 0,1+min (k / 3) 1)
theorem zcb(z:Str)(b:Bool)(R:List Nat)(k:Nat):tgs z b R (k+1)=tgs z b R k++[(nm z b k,R.getD k 0,1+min (k / 3) 1)]:=by
 unfold tgs
 rw[List.range_succ,ui]
 rfl
theorem VQ(z:Str)(b:Bool)(R:List Nat)(k:Nat):(tgs z b R k).length=k:=by
 unfold tgs
 rw[ua,List.length_range]
theorem VR(z:Str)(b:Bool)(R:List Nat){k j:Nat}(h:j < k):(tgs z b R k)[j]?=some (nm z b j,R.getD j 0,1+min (j / 3) 1):=by
 unfold tgs
 rw[ug,List.getElem?_range h]
 rfl
theorem Qs{R:List Nat}(h:∀x∈R,x<=9)(j:Nat):R.getD j 0<=9:=by
 rw[UI]
 cases e:R[j]? with
 |none=>exact uN _
 |some x=>exact h x (uw e)
theorem zcc{z:Str}{b:Bool}{R:List Nat}{D:List (Str×List Bool)}(hz:z.length<=6)(hR:RmOk R)(hD:D.map (·.1)=[nm z b 2,nm z b 1,nm z b 0])(hl:∀d∈D,d.2.length<=3):WgOk ⟨z,b,tgs z b R R.length,D⟩:=by
 have l:=hR.l
 refine⟨hz,fun t ht=>?_,?_,?_,?_,hl,?_⟩
 ·obtain⟨k,_,rfl⟩:=uG.mp ht
  exact Qs hR.n k
 ·refine⟨_,VR z b R (by lia),?_⟩
  show R.getD 0 0=0
  rw[UI,hR.z]
  rfl
 ·show(tgs z b R R.length).length<=15
  rw[VQ]
  exact hR.u
 ·show D.length=3
  have:=congrArg List.length hD
  rw[ua]at this
  exact this
 ·show(D.map (·.1)).Nodup
  rw[hD]
  have e21:nm z b 2≠nm z b 1:=fun e=>by have:=wX (by decide) (by decide) e;lia
  have e20:nm z b 2≠nm z b 0:=fun e=>by have:=wX (by decide) (by decide) e;lia
  have e10:nm z b 1≠nm z b 0:=fun e=>by have:=wX (by decide) (by decide) e;lia
  simp[e21,e20,e10]
section
variable{P:Program}{w:World}{K:uc}{mg:Str->Option Value}{base:Heap}{f:Addr}{fd:FuncData}
theorem scWorld:FnScope ["_law_state","_law_world_here","_law_way","_law_rooms","_law_k","_law_modes"] ["_law_state"] (zo Z7):=.ok
theorem VS:(["_law_state","_law_world_here","_law_way","_law_rooms","_law_k","_law_modes","_law_j"]:List Str).Nodup:=by decide +kernel
theorem VT:(["_law_state","_law_world_here","_law_way","_law_rooms","_law_k","_law_modes","_law_own"]:List Str).Nodup:=by decide +kernel
theorem VU(F:Fun K "_law_world" "_law_world" Z7 f fd)(GD:Ca P w K mg base CX0 1 "_law_draw" lS3 (yp K))(GT:Ca P w K mg base CX0 2 "_law_stem" ["_law_state"] (VH K))(GM:Ca P w K mg base CX0 1 "_law_name" lS7 spNm)(m_len:mg "len"=none)(m_range:mg "range"=none)(m_tuple:mg "tuple"=none)(m_min:mg "min"=none):FnOk P w K mg base CX0 3 f fd ["_law_state"] (Xd K):=by
 refine F.by scWorld (fun vs H Q E h=>?_) (fun cdv A' outer s H vs Q E hr h=>?_)
 ·obtain⟨st,B,rfl,_⟩:=h
  rfl
 obtain⟨st,B,rfl,hS,hB,q⟩:=h
 have hr1:Room 1 _:=hr.mono (by decide)
 refine⟨_,
  (zg (sE 1 scWorld.nd (zu ya (cA GT hr (jA1 (jv 0))) (zy (jA4 (zy zD) (zy zD) zn zn))))
  (zg (sE 2 scWorld.nd (cA GD hr1 (jA2 (jv 0) zn)))
  (zg (sE 3 scWorld.nd (zy (jA4 zn (zu zN zn (cA GD hr1 (jA2 (jv 0) zn))) (cA GD hr1 (jA2 (jv 0) zn)) (zu zN zn (cA GD hr1 (jA2 (jv 0) zn))))))
  (zg (zw (tN zx (jv 2) zn)
   (zg (sE 3 scWorld.nd (zu ya (zy (jA3 zn zn zn)) (Ze [4] [] rfl (zV rfl m_range (jA1 (zu zN zn (cA GD hr1 (jA2 (jv 0) zn))))) (fun _ _ _ _ _=>(gN 4 scWorld.nd)) (fun _ _ _ _ _=>zW) (fun _ _ _ _ _=>(cA GD hr1 (jA2 (jv 0) zn))))))
   (zh (yY zn (xz (jv 1) zn)))) zr)
  (zg (zw (jW.pt (vd (tN zx (jv 2) zn) (xG (tN zx (jv 2) zn))))
   (zh (yY (zu zN zn (cA GD hr1 (jA2 (jv 0) zn))) (xz (jv 3) zn))) zr)
  (zg (zw (tN zx (jv 2) zn)
   (zh (yY zn (xz (jv 1) zn))) zr)
  (zg (zM PassesOwn.never rfl (zV rfl m_range (jA1 (jL m_len (jv 3)))) (gN 4 scWorld.nd)
   (zh (zO (yf ur uE uF zI (xL 1) (jA1 (zt (jA3 (cA GM hr1 (jA2 (jv 1) (jv 4))) (xX z6 (jv 3) (jv 4)) (zu zN zn (xk (YO rfl) rfl m_min PyProof.Rows.boot_min (jA2 (zu y0 (jv 4) zn) zn))))))))))
  (zg (zM PassesOwn.never rfl (zV rfl m_range (jA1 zn)) (gN 4 scWorld.nd)
   (zg (yg ["_law_j"] (i:=5) scWorld.nd rfl (Or.inl rfl) rfl (zV rfl m_range (jA1 (cA GD hr1 (jA2 (jv 0) zn)))) (fun _ _ _ _ _=>(gN 6 VS)) (fun _ _ _ _ _=>zW) (fun _ _ _ _ _=>(yu vg (cA GD hr1 (jA2 (jv 0) zn)) zn (yO _))))
   (zg (zw (tN zx (jv 4) zn)
    (zh (yg ["_law_own"] (i:=5) scWorld.nd rfl (Or.inl rfl) rfl (ye (jv 5)) (fun _ _ _ _ _=>(gN 6 VT)) (fun _ _ _ _ _=>zW) (fun _ _ _ _ _=>zT))) zr)
   (zh (zO (yf ur uE uF zI (xL 1) (jA1 (zt (jA2 (cA GM hr1 (jA2 (jv 1) (zu yZ zn (jv 4)))) (zG zB rfl m_tuple uI (jA1 (jv 5))))))))))))
  (zh (zp (jv 1))))))))))),?_⟩
 have LM:LIM=4611686018427387904:=rfl
 have sl':=zK
 refine(show ∀(v:TS)(D:Ends),(∀(H1:Hp)(z:Str)(b:Bool)(wl tl dl rl:Addr)(way:Int)(R:List Nat),z.length<=6->WI K st H H1 (B+12) z b wl tl dl 5 [] []->H1 rl=some (.lst (R.map fun x=>V.int ((x:Nat):Int)))->H rl=none->rl∉[wl,tl,dl]->RmOk R->v D [some (.ref st),some (.ref wl),some (.int way),some (.ref rl),none,none] H1)->(tSeq _ (tSeq _ (tSeq _ v)):TS) D [some (.ref st),none,none,none,none,none] H from ?a1) _ _ ?a2
 case a1 =>
  intro v D hV
  refine(ex2q rfl ⟨st,B,rfl,hS,by lia,fun H1 r1 z b k1 S1 hz e1=>?_⟩)
  refine⟨sN0,fun tl g1=>⟨sN0,fun dl g2=>⟨sN4,fun l3 g3=>⟨r1,l3,(ex4q rfl rfl ⟨old g3 (old g2 (old g1 e1)),zf,sN6,fun wl g4=>?_⟩)⟩⟩⟩⟩
  have s4:=(((zj g1 (.lst [])).new (o:=.lst []) g2).new (o:=.lst [.ref tl,.ref dl,.int 0,.int 5]) g3).new (o:=.lst ([.str z,.bl b]++[.ref tl,.ref dl,.int 0,.int 5])) g4
  have n3:tl≠dl:=fun e=>by rw[<- e,zf]at g2;cases g2
  have n1:wl≠tl:=fun e=>by rw[e,old g3 (old g2 (zf (H:=H1) (a:=tl) (o:=.lst [])))]at g4;cases g4
  have n2:wl≠dl:=fun e=>by rw[e,old g3 (zf (H:=upd H1 tl (.lst [])) (a:=dl) (o:=.lst []))]at g4;cases g4
  have f2:H tl=none:=k1.free (S1.ne g1) g1
  have g2':H1 dl=none:=ZJ (zj g1 (.lst [])) g2
  have f3:H dl=none:=k1.free (S1.ne g2') g2'
  have g4':H1 wl=none:=ZJ (((zj g1 (.lst [])).new (o:=.lst []) g2).new (o:=.lst [.ref tl,.ref dl,.int 0,.int 5]) g3) g4
  have f1:H wl=none:=k1.free (S1.ne g4') g4'
  have W4:WI K st H (upd (upd (upd (upd H1 tl (.lst [])) dl (.lst [])) l3 (.lst [.ref tl,.ref dl,.int 0,.int 5])) wl (.lst ([.str z,.bl b]++[.ref tl,.ref dl,.int 0,.int 5]))) (B+8) z b wl tl dl 5 [] []:=⟨⟨B,hS⟩,k1.trans (.of s4),S1.same s4,zf,⟨[],old g4 (old g3 (old g2 zf)),rfl,fun i a t h=>by simp at h⟩,⟨[],old g4 (old g3 zf),rfl,fun i a t h=>by simp at h⟩,f1,f2,f3,n1,n2,n3⟩
  dsimp only
  generalize upd (upd (upd (upd H1 tl (.lst [])) dl (.lst [])) l3 (.lst [.ref tl,.ref dl,.int 0,.int 5])) wl (.lst ([.str z,.bl b]++[.ref tl,.ref dl,.int 0,.int 5]))=H4 at *
  refine(ex2q rfl ⟨st,8,(ex2q rfl ⟨W4.s,by lia,by decide,fun H5 way k5 S5 _ _=>?_⟩)⟩)
  have W5:=W4.go k5 S5
  refine(ex2q rfl ⟨st,3,(ex2q rfl ⟨S5,by lia,by decide,fun H6 r6 k6 S6 a0 a1=>(ex4q rfl rfl ?_)⟩)⟩)
  refine(ex2q rfl ⟨st,4,(ex2q rfl ⟨S6,by lia,by decide,fun H7 r7 k7 S7 b0 b1=>?_⟩)⟩)
  refine(ex2q rfl ⟨st,3,(ex2q rfl ⟨S7,by lia,by decide,fun H8 r8 k8 S8 c0 c1=>(ex4q rfl rfl ⟨sN4,fun rl g9=>?_⟩)⟩)⟩)
  have W8:=((W5.go k6 S6).go k7 S7).go k8 S8
  obtain⟨h1,h2⟩:=W8.new g9
  obtain⟨x6,rfl⟩:∃x:Nat,r6=(x:Nat):=⟨r6.toNat,by lia⟩
  obtain⟨x7,rfl⟩:∃x:Nat,r7=(x:Nat):=⟨r7.toNat,by lia⟩
  obtain⟨x8,rfl⟩:∃x:Nat,r8=(x:Nat):=⟨r8.toNat,by lia⟩
  refine hV _ z b wl tl dl rl way [0,1+x6,x7,1+x8] hz ((W8.same (zj g9 _)).mono (by lia)) ?_ h1 h2 ⟨rfl,fun x hx=>?_,by show 4<=4;decide,by show 4<=15;decide,fun _=>by show 1<=1+x8;lia⟩
  ·rw[zf]
   show some (HO.lst [V.int 0,.int (1+((x6:Nat):Int)),.int ((x7:Nat):Int),.int (1+((x8:Nat):Int))])=some (.lst [.int ((0:Nat):Int),.int ((1+x6:Nat):Int),.int ((x7:Nat):Int),.int ((1+x8:Nat):Int)])
   rw[show 1+((x6:Nat):Int)=((1+x6:Nat):Int) by lia,show 1+((x8:Nat):Int)=((1+x8:Nat):Int) by lia]
   rfl
  ·simp only[um,Uc,or_false]at hx
   lia
 case a2 =>
 intro H1 z b wl tl dl rl way R hz W1 e1 f1 n1 hR
 refine(show ∀(v:TS)(D:Ends),(∀(H1:Hp)(rl:Addr)(R:List Nat)(rm:Int),1<=rm->rm<=5->WI K st H H1 (B+40) z b wl tl dl rm [] []->H1 rl=some (.lst (R.map fun x=>V.int ((x:Nat):Int)))->H rl=none->rl∉[wl,tl,dl]->RmOk R->v D [some (.ref st),some (.ref wl),some (.int way),some (.ref rl),none,none] H1)->(tSeq _ v:TS) D [some (.ref st),some (.ref wl),some (.int way),some (.ref rl),none,none] H1 from ?b1) _ _ ?b2
 case b1 =>
  intro v D hV
  refine(ex2q rfl ⟨rfl,(ex2q rfl (ite2 (fun _=>?_) (fun _=>nxtC (hV _ rl R 5 (by decide) (by decide) (W1.mono (by lia)) e1 f1 n1 hR))))⟩)
  refine⟨sN3,fun l3 g3=>?_⟩
  have W3:=W1.same (zj g3 (.lst [.int 0,.int 1,.int 2]))
  have e3:=zf (H:=H1) (a:=l3) (o:=.lst [.int 0,.int 1,.int 2])
  obtain⟨h3,h3'⟩:=W1.new g3
  generalize upd H1 l3 (.lst [.int 0,.int 1,.int 2])=H3 at *
  refine(ex2q rfl ⟨st,9,(ex2q rfl ⟨W3.s,by lia,by decide,fun H4 r4 k4 S4 a0 a1=>(ex4q rfl rfl (ex2q rfl ⟨by lia,by lia,?_⟩))⟩)⟩)
  have W4:=W3.go k4 S4
  have l3s:l3≠st:=fun e=>by
   obtain⟨B0,s0⟩:=W1.s0
   exact s0.ne h3 e
  have e4:=k4.k _ _ l3s e3
  refine yG (n:=(1*4+r4).toNat) (fun i τ ys H'=>WI K st H H' (B+13+i) z b wl tl dl 5 [] []/\H' l3=some (.lst [.int 0,.int 1,.int 2])/\(∃y,τ=[some (.ref st),some (.ref wl),some (.int way),some (.ref rl),y,none])/\∃ns:List Nat,ys=(ns.map fun x=>V.int ((x:Nat):Int))/\ns.length=i/\∀x∈ns,x<=9) ⟨W4,e4,⟨none,rfl⟩,[],rfl,rfl,fun x h=>by cases h⟩ ?_ ?_
  ·rintro i τ ys H5 hi ⟨W5,e5,⟨y,rfl⟩,ns,rfl,nl,hn⟩
   refine(ex2q rfl ⟨st,3,(ex2q rfl ⟨W5.s,by lia,by decide,fun H6 r6 k6 S6 b0 b1=>?_⟩)⟩)
   obtain⟨x6,rfl⟩:∃x:Nat,r6=(x:Nat):=⟨r6.toNat,by lia⟩
   refine⟨by rw[ua];lia,W5.go k6 S6,k6.k _ _ l3s e5,⟨_,rfl⟩,ns++[x6],by rw[ui];rfl,by rw[ub,nl];rfl,fun x hx=>?_⟩
   rcases uv.mp hx with h|h
   ·exact hn x h
   ·rw[uB.mp h];lia
  ·rintro τ ys H5 ⟨W5,e5,_,ns,rfl,nl,hn⟩ l6 g6
   refine⟨l3,l6,(ex4q rfl rfl ⟨old g6 e5,zf,by rw[ua];show 3+ns.length<=_;lia,fun rl7 g7=>?_⟩)⟩
   have W6:=W5.same (zj g6 (.lst (ns.map fun x=>V.int ((x:Nat):Int))))
   obtain⟨h7,h7'⟩:=W6.new g7
   have W7:=W6.same (zj g7 (.lst ([.int 0,.int 1,.int 2]++ns.map fun x=>V.int ((x:Nat):Int))))
   have e7:=zf (H:=upd H5 l6 (.lst (ns.map fun x=>V.int ((x:Nat):Int)))) (a:=rl7) (o:=.lst ([.int 0,.int 1,.int 2]++ns.map fun x=>V.int ((x:Nat):Int)))
   dsimp only
   generalize upd (upd H5 l6 (.lst (ns.map fun x=>V.int ((x:Nat):Int)))) rl7 (.lst ([.int 0,.int 1,.int 2]++ns.map fun x=>V.int ((x:Nat):Int)))=H7 at *
   refine(ex2q rfl ⟨wl,_,5,5,rfl,rfl,W7.w,rfl,?_⟩)
   have W8:=W7.room (rm':=1)
   have nw:rl7≠wl:=fun e=>h7' (by rw[e];simp)
   exact hV _ rl7 (0::1::2::ns) 1 (by decide) (by decide) (W8.mono (by lia)) (by rw[zi nw];exact e7) h7 h7' ⟨rfl,fun x hx=>by
    rcases um.mp hx with h|hx
    ·lia
    ·rcases um.mp hx with h|hx
     ·lia
     ·rcases um.mp hx with h|hx
      ·lia
      ·exact hn x hx,by show 4<=ns.length+1+1+1;lia,by show ns.length+1+1+1<=15;lia,fun e=>absurd (show ns.length+1+1+1=4 from e) (by lia)⟩
 case b2 =>
 clear W1 e1 f1 n1 hR
 clear H1 rl R
 intro H1 rl R rm rm1 rm5 W1 e1 f1 n1 hR
 refine(show ∀(v:TS)(D:Ends),(∀(H1:Hp)(R:List Nat),WI K st H H1 (B+41) z b wl tl dl rm [] []->H1 rl=some (.lst (R.map fun x=>V.int ((x:Nat):Int)))->RmOk R->v D [some (.ref st),some (.ref wl),some (.int way),some (.ref rl),none,none] H1)->(tSeq _ v:TS) D [some (.ref st),some (.ref wl),some (.int way),some (.ref rl),none,none] H1 from ?c1) _ _ ?c2
 case c1 =>
  intro v D hV
  refine(show ∀(u:TS),(∀(D':Ends),D'.nx=v D->u D' [some (.ref st),some (.ref wl),some (.int way),some (.ref rl),none,none] H1)->(tSeq (tIfS _ u wH) v:TS) D [some (.ref st),some (.ref wl),some (.int way),some (.ref rl),none,none] H1 from ?d1) _ ?d2
  case d1 =>
   intro u hU
   refine(ex2q rfl ⟨rfl,(ex2q rfl (ite2 (fun _=>iteT (hU _ rfl)) (fun _=>?_)))⟩)
   exact(ex2q rfl ⟨rfl,(ex2q rfl (ite2 (fun _=>hU _ rfl) (fun _=>nxtC (hV _ R (W1.mono (by lia)) e1 hR))))⟩)
  case d2 =>
   intro D' hD
   have rls:rl≠st:=by
    obtain⟨B0,s0⟩:=W1.s0
    exact s0.ne f1
   refine(ex2q rfl ⟨st,6,(ex2q rfl ⟨W1.s,by lia,by decide,fun H2 r2 k2 S2 a0 a1=>(ex4q rfl rfl ?_)⟩)⟩)
   have W2:=W1.go k2 S2
   have e2:=k2.k _ _ rls e1
   obtain⟨x2,rfl⟩:∃x:Nat,r2=(x:Nat):=⟨r2.toNat,by lia⟩
   have l4:=hR.l
   refine(ex2q rfl ⟨rl,_,3,3,rfl,rfl,e2,by rw[ua];unfold ixN;rw[if_pos (by decide),if_pos (by lia)];rfl,?_⟩)
   rw[hD]
   have es:((R.map fun x=>V.int ((x:Nat):Int)).set 3 (.int (4+((x2:Nat):Int))))=(R.set 3 (4+x2)).map fun x=>V.int ((x:Nat):Int):=by
    rw[show 4+((x2:Nat):Int)=((4+x2:Nat):Int) by lia]
    exact List.map_set.symm
   rw[es]
   refine hV _ (R.set 3 (4+x2)) (W2.put e2 f1 n1) zf ⟨?_,fun x hx=>?_,by rw[List.length_set];exact hR.l,by rw[List.length_set];exact hR.u,fun _=>by rw[UI,List.getElem?_set_self (by lia)];show 1<=4+x2;lia⟩
   ·rw[List.getElem?_set_ne (by decide)];exact hR.z
   ·rcases List.mem_or_eq_of_mem_set hx with h|h
    ·exact hR.n x h
    ·lia
 case c2 =>
 clear W1 e1 hR
 clear H1 R
 intro H1 R W1 e1 hR
 refine(show ∀(v:TS)(D:Ends),(∀(H1:Hp)(rm:Int),1<=rm->rm<=5->WI K st H H1 (B+41) z b wl tl dl rm [] []->H1 rl=some (.lst (R.map fun x=>V.int ((x:Nat):Int)))->v D [some (.ref st),some (.ref wl),some (.int way),some (.ref rl),none,none] H1)->(tSeq _ v:TS) D [some (.ref st),some (.ref wl),some (.int way),some (.ref rl),none,none] H1 from ?e1) _ _ ?e2
 case e1 =>
  intro v D hV
  refine(ex2q rfl ⟨rfl,(ex2q rfl (ite2 (fun _=>?_) (fun _=>nxtC (hV _ rm rm1 rm5 W1 e1))))⟩)
  refine(ex2q rfl ⟨wl,_,5,5,rfl,rfl,W1.w,rfl,?_⟩)
  have nw:rl≠wl:=fun e=>n1 (by rw[e];simp)
  exact hV _ 2 (by decide) (by decide) W1.room (by rw[zi nw];exact e1)
 case e2 =>
 clear W1 e1 rm1 rm5
 clear H1 rm
 intro H1 rm rm1 rm5 W1 e1
 refine(show ∀(v:TS)(D:Ends),(∀(H1:Hp)(y:Option V),WI K st H H1 (B+41) z b wl tl dl rm (tgs z b R R.length) []->v D [some (.ref st),some (.ref wl),some (.int way),some (.ref rl),y,none] H1)->(tSeq _ v:TS) D [some (.ref st),some (.ref wl),some (.int way),some (.ref rl),none,none] H1 from ?f1) _ _ ?f2
 case f1 =>
  intro v D hV
  have ru:=hR.u
  refine(ex2q rfl ⟨rl,(ex2q rfl ⟨.inl (SqL.of e1),(ex2q rfl ⟨by rw[ua];lia,by rw[ua];lia,yR (n:=(((R.map fun x=>V.int ((x:Nat):Int)).length:Nat):Int).toNat) (fun i σ H'=>∃y,σ=[some (.ref st),some (.ref wl),some (.int way),some (.ref rl),y,none]/\WI K st H H' (B+41) z b wl tl dl rm (tgs z b R i) []/\H' rl=some (.lst (R.map fun x=>V.int ((x:Nat):Int)))) ⟨none,rfl,W1,e1⟩ ?_ ?_⟩)⟩)⟩)
  ·rintro i σ H2 hi ⟨y,rfl,W2,e2⟩
   rw[ua]at hi
   have hi':i < R.length:=by lia
   obtain⟨ts,t1,t2⟩:=W2.t
   have tl24:ts.length<=15:=by rw[<- t2.1,VQ];lia
   have ez:(0:Int)+((i:Nat):Int)=((i:Nat):Int):=by lia
   refine(ex2q rfl (ixL W2.w aI2 ⟨.inl ⟨rfl,_,SqL.of t1⟩,(ex2q rfl (ex2q rfl ⟨wl,z,b,_,i,by rw[ez];rfl,W2.w,hz,?_⟩))⟩))
   refine(ex2q rfl (ex2q rfl ⟨rl,_,_,.int ((R.getD i 0:Nat):Int),rfl,rfl,SqL.of e2,by rw[ez];exact zL (by rw[ug,UI,uq hi'];rfl),?_⟩))
   refine(ex2q rfl (ex4q rfl rfl ⟨⟨by decide,by decide⟩,_,_,rfl,_,_,rfl,rfl,sN3,fun p hp=>⟨tl,(ex4q rfl rfl ⟨old hp t1,by rw[ua];lia,?_⟩)⟩⟩))
   have em:(1:Int)+(if(1:Int) < (0+((i:Nat):Int)) / 3 then 1 else(0+((i:Nat):Int)) / 3)=((1+min (i / 3) 1:Nat):Int):=by
    split<;>lia
   dsimp only
   rw[em]
   have s3:=zj hp (.tup [.str (nm z b i),.int ((R.getD i 0:Nat):Int),.int ((1+min (i / 3) 1:Nat):Int)])
   have W3:=W2.same s3
   have np:rl≠tl:=fun e=>n1 (by rw[e];simp)
   refine(ex2q rfl ⟨?_,?_⟩)
   ·rw[zcb]
    exact W3.addT (tg:=(nm z b i,R.getD i 0,1+min (i / 3) 1)) zf (s3 _ _ t1) (t2.keep fun _ _ z=>z.tk (.of s3))
   ·rw[zi np]
    exact s3 _ _ e2
  ·rintro σ H2 ⟨y,rfl,W2,e2⟩
   rw[ua,Ua]at W2
   exact hV _ y W2
 case f2 =>
 clear W1 e1
 clear H1
 intro H1 y W1
 refine(ex2q rfl ⟨by decide,by decide,yR (n:=(3:Int).toNat) (fun i σ H'=>∃(y1 y3:Option V)(D:List (Str×List Bool)),σ=[some (.ref st),some (.ref wl),some (.int way),some (.ref rl),y1,y3]/\WI K st H H' (B+41+12*i) z b wl tl dl rm (tgs z b R R.length) D/\D.map (·.1)=([nm z b 2,nm z b 1,nm z b 0]).take i/\∀d∈D,d.2.length<=3) ⟨y,none,[],rfl,W1,rfl,fun d h=>by cases h⟩ ?_ ?_⟩)
 ·rintro i σ H2 hi ⟨y1,y3,D,rfl,W2,eD,hD⟩
  have hi:i < 3:=hi
  refine(ex2q rfl ⟨st,4,(ex2q rfl ⟨W2.s,by lia,by decide,fun H4 r4 k4 S4 a0 a1=>(ex2q rfl ⟨by lia,by lia,?_⟩)⟩)⟩)
  have W4:=W2.go k4 S4
  refine yG (n:=r4.toNat) (fun j τ ys H'=>WI K st H H' (B+41+12*i+1+j) z b wl tl dl rm (tgs z b R R.length) D/\(∃y,τ=[some (.ref st),some (.ref wl),some (.int way),some (.ref rl),some (.int (0+(i:Nat))),y3,y])/\∃ms:List Bool,ys=ms.map V.bl/\ms.length=j) ⟨W4,⟨none,rfl⟩,[],rfl,rfl⟩ ?_ ?_
  ·rintro j τ ys H5 hj ⟨W5,⟨y,rfl⟩,ms,rfl,ml⟩
   refine(ex2q rfl ⟨st,3,(ex2q rfl ⟨W5.s,by lia,by decide,fun H6 r6 k6 S6 b0 b1=>(ex4q rfl rfl ⟨by rw[ua];lia,W5.go k6 S6,⟨_,rfl⟩,ms++[decide (0 < r6)],by rw[ui];rfl,by rw[ub,ml];rfl⟩)⟩)⟩)
  ·rintro τ ys H5 ⟨W5,_,ms,rfl,ml⟩ l6 g6
   have W6:=(W5.same (zj g6 (.lst (ms.map V.bl)))).mono (show _<=B+41+12*(i+1) by lia)
   have e6:=zf (H:=H5) (a:=l6) (o:=.lst (ms.map V.bl))
   have m9:ms.length<=3:=by lia
   dsimp only
   generalize upd H5 l6 (.lst (ms.map V.bl))=H6 at *
   refine(show ∀(v:TS)(D':Ends),(∀(H7:Hp)(l7:Addr)(ms:List Bool),ms.length<=3->WI K st H H7 (B+41+12*(i+1)) z b wl tl dl rm (tgs z b R R.length) D->H7 l7=some (.lst (ms.map V.bl))->v D' [some (.ref st),some (.ref wl),some (.int way),some (.ref rl),some (.int (0+(i:Nat))),some (.ref l7)] H7)->(tSeq _ v:TS) D' [some (.ref st),some (.ref wl),some (.int way),some (.ref rl),some (.int (0+(i:Nat))),some (.ref l6)] H6 from ?g1) _ _ ?g2
   case g1 =>
    intro v D' hV
    refine(ex2q rfl ⟨rfl,(ex2q rfl (ite2 (fun _=>?_) (fun _=>nxtC (hV _ l6 ms m9 W6 e6))))⟩)
    refine(ex2q rfl ⟨l6,rfl,⟨_,SqL.of e6⟩,yL (xs:=ms.map V.bl) (fun j τ ys H'=>H6=H'/\(∃y,τ=[some (.ref st),some (.ref wl),some (.int way),some (.ref rl),some (.int (0+(i:Nat))),some (.ref l6),y])/\∃ns:List Bool,ys=ns.map V.bl/\ns.length=j) ⟨rfl,⟨none,rfl⟩,[],rfl,rfl⟩ (fun i τ ys H' _ h=>by rw[<- h.1];exact SqL.of e6) ?_ ?_⟩)
    ·rintro j v τ ys H' hv ⟨rfl,⟨y,rfl⟩,ns,rfl,nl⟩
     have hj:=(uf.mp hv).1
     rw[ua]at hj
     exact⟨by rw[ua];lia,rfl,⟨_,rfl⟩,ns++[true],by rw[ui];rfl,by rw[ub,nl];rfl⟩
    ·rintro τ ys H' ⟨rfl,_,ns,rfl,nl⟩ l7 g7
     rw[ua]at nl
     exact hV _ l7 ns (by lia) (W6.same (zj g7 _)) zf
   case g2 =>
   clear W6 e6 m9 ml W5
   intro H7 l7 ms m9 W7 e7
   obtain⟨us,u1,u2⟩:=W7.d
   have lD:D.length=i:=by
    have:=congrArg List.length eD
    rw[ua,uM]at this
    have:min i [nm z b 2,nm z b 1,nm z b 0].length=i:=by show min i 3=i;lia
    lia
   have ul:us.length<=3:=by rw[<- u2.1];lia
   refine(ex2q rfl (ixL W7.w aI3 ⟨.inl ⟨rfl,_,SqL.of u1⟩,(ex2q rfl (ex2q rfl (ex4q rfl rfl ⟨wl,z,b,_,2-i,?_,W7.w,hz,?_⟩)))⟩))
   ·show[V.ref wl,V.int (2-(0+((i:Nat):Int)))]=_
    rw[show(2:Int)-(0+((i:Nat):Int))=((2-i:Nat):Int) by lia]
   refine(ex2q rfl ⟨l7,(ex2q rfl (.inl ⟨SqL.of e7,fun q1 h1=>⟨sN2,fun q2 h2=>⟨dl,(ex4q rfl rfl ⟨old h2 (old h1 u1),by rw[ua];lia,?_⟩)⟩⟩⟩))⟩)
   have s8:=(zj h1 (.tup (ms.map V.bl))).new (o:=.tup [.str (nm z b (2-i)),.ref q1]) h2
   have W8:=W7.same s8
   refine⟨_,_,D++[(nm z b (2-i),ms)],rfl,W8.addD (df:=(nm z b (2-i),ms)) ⟨q1,zf,old h2 zf⟩ (s8 _ _ u1) (u2.keep fun _ _ z=>z.tk (.of s8)),?_,fun d hd=>?_⟩
   ·rw[ui,eD]
    have a:i=0\/i=1\/i=2:=by lia
    rcases a with rfl|rfl|rfl<;>rfl
   ·rcases uv.mp hd with h|h
    ·exact hD d h
    ·rw[uB.mp h];exact m9
 ·rintro σ H2 ⟨y1,y3,D,rfl,W2,eD,hD⟩
  obtain⟨ts,t1,t2⟩:=W2.t
  obtain⟨us,u1,u2⟩:=W2.d
  have er:rm=((rm.toNat:Nat):Int):=(Int.toNat_of_nonneg (by lia)).symm
  have W2w:=W2.w
  rw[er]at W2w
  refine(ex2q rfl (q _ wl ⟨z,b,tgs z b R R.length,D⟩ rm.toNat W2.k (W2.s.mono (by show B+41+12*3<=_;lia)) (zcc hz hR eD hD) ⟨tl,dl,ts,us,W2w,t1,t2,u1,u2⟩ (fun e=>?_) (by lia)))
  have e:(tgs z b R R.length).length=4:=e
  rw[VQ]at e
  exact⟨_,VR z b R (by lia),hR.p e⟩
end
end GN
namespace L2
open PySem PySem.Spec PyProof.Rows
section
variable{X:Cx}
theorem Qt:jCa X (.type "int") (fun xs H Q=>(∃i,xs=[.int i]/\Q (.int i) H)\/∃k,xs=[.bl k]/\Q (.int (if k then 1 else 0)) H):=⟨Xp⟩
end
section
variable{X:Cx}{Ch:Addr}{x n z:Str}{i j k:Nat}{np hpos tpos pz spos:Pos}{b0:Stmt}{suite:List Stmt}{th:Addr->Obj->TS}{ps:List Str}{sp:Sp}{y:Str}{p cpos:Pos}{a:Expr}{as:List Expr}{t:TA}
end
end L2
namespace GN
open PySem L2 K11
structure DfW(d:Df):Prop where
 an:AnOk d
 a:∀k∈d.b.atk,k=""
 m:∀q∈d.b.mks,q.2=""
 dp:d.b.dp+d.b.cd<=160
 l:d.b.lo=[]
theorem DfW.of{g:Str}{ps:List Str}{os:List Bool}{b:Bd}{d s c:Nat}(h:RG b d s c)(hp:ps.length<=1000)(h1:d+c<=160)(h2:2 ^ c*s<=1000000)(h3:s<=100000):DfW ⟨g,ps,os,b⟩:=by
 have a1:=h.dp;have a2:=h.sz;have a3:=h.cd;have a4:=h.bn
 exact⟨⟨hp,by show b.binds.length<=_;lia,uD (Nat.mul_le_mul (UB (by decide) a3) a2) h2⟩,h.a,h.m,by show b.dp+b.cd<=_;lia,h.l⟩
theorem WlX.setA{K:uc}{H:Hp}{st wl:Addr}{o:Wg}{a r B a':Nat}(h:WlX H wl o a r)(S:Sta K H st B):∃xs,H wl=some (.lst xs)/\ixN xs.length 4=some 4/\WlX (upd H wl (.lst (xs.set 4 (.int (a':Nat))))) wl o a' r/\Sta K (upd H wl (.lst (xs.set 4 (.int (a':Nat))))) st B/\Kw st wl H (upd H wl (.lst (xs.set 4 (.int (a':Nat))))):=by
 obtain⟨tl,dl,h1,h2,h3,h4⟩:=h.put S (a':=a')
 exact⟨_,h1,rfl,h2,h3,h4⟩
def Xe(K:uc):Sp:=fun vs H Q _=>∃(st wl:Addr)(o:Wg)(a r B rm bb:Nat),vs=[.ref st,.ref wl,.int (rm:Nat)]/\bB 5+200<=bb/\WgOk o/\WlX H wl o a r/\(o.T.length=4->∃tg,o.T[3]?=some tg/\1<=tg.2.1)/\rm<=5/\Sta K H st B/\B+3*bb+2000 < LIM/\∀H' p ds,Kw st wl H H'->IsCode H' ds p->ds.length<=3->(∀d∈ds,DfW d)->Q (.ref p) H'
theorem ZK{z:Str}{b:Bool}:∀{n:Nat},n<=1000->((Uw n).map fun k=>nm z b k).Nodup
 |0,_=>List.nodup_nil
 |n+1,h=>by
  rw[List.range_succ,ui,List.nodup_append]
  refine⟨ZK (by lia),by simp,fun x hx y hy e=>?_⟩
  obtain⟨i,hi,rfl⟩:=uG.mp hx
  rw[List.mem_range]at hi
  have hy:y=nm z b n:=by simpa using hy
  rw[hy]at e
  have:=wX (by lia) (by lia) e
  lia
section
variable{P:Program}{w:World}{K:uc}{mg:Str->Option Value}{base:Heap}{f:Addr}{fd:FuncData}
theorem scLCode:FnScope ["_law_state","_law_world_here","_law_room","_law_defs","_law_name_here","_law_modes","_law_params","_law_mine","_law_lent","_law_body_here","_law_some_here"] lS15 (zo Yb):=.ok
theorem VV:(["_law_state","_law_world_here","_law_room","_law_defs","_law_name_here","_law_modes","_law_params","_law_mine","_law_lent","_law_body_here","_law_some_here","_law_k"]:List Str).Nodup:=by decide +kernel
theorem wu:(["_law_state","_law_world_here","_law_room","_law_defs","_law_name_here","_law_modes","_law_params","_law_mine","_law_lent","_law_body_here","_law_some_here","_law_param","_law_own"]:List Str).Nodup:=by decide +kernel
theorem vN:(["_law_state","_law_world_here","_law_room","_law_defs","_law_name_here","_law_modes","_law_params","_law_mine","_law_lent","_law_body_here","_law_some_here","_law_tag","_law_size","_law_kind"]:List Str).Nodup:=by decide +kernel
theorem VW(F:Fun K "_law_code" "_law_code" Yb f fd)(GD:Ca P w K mg base CX0 1 "_law_draw" lS3 (yp K))(GM:Ca P w K mg base CX0 1 "_law_name" lS7 spNm)(GC:Ca P w K mg base CX0 4 "_law_chain" lS13 (Xc K))(GB:Ca P w K mg base CX0 20 "_law_body" lS0 (yv K 5))(m_len:mg "len"=none)(m_range:mg "range"=none)(m_tuple:mg "tuple"=none)(m_zip:mg "zip"=none)(m_int:mg "int"=none):FnOk P w K mg base CX0 21 f fd lS15 (Xe K):=by
 refine F.by scLCode (fun vs H Q E h=>?_) (fun cdv A' outer s H vs Q E hr h=>?_)
 ·obtain⟨st,wl,o,a,r,B,rm,bb,rfl,_⟩:=h
  rfl
 obtain⟨st,wl,o,a0,r,B,rm,bb,rfl,hbb,hok,hw,hT4,hrm,hS,hB,q⟩:=h
 have hr1:Room 1 _:=hr.mono (by decide)
 have hr4:Room 4 _:=hr.mono (by decide)
 refine⟨_,
  (zg (sE 3 scLCode.nd (zy zD))
  (zg (zM PassesOwn.never rfl (ye (xL 1)) (xm rfl (zA (gN 4 scLCode.nd) (zA (gN 5 scLCode.nd) ym)))
   (zg (yY (zu jm (zG Qt rfl m_int PyProof.Rows.boot_int (jA1 (yu zx (jv 2) zn (yO _)))) (zu zN zn (cA GD hr1 (jA2 (jv 0) zn)))) (xz (jv 1) zn))
   (zg (yg ["_law_k"] (i:=6) scLCode.nd rfl (Or.inl rfl) rfl (zV rfl m_range (jA1 (jL m_len (jv 5)))) (fun _ _ _ _ _=>(gN 11 VV)) (fun _ _ _ _ _=>zW) (fun _ _ _ _ _=>(cA GM hr1 (jA2 (jv 1) (jv 11)))))
   (zg (yg ["_law_param","_law_own"] (i:=7) scLCode.nd rfl (Or.inl rfl) rfl (Z2 rfl m_zip (jA2 (jv 6) (jv 5))) (fun _ _ _ _ _=>(wV K (n:=2) rfl (zA (gN 11 wu) (zA (gN 12 wu) ym)))) (fun _ _ _ _ _=>(xR (zX (jv 12)))) (fun _ _ _ _ _=>(jv 11)))
   (zg (yg ["_law_param","_law_own"] (i:=8) scLCode.nd rfl (Or.inl rfl) rfl (Z2 rfl m_zip (jA2 (jv 6) (jv 5))) (fun _ _ _ _ _=>(wV K (n:=2) rfl (zA (gN 11 wu) (zA (gN 12 wu) ym)))) (fun _ _ _ _ _=>(xR (xH (zX (jv 12))))) (fun _ _ _ _ _=>(jv 11)))
   (zg (zw (jW.pt (z9 (tN (zaS hr1) (jv 7) (zy zD)) (z9 (tN zx (jL m_len (xL 1)) zn) (yc (tN zx (cA GD hr1 (jA2 (jv 0) zn)) zn)))))
    (zh (sE 9 scLCode.nd (cA GC hr4 (jA4 (jv 0) (jv 7) (jL m_len (jv 6)) (jv 1)))))
    (zh (sE 9 scLCode.nd (cA GB hr (jA6 (jv 0) (jv 7) (jv 8) (jL m_len (jv 6)) (jv 2) (jv 1))))))
   (zh (zO (yf ur uE uF zI (jv 3) (jA1 (zt (jA4 (jv 4) (zG zB rfl m_tuple uI (jA1 (jv 6))) (jv 5) (jv 9)))))))))))))
  (zg (yg ["_law_tag","_law_size","_law_kind"] (i:=10) scLCode.nd rfl (Or.inl rfl) rfl (ye (xL 1)) (fun _ _ _ _ _=>(wV K (n:=3) rfl (zA (gN 11 vN) (zA (gN 12 vN) (zA (gN 13 vN) ym))))) (fun _ _ _ _ _=>zW) (fun _ _ _ _ _=>(zt (jA2 (jv 11) (jv 12)))))
  (zh (zp (zt (jA2 (zt (jA2 (zG zB rfl m_tuple uI (jA1 (yk YE (jv 10) yz (yA zn)))) (zG zB rfl m_tuple uI (jA1 (yk YE (jv 10) (yA zn) yz))))) (zG zB rfl m_tuple uI (jA1 (jv 3)))))))))),?_⟩
 have LM:LIM=4611686018427387904:=rfl
 have sl':=zK
 have b1000:=(ZI 5).2.2
 obtain⟨tl,dl,ts,us,x1,x2,x3,x4,x5⟩:=id hw
 have ul:us.length=3:=by rw[<- x5.1];exact hok.Dn
 have dls:=hS.neR x4
 have dlw:=hw.neR x4
 refine(show ∀(v:TS)(D:Ends),(∀(H1:Hp)(ld:Addr)(os:List Addr)(ds:List Df)(y4 y5 y6 y7 y8 y9:Option V),Kw st wl H H1->Sta K H1 st (B+3*bb)->(∃a',WlX H1 wl o a' r)->H1 ld=some (.lst (os.map V.ref))->IsDfs H1 ds os->ds.length<=3->(∀d∈ds,DfW d)->v D [some (.ref st),some (.ref wl),some (.int (rm:Nat)),some (.ref ld),y4,y5,y6,y7,y8,y9,none] H1)->(tSeq _ (tSeq _ v):TS) D [some (.ref st),some (.ref wl),some (.int (rm:Nat)),none,none,none,none,none,none,none,none] H from ?a1) _ _ ?a2
 case a1 =>
  intro v D hV
  refine⟨sN0,fun ld gd=>?_⟩
  have s1:=zj gd (.lst [])
  have e1:=zf (H:=H) (a:=ld) (o:=.lst [])
  have w1:=hw.kp hS (Kp.of s1)
  have S1:=hS.same s1
  have lds:=hS.ne gd
  have ldw:ld≠wl:=fun e=>by rw[e,x1]at gd;cases gd
  dsimp only
  generalize upd H ld (.lst [])=H1 at *
  refine(ex2q rfl (ixL (s1 _ _ x1) aI3 ⟨dl,rfl,⟨_,SqL.of (s1 _ _ x4)⟩,yQ (xs:=us.map V.ref) (fun i σ H'=>∃(os:List Addr)(ds:List Df)(y4 y5 y6 y7 y8 y9:Option V),σ=[some (.ref st),some (.ref wl),some (.int (rm:Nat)),some (.ref ld),y4,y5,y6,y7,y8,y9,none]/\Kw st wl H H'/\Sta K H' st (B+i*bb)/\(∃a',WlX H' wl o a' r)/\H' ld=some (.lst (os.map V.ref))/\IsDfs H' ds os/\ds.length=i/\∀d∈ds,DfW d) ⟨[],[],none,none,none,none,none,none,rfl,.of s1,S1.mono (by lia),⟨_,w1⟩,e1,⟨rfl,fun i d o h=>by simp at h⟩,rfl,fun d h=>by cases h⟩ (fun i σ H' _ h=>?_) ?_ ?_⟩))
  ·obtain⟨_,_,_,_,_,_,_,_,_,k,_⟩:=h
   exact SqL.of (k.k _ _ dls dlw x4)
  ·rintro i v σ H2 hv ⟨os,ds,y4,y5,y6,y7,y8,y9,rfl,k2,S2,⟨a2,w2⟩,e2,I2,dl2,hG⟩
   rw[ug]at hv
   obtain⟨t,ht,rfl⟩:=uj.mp hv
   have hi:i < 3:=by have:=(uf.mp ht).1;lia
   obtain⟨⟨g,ms⟩,ed,qm,d1,d2⟩:=x5.at ht
   have dm:=uw ed
   have lms:ms.length<=3:=hok.D _ dm
   have im:(i+1)*bb=i*bb+bb:=Nat.succ_mul _ _
   have i3:(i+1)*bb<=3*bb:=uU _ (by lia)
   have t2:=k2.tups hS hw
   have od:os.length=i:=by have:=I2.1;lia
   refine⟨t,(ex2q rfl ⟨SqT.of (t2 _ _ d1),rfl,_,_,rfl,_,_,rfl,rfl,?_⟩)⟩
   refine cut4 fun r1_ hr1_=>?_
   refine(ex2q rfl ⟨rfl,.inr (ex2q rfl ?_)⟩)
   refine(ex2q rfl ⟨st,25,(ex2q rfl ⟨S2,by lia,by decide,fun H5 r5 k5 S5 a0 a1=>(ex4q rfl rfl (ex4q rfl rfl ⟨.inl ⟨by split<;>decide,by split<;>decide⟩,?_⟩))⟩)⟩)
   have w5:=w2.kp S2 k5
   obtain⟨m5,hm5,m34⟩:∃m5:Nat,(if decide (V.int ((rm:Nat):Int)=V.int 2)=true then(1:Int)else 0)*(10+r5)=((m5:Nat):Int)/\m5<=34:=by
    cases decide (V.int ((rm:Nat):Int)=V.int 2)with
    |true=>exact⟨(10+r5).toNat,by rw[if_pos rfl];lia,by lia⟩
    |false=>exact⟨0,by rw[if_neg (by decide)];lia,by lia⟩
   dsimp only
   rw[hm5]
   obtain⟨xs6,z1,z2,w6,S6,k6⟩:=w5.setA S5 (a':=m5)
   refine(ex2q rfl ⟨wl,xs6,4,4,rfl,rfl,z1,z2,?_⟩)
   have k26:Kw st wl H2 (upd H5 wl (.lst (xs6.set 4 (.int ((m5:Nat):Int))))):=(Kw.kp k5).trans k6
   dsimp only
   generalize upd H5 wl (.lst (xs6.set 4 (.int ((m5:Nat):Int))))=H6 at *
   clear k5 k6 z1 z2 w5 S5 hm5
   have t26:=k26.tups S2 w2
   have t06:=t2.trans t26
   have qm6:=t06 _ _ d2
   have e6:=k26.k _ _ lds ldw e2
   have I6:=I2.keep t26
   dsimp only at qm6
   obtain⟨tl6,dl6,ts6,us6,x61,x62,x63,_⟩:=id w6
   refine(ex2q rfl ⟨qm,(ex2q rfl ⟨.inr (SqT.of qm6),(ex2q rfl ⟨by rw[ua];lia,by rw[ua];lia,yG (n:=(((ms.map V.bl).length:Nat):Int).toNat) (fun j τ ys H'=>H6=H'/\(∃y,τ=[some (.ref st),some (.ref wl),some (.int (rm:Nat)),some (.ref ld),some (.str g),some (.ref qm),y6,y7,y8,y9,none,y])/\ys=((Uw j).map fun k=>nm o.z o.b k).map V.str) ⟨rfl,⟨none,rfl⟩,rfl⟩ ?_ ?_⟩)⟩)⟩)
   ·rintro j τ ys H' hj ⟨rfl,⟨y,rfl⟩,rfl⟩
    rw[ua]at hj
    refine(ex2q rfl (ex2q rfl ⟨wl,o.z,o.b,_,j,?_,x61,hok.z,by rw[ua,ua,List.length_range];lia,rfl,⟨_,rfl⟩,by rw[List.range_succ,ui,ui];rfl⟩))
    show[V.ref wl,V.int (0+((j:Nat):Int))]=_
    rw[show(0:Int)+((j:Nat):Int)=((j:Nat):Int) by lia]
   rintro τ ys H' ⟨rfl,_,rfl⟩ lp gp
   have ep:(((ms.map V.bl).length:Nat):Int).toNat=ms.length:=by rw[ua];lia
   rw[ep]
   have nd:=ZK (z:=o.z) (b:=o.b) (n:=ms.length) (by lia)
   have pl:((Uw ms.length).map fun k=>nm o.z o.b k).length=ms.length:=by rw[ua,List.length_range]
   generalize ((Uw ms.length).map fun k=>nm o.z o.b k)=ps at *
   have s7:=zj gp (.lst (ps.map V.str))
   have e7:=zf (H:=H6) (a:=lp) (o:=.lst (ps.map V.str))
   have qm7:=s7 _ _ qm6
   dsimp only
   generalize upd H6 lp (.lst (ps.map V.str))=H7 at *
   have pm:(ps.map V.str).length=(ms.map V.bl).length:=by rw[ua,ua,pl]
   refine(ex2q rfl (ex2q rfl ⟨lp,qm,true,false,_,_,rfl,SqK.l e7,SqK.t qm7,Yg (k:=true) (m:=false) (xs:=ps.map V.str) (ys:=ms.map V.bl) pm (fun i τ zs H'=>Same H7 H'/\(∃y y',τ=[some (.ref st),some (.ref wl),some (.int (rm:Nat)),some (.ref ld),some (.str g),some (.ref qm),some (.ref lp),y7,y8,y9,none,y,y'])/\∃ws:List Str,zs=ws.map V.str/\ws.length<=i) ⟨Same.refl _,⟨none,none,rfl⟩,[],rfl,ud _⟩ (fun i τ zs H' _ h=>⟨SqK.l (h.1 _ _ e7),SqK.t (h.1 _ _ qm7)⟩) ?_ ?_⟩))
   ·rintro j x y T τ zs H' hx hy hT ⟨s8,⟨y1,y2,rfl⟩,ws,rfl,wl8⟩
    rw[ug]at hx hy
    obtain⟨n,hn',rfl⟩:=uj.mp hx
    obtain⟨b,hb',rfl⟩:=uj.mp hy
    have hj:j < ms.length:=(uf.mp hb').1
    exact⟨T,(ex2q rfl ⟨SqT.of zf,rfl,_,_,rfl,_,_,rfl,rfl,(ex2q rfl ⟨b,rfl,ite2 (fun _=>(ex2q rfl ⟨by rw[ua];lia,s8.new hT,⟨_,_,rfl⟩,ws++[n],by rw[ui];rfl,by rw[ub];show ws.length+1<=_;lia⟩)) (fun _=>⟨s8.new hT,⟨_,_,rfl⟩,ws,rfl,by lia⟩)⟩)⟩)⟩
   rintro τ zs H8 ⟨s8,_,n0,rfl,nl0⟩ lm gm
   rw[ua,pl]at nl0
   have s9:=s8.new (o:=.lst (n0.map V.str)) gm
   have e9:=zf (H:=H8) (a:=lm) (o:=.lst (n0.map V.str))
   have e79:=s9 _ _ e7
   have qm9:=s9 _ _ qm7
   dsimp only
   generalize upd H8 lm (.lst (n0.map V.str))=H9 at *
   refine(ex2q rfl (ex2q rfl ⟨lp,qm,true,false,_,_,rfl,SqK.l e79,SqK.t qm9,Yg (k:=true) (m:=false) (xs:=ps.map V.str) (ys:=ms.map V.bl) pm (fun i τ zs H'=>Same H9 H'/\(∃y y',τ=[some (.ref st),some (.ref wl),some (.int (rm:Nat)),some (.ref ld),some (.str g),some (.ref qm),some (.ref lp),some (.ref lm),y8,y9,none,y,y'])/\∃ws:List Str,zs=ws.map V.str/\ws.length<=i) ⟨Same.refl _,⟨none,none,rfl⟩,[],rfl,ud _⟩ (fun i τ zs H' _ h=>⟨SqK.l (h.1 _ _ e79),SqK.t (h.1 _ _ qm9)⟩) ?_ ?_⟩))
   ·rintro j x y T τ zs H' hx hy hT ⟨s8,⟨y1,y2,rfl⟩,ws,rfl,wl8⟩
    rw[ug]at hx hy
    obtain⟨n,hn',rfl⟩:=uj.mp hx
    obtain⟨b,hb',rfl⟩:=uj.mp hy
    have hj:j < ms.length:=(uf.mp hb').1
    exact⟨T,(ex2q rfl ⟨SqT.of zf,rfl,_,_,rfl,_,_,rfl,rfl,(ex2q rfl ⟨b,rfl,ite2 (fun _=>(ex2q rfl ⟨by rw[ua];lia,s8.new hT,⟨_,_,rfl⟩,ws++[n],by rw[ui];rfl,by rw[ub];show ws.length+1<=_;lia⟩)) (fun _=>⟨s8.new hT,⟨_,_,rfl⟩,ws,rfl,by lia⟩)⟩)⟩)⟩
   rintro τ zs H10 ⟨s10,_,n1,rfl,nl1⟩ ll gl
   rw[ua,pl]at nl1
   have s11:=s10.new (o:=.lst (n1.map V.str)) gl
   have e11:=zf (H:=H10) (a:=ll) (o:=.lst (n1.map V.str))
   dsimp only
   generalize upd H10 ll (.lst (n1.map V.str))=H11 at *
   have e911:=s11 _ _ e9
   have e711:=s11 _ _ e79
   have s611:=(s7.trans s9).trans s11
   have w11:=w6.kp S6 (Kp.of s611)
   have S11:=S6.same s611
   have e6d:=s611 _ _ e6
   have I11:=I6.keep (.of s611)
   have qm11:=s611 _ _ qm6
   have k11:Kw st wl H H11:=k2.trans (k26.trans (.of s611))
   have tl11:=s611 _ _ x62
   have wl11:=s611 _ _ x61
   have Tn6:=x63.1
   subst hr1_
   refine(show ∀(u:TS)(D:Ends),(∀(H13:Hp)(pb:Addr)(b:Bd)(m13:Nat),Kw st wl H11 H13->Sta K H13 st (B+i*bb+bb)->WlX H13 wl o m13 r->IsBd H13 b pb->DfW ⟨g,ps,ms,b⟩->u D [some (.ref st),some (.ref wl),some (.int (rm:Nat)),some (.ref ld),some (.str g),some (.ref qm),some (.ref lp),some (.ref lm),some (.ref ll),some (.ref pb),none] H13)->(tSeq (tIfS _ _ _) u:TS) D [some (.ref st),some (.ref wl),some (.int (rm:Nat)),some (.ref ld),some (.str g),some (.ref qm),some (.ref lp),some (.ref lm),some (.ref ll),y9,none] H11 from ?key) _ _ ?rst
   case key =>
    intro u D hV
    refine(show ∀(x y:TS),(0 < n0.length->o.T.length=4->∀(D':Ends)(H12:Hp),D'.nx=u D->Kp st H11 H12->Sta K H12 st (B+i*bb+2)->x D' [some (.ref st),some (.ref wl),some (.int (rm:Nat)),some (.ref ld),some (.str g),some (.ref qm),some (.ref lp),some (.ref lm),some (.ref ll),y9,none] H12)->(∀(D':Ends)(H12:Hp),D'.nx=u D->Kp st H11 H12->Sta K H12 st (B+i*bb+2)->y D' [some (.ref st),some (.ref wl),some (.int (rm:Nat)),some (.ref ld),some (.str g),some (.ref qm),some (.ref lp),some (.ref lm),some (.ref ll),y9,none] H12)->(tSeq (tIfS _ x y) u:TS) D [some (.ref st),some (.ref wl),some (.int (rm:Nat)),some (.ref ld),some (.str g),some (.ref qm),some (.ref lp),some (.ref lm),some (.ref ll),y9,none] H11 from ?k1) _ _ ?k2 ?k3
    case k1 =>
     intro x y hx hy
     refine(ex2q rfl ⟨sN0,fun l3 f3=>?_⟩)
     have s3:=zj (o:=.lst []) f3
     refine⟨lm,l3,(ex2q rfl ⟨rfl,SqL.of (s3 _ _ e911),SqL.of zf,(ex2q rfl ?_)⟩)⟩
     have S3:=S11.same s3
     refine ite2 (fun c=>?_) (fun c=>iteF (hy _ _ rfl (.of s3) (S3.mono (by lia))))
     have c0:0 < n0.length:=by
      cases n0 with
      |nil=>exact absurd c (by decide)
      |cons a l=>exact Nat.succ_pos _
     refine(ex2q rfl (ixL (s3 _ _ wl11) aI2 ⟨tl6,(ex2q rfl ⟨.inl (SqL.of (s3 _ _ tl11)),rfl,(ex2q rfl ?_)⟩)⟩))
     refine ite2 (fun c2=>?_) (fun c2=>iteF (hy _ _ rfl (.of s3) (S3.mono (by lia))))
     have c4:o.T.length=4:=by
      rw[decide_eq_true_eq,ua]at c2
      have:=V.int.inj c2
      lia
     refine(ex2q rfl ⟨st,3,(ex2q rfl ⟨S3,by lia,by decide,fun H12 r12 k12 S12 _ _=>⟨rfl,(ex2q rfl ?_)⟩⟩)⟩)
     exact ite2 (fun _=>hx c0 c4 _ _ rfl ((Kp.of s3).trans k12) S12) (fun _=>hy _ _ rfl ((Kp.of s3).trans k12) S12)
    case k2 =>
     intro c0 c4 D' H12 hD k12 S12
     have lm12:=k12.k _ _ (S11.neS e911) e911
     have lp12:=k12.k _ _ (S11.neS e711) e711
     have w12:=w11.kp S11 k12
     refine(ex2q rfl (ex2q rfl (ex2q rfl ⟨lp,(ex2q rfl ⟨.inl (SqL.of lp12),(ex2q rfl ⟨st,lm,wl,n0,ps.length,_,o,by rw[ua];rfl,hok,w12.gen,S12,lm12,c0,by lia,hT4 c4,by lia,fun H13 pb b k13 S13 hb hg=>?_⟩)⟩)⟩)))
     rw[hD]
     exact hV H13 pb b m5 (.kp (k12.trans k13)) (S13.mono (by lia)) (w12.kp S12 k13) hb (.of hg (by lia) (by decide) (by decide) (by decide))
    case k3 =>
     intro D' H12 hD k12 S12
     have lm12:=k12.k _ _ (S11.neS e911) e911
     have ll12:=k12.k _ _ (S11.neS e11) e11
     have lp12:=k12.k _ _ (S11.neS e711) e711
     have w12:=w11.kp S11 k12
     refine(ex2q rfl (ex2q rfl (ex2q rfl (ex2q rfl ⟨lp,(ex2q rfl ⟨.inl (SqL.of lp12),(ex2q rfl (ex2q rfl ⟨st,lm,ll,wl,n0,n1,ps.length,(rm:Nat),_,m5,r,o,by rw[ua];rfl,⟨hok,w12,S12,m34,lm12,ll12,by lia,by lia⟩,by lia,ud _,by lia,fun H13 pb b m13 k13 S13 w13 _ hb hg=>?_⟩))⟩)⟩))))
     rw[hD]
     have hg':=hg.mono (d':=154) (s':=31681) (c':=2) (by unfold dB;lia) (by decide) (by decide)
     exact hV H13 pb b m13 ((Kw.kp k12).trans k13) (S13.mono (by lia)) w13 hb (.of hg' (by lia) (by decide) (by decide) (by decide))
   intro H13 pb b m13 k13 S13 w13 ib gb
   have lpst:=S11.neS e711
   have lpwl:=w11.neS e711
   have e13:=k13.k _ _ lds ldw e6d
   have p13:=k13.k _ _ lpst lpwl e711
   have t13:=k13.tups S11 w11
   refine(ex2q rfl ⟨.inl ⟨rfl,_,SqL.of e13⟩,(ex2q rfl (ex2q rfl ⟨lp,(ex2q rfl (.inl ⟨SqL.of p13,fun q1 h1=>(ex2q rfl (ex2q rfl ⟨sN4,fun q2 h2=>⟨ld,(ex4q rfl rfl ⟨old h2 (old h1 e13),by rw[ua];lia,?_⟩)⟩⟩))⟩))⟩))⟩)
   have s14:=(zj h1 (.tup (ps.map V.str))).new (o:=.tup [.str g,.ref q1,.ref qm,.ref pb]) h2
   have S14:=S13.same s14
   have w14:=w13.kp S13 (Kp.of s14)
   have k14:Kw st wl H (upd (upd H13 q1 (.tup (ps.map V.str))) q2 (.tup [.str g,.ref q1,.ref qm,.ref pb])):=k11.trans (k13.trans (.of s14))
   have I14:IsDfs (upd (upd H13 q1 (.tup (ps.map V.str))) q2 (.tup [.str g,.ref q1,.ref qm,.ref pb])) (ds++[⟨g,ps,ms,b⟩]) (os++[q2]):=((I11.keep t13).keep (.of s14)).snoc ⟨q1,qm,pb,zf,old h2 zf,s14 _ _ (t13 _ _ qm11),ib.keep (.of s14)⟩
   have e14:=s14 _ _ e13
   generalize upd (upd H13 q1 (.tup (ps.map V.str))) q2 (.tup [.str g,.ref q1,.ref qm,.ref pb])=H14 at *
   have tp:Tups H14 (upd H14 ld (.lst (os.map V.ref++[.ref q2]))):=fun c xs q=>by
    rw[zi (fun x=>by rw[x,e14]at q;cases q)]
    exact q
   refine⟨os++[q2],ds++[⟨g,ps,ms,b⟩],_,_,_,_,_,_,rfl,k14.put gd,(hS.putS gd k14.s S14).mono (by lia),⟨_,hw.putN hS k14 gd e14 w14⟩,by rw[zf,ui];rfl,I14.keep tp,by rw[ub,dl2];rfl,fun d hd=>?_⟩
   rcases uv.mp hd with h|h
   ·exact hG d h
   ·rw[uB.mp h];exact gb
  ·rintro σ H2 ⟨os,ds,y4,y5,y6,y7,y8,y9,rfl,k2,S2,w2,e2,I2,eo,hG⟩
   rw[ua,ul]at S2 eo
   exact hV _ _ _ _ _ _ _ _ _ _ k2 S2 w2 e2 I2 (by lia) hG
 case a2 =>
 intro H1 ld os ds y4 y5 y6 y7 y8 y9 k1 S1 ⟨m1,w1⟩ e1 I1 eo hG
 obtain⟨tl1,dl1,ts1,us1,v1,v2,v3,v4,v5⟩:=id w1
 have tl24:ts1.length<=15:=by rw[<- v3.1];exact hok.Tn
 have ol:os.length<=3:=by have:=I1.1;lia
 refine(ex2q rfl (ixL v1 aI2 ⟨tl1,rfl,⟨_,SqL.of v2⟩,yL (xs:=ts1.map V.ref) (fun i τ ys H'=>Same H1 H'/\(∃a b c,τ=[some (.ref st),some (.ref wl),some (.int (rm:Nat)),some (.ref ld),y4,y5,y6,y7,y8,y9,none,a,b,c])/\ys.length=i) ⟨Same.refl _,⟨none,none,none,rfl⟩,rfl⟩ (fun i τ ys H' _ h=>SqL.of (h.1 _ _ v2)) ?_ ?_⟩))
 ·rintro i v τ ys H2 hv ⟨s2,⟨a,b,c,rfl⟩,yl⟩
  rw[ug]at hv
  obtain⟨t,ht,rfl⟩:=uj.mp hv
  have hi:=(uf.mp ht).1
  obtain⟨tg,_,hR⟩:=v3.at ht
  exact⟨t,(ex2q rfl ⟨SqT.of (s2 _ _ hR),rfl,_,_,rfl,_,_,rfl,_,_,rfl,rfl,(ex2q rfl (ex2q rfl ⟨sN2,fun p hp=>⟨by lia,s2.new hp,⟨_,_,_,rfl⟩,by rw[ub,yl];rfl⟩⟩))⟩)⟩
 rintro τ ys H2 ⟨s2,_,yl⟩ l3 g3
 have s3:=s2.new (o:=.lst ys) g3
 have e3:=zf (H:=H2) (a:=l3) (o:=.lst ys)
 dsimp only
 generalize upd H2 l3 (.lst ys)=H3 at *
 refine(ex2q rfl ⟨3,rfl,l3,(ex2q rfl ⟨SqL.of e3,fun l4 g4=>⟨l4,(ex2q rfl (.inl ⟨SqL.of zf,fun l5 g5=>?_⟩))⟩⟩)⟩)
 have s5:=(s3.new (o:=.lst (cutV ys none (some 3))) g4).new (o:=.tup (cutV ys none (some 3))) g5
 have e5:=old (o:=.tup (cutV ys none (some 3))) g5 (old (o:=.lst (cutV ys none (some 3))) g4 e3)
 generalize upd (upd H3 l4 (.lst (cutV ys none (some 3)))) l5 (.tup (cutV ys none (some 3)))=H5 at *
 refine(ex2q rfl ⟨3,rfl,l3,(ex2q rfl ⟨SqL.of e5,fun l6 g6=>⟨l6,(ex2q rfl (.inl ⟨SqL.of zf,fun l7 g7=>⟨sN2,fun l8 g8=>?_⟩⟩))⟩⟩)⟩)
 have s8:=((s5.new (o:=.lst (cutV ys (some 3) none)) g6).new (o:=.tup (cutV ys (some 3) none)) g7).new (o:=.tup [.ref l5,.ref l7]) g8
 generalize upd (upd (upd H5 l6 (.lst (cutV ys (some 3) none))) l7 (.tup (cutV ys (some 3) none))) l8 (.tup [.ref l5,.ref l7])=H8 at *
 refine(ex2q rfl ⟨ld,(ex2q rfl (.inl ⟨SqL.of (s8 _ _ e1),fun l9 g9=>⟨sN2,fun p gp=>?_⟩⟩))⟩)
 have s9:=(s8.new (o:=.tup (os.map V.ref)) g9).new (o:=.tup [.ref l8,.ref l9]) gp
 exact q _ p ds (k1.trans (.of s9)) ⟨_,l9,os,zf,old gp zf,I1.keep (.of s9)⟩ (by have:=I1.1;lia) hG
end
theorem xt:∀{as:Arms}{q:ArmR},q∈as.l->q.b.dp<=as.dp
 |.nil,q,h=>by unfold Arms.l at h;cases h
 |.cons t xs m k b r,q,h=>by
  unfold Arms.l at h
  rw[Arms.dp]
  rcases um.mp h with rfl|h
  ·exact Nat.le_max_left _ _
  ·exact uD (xt h) (Nat.le_max_right _ _)
theorem j7:∀{as:Arms}{q:ArmR},q∈as.l->q.b.sz<=as.sz
 |.nil,q,h=>by unfold Arms.l at h;cases h
 |.cons t xs m k b r,q,h=>by
  unfold Arms.l at h
  rw[Arms.sz]
  rcases um.mp h with rfl|h
  ·show b.sz<=_;lia
  ·have:=j7 h;lia
mutual
theorem Bd.atk_na:∀b:Bd,b.atk.length=b.na/\b.ar.length=b.na
 |.give _=>by rw[Bd.atk,Bd.na,Bd.ar];exact⟨rfl,rfl⟩
 |.lt _ _ b=>by rw[Bd.atk,Bd.na,Bd.ar];exact Bd.atk_na b
 |.hold _ _ b=>by rw[Bd.atk,Bd.na,Bd.ar];exact Bd.atk_na b
 |.drop _ b=>by rw[Bd.atk,Bd.na,Bd.ar];exact Bd.atk_na b
 |.loose _ b=>by rw[Bd.atk,Bd.na,Bd.ar];exact Bd.atk_na b
 |.iff _ b c=>by
  have h1:=Bd.atk_na b
  have h2:=Bd.atk_na c
  rw[Bd.atk,Bd.na,Bd.ar,ub,ub]
  lia
 |.cs _ as=>by
  have h1:=Arms.atk_na as
  rw[Bd.atk,Bd.na,Bd.ar,ub]
  exact h1
theorem Arms.atk_na:∀as:Arms,as.atk.length=as.na/\as.l.length+as.ar.length=as.na
 |.nil=>by unfold Arms.l;rw[Arms.atk,Arms.na,Arms.ar];exact⟨rfl,rfl⟩
 |.cons _ _ _ _ b r=>by
  have h1:=Bd.atk_na b
  have h2:=Arms.atk_na r
  unfold Arms.l
  rw[Arms.atk,Arms.na,Arms.ar,uo,uo,ub,ub]
  lia
end
theorem Bd.ar_sz(b:Bd):b.ar.length<=b.sz:=by rw[b.atk_na.2];exact b.na_sz
theorem Xf(b:Bd):(wiB b).length<=b.sz:=by
 unfold wiB
 have:=List.length_filter_le (fun k:Str=>decide (k≠"")) b.atk
 have:=b.atk_na.1
 have:=b.na_sz
 lia
def wiA(a:ArmR):List Str:=(if a.k≠""then[a.k]else[])++wiB a.b
theorem Q7{x:Str}:∀as:Arms,wiB (.cs x as)=as.l.flatMap wiA
 |.nil=>by unfold wiB Arms.l;rw[Bd.atk,Arms.atk];rfl
 |.cons t ns m k b r=>by
  have ih:=Q7 (x:=x) r
  unfold wiB at ih ⊢
  rw[Bd.atk]at ih ⊢
  unfold Arms.l
  rw[Arms.atk,List.filter_cons,List.filter_append,ih,Uz]
  unfold wiA
  by_cases c:k≠""
  ·rw[if_pos (decide_eq_true c),if_pos c];rfl
  ·rw[if_neg (by simpa using c),if_neg c];rfl
theorem zbx{x:Str}{b c:Bd}:wiB (.iff x b c)=wiB b++wiB c:=by unfold wiB;rw[Bd.atk,List.filter_append]
theorem ar_l:∀as:Arms,as.ar=as.l.flatMap fun a=>a.b.ar
 |.nil=>by unfold Arms.l;rw[Arms.ar];rfl
 |.cons t ns m k b r=>by unfold Arms.l;rw[Arms.ar,ar_l r,Uz]
theorem xC{α β:Type}(f:α->List β){l:List α}{i:Nat}{a:α}(h:l[i]?=some a):(l.take (i+1)).flatMap f=(l.take i).flatMap f++f a:=by
 rw[uJ,h,List.flatMap_append]
 show _++(f a++[])=_
 rw[Uq]
theorem yD{α β:Type}(f:α->List β):∀(l:List α)(i:Nat),((l.take i).flatMap f).length<=(l.flatMap f).length
 |[],i=>by rw[List.take_nil];exact ud _
 |a::l,0=>uN _
 |a::l,i+1=>by
  rw[List.take_succ_cons,Uz,Uz,ub,ub]
  have:=yD f l i
  lia
def xu(n:Nat):Sp:=fun vs H Q _=>∃(p:Addr)(b:Bd),vs=[.ref p]/\IsBd H b p/\b.dp<=n/\b.sz<=1000000/\∀H' r,Same H H'->H' r=some (.lst ((wiB b).map V.str))->Q (.ref r) H'
def wv(n:Nat):Sp:=fun vs H Q _=>∃(p:Addr)(b:Bd),vs=[.ref p]/\IsBd H b p/\b.dp<=n/\b.sz<=1000000/\∀H' r us,Same H H'->H' r=some (.lst (us.map V.ref))->TsAt arR H' b.ar us->Q (.ref r) H'
section
variable{P:Program}{w:World}{K:uc}{mg:Str->Option Value}{base:Heap}{f:Addr}{fd:FuncData}
theorem scWithin:FnScope ["_law_body_here","_law_some_here","_law_arm_here"] ["_law_body_here"] (zo xY):=.ok
theorem Yo(F:Fun K "_law_within" "_law_within" xY f fd):FnOk P w K mg base CX0 1 f fd ["_law_body_here"] (xu 0):=by
 refine F.by scWithin (fun vs H Q E h=>?_) (fun cdv A outer s H vs Q E hr h=>?_)
 ·obtain⟨p,b,rfl,_⟩:=h
  rfl
 obtain⟨p,b,rfl,_,hd,_⟩:=h
 exact absurd hd (UN b.dp_pos)
theorem XM{n:Nat}(F:Fun K "_law_within" "_law_within" xY f fd)(GW:Ca P w K mg base CX0 (1+n) "_law_within" ["_law_body_here"] (xu n)):FnOk P w K mg base CX0 (1+(n+1)) f fd ["_law_body_here"] (xu (n+1)):=by
 refine F.by scWithin (fun vs H Q E h=>?_) (fun cdv A outer s H vs Q E hr h=>?_)
 ·obtain⟨p,b,rfl,_⟩:=h
  rfl
 obtain⟨p,b,rfl,hI,hd,hz,q⟩:=h
 refine⟨_,
  (zg (zw (tN zx (xT 0) zq)
   (zh (zp (zy zD)))  zr)
  (zg (zw (tN zx (xT 0) zq)
   (zh (zp (zu ya (cA GW hr (jA1 (xT 0))) (cA GW hr (jA1 (xT 0))))))  zr)
  (zg (zw (tN zx (xT 0) zq)
   (zg (sE 1 scWithin.nd (zy zD))
   (zg (zM PassesOwn.never rfl (yn (xT 0)) (gN 2 scWithin.nd)
    (zg (zw (tN v7 (xT 2) zq)
     (zh (zO (yf ur uE uF zI (jv 1) (jA1 (xT 2)))))  zr)
    (zh (zO (yf ur PySem.F.slot_list_extend PySem.F.type_list_extend XA (jv 1) (jA1 (cA GW hr (jA1 (xT 2)))))))))
   (zh (zp (jv 1)))))  zr)
  (zh (zp (cA GW hr (jA1 (xX zP (jv 0) (yh zn))))))))),?_⟩
 have sl:=zK
 suffices oth:∀{t:Str}{xs:List V}{p1:Addr}{b1:Bd},H p=some (.tup (.str t::xs++[.ref p1]))->IsBd H b1 p1->b1.dp<=n->b1.sz<=1000000->t≠"give"->t≠"if"->t≠"case"->(∀H' r,Same H H'->H' r=some (.lst ((wiB b1).map V.str))->Q (.ref r) H')->(tSeq _ (tSeq _ (tSeq _ _)):TS) { nx:=fun _ H'=>Q .non H',rt:=Q } [some (.ref p),none,none] H by
  cases b with
  |give y =>
   have h0:H p=some (.tup [.str "give",.str y]):=hI
   exact(ex2q rfl (ixT h0 aI0 ⟨rfl,(ex2q rfl (iteT ⟨sN0,fun r hr=>q _ r (zj hr _) (by unfold wiB;rw[Bd.atk];exact zf)⟩))⟩))
  |lt y d b =>
   obtain⟨p1,p2,h0,h1,h2⟩:=hI
   rw[Bd.dp]at hd
   rw[Bd.sz]at hz
   exact oth (xs:=[.str y,.ref p1]) h0 h2 (by lia) (by lia) (by decide) (by decide) (by decide) fun H' r s e=>q H' r s (by unfold wiB at e ⊢;rw[Bd.atk];exact e)
  |hold y z b =>
   obtain⟨p1,h0,h1⟩:=hI
   rw[Bd.dp]at hd
   rw[Bd.sz]at hz
   exact oth (xs:=[.str y,.str z]) h0 h1 (by lia) (by lia) (by decide) (by decide) (by decide) fun H' r s e=>q H' r s (by unfold wiB at e ⊢;rw[Bd.atk];exact e)
  |drop y b =>
   obtain⟨p1,h0,h1⟩:=hI
   rw[Bd.dp]at hd
   rw[Bd.sz]at hz
   exact oth (xs:=[.str y]) h0 h1 (by lia) (by lia) (by decide) (by decide) (by decide) fun H' r s e=>q H' r s (by unfold wiB at e ⊢;rw[Bd.atk];exact e)
  |loose y b =>
   obtain⟨p1,h0,h1⟩:=hI
   rw[Bd.dp]at hd
   rw[Bd.sz]at hz
   exact oth (xs:=[.str y]) h0 h1 (by lia) (by lia) (by decide) (by decide) (by decide) fun H' r s e=>q H' r s (by unfold wiB at e ⊢;rw[Bd.atk];exact e)
  |iff y b c =>
   obtain⟨p1,p2,h0,h1,h2⟩:=hI
   rw[Bd.dp]at hd
   rw[Bd.sz]at hz
   have z1:=Xf b
   have z2:=Xf c
   refine(ex2q rfl (ixT h0 aI0 ⟨rfl,(ex2q rfl (iteF (nxtC ?_)))⟩))
   refine(ex2q rfl (ixT h0 aI0 ⟨rfl,(ex2q rfl (iteT ?_))⟩))
   refine(ex2q rfl (ixT h0 aI2 ⟨p1,b,rfl,h1,by lia,by lia,fun H1 r1 s1 e1=>?_⟩))
   refine(ex2q rfl (ixT (s1 _ _ h0) aI3 ⟨p2,c,rfl,h2.keep (.of s1),by lia,by lia,fun H2 r2 s2 e2=>?_⟩))
   refine⟨r1,r2,(ex4q rfl rfl ⟨s2 _ _ e1,e2,by rw[ua,ua];lia,fun r hr=>q _ r ((s1.trans s2).new hr) (by rw[zbx,ui];exact zf)⟩)⟩
  |cs x as =>
   obtain⟨p1,ts,h0,h1,hA⟩:=hI
   have zz:=Xf (.cs x as)
   rw[Bd.dp]at hd
   rw[Bd.sz]at hz zz
   rw[Q7]at q zz
   have al:=IsArms.len hA
   refine(ex2q rfl (ixT h0 aI0 ⟨rfl,(ex2q rfl (iteF (nxtC ?_)))⟩))
   refine(ex2q rfl (ixT h0 aI0 ⟨rfl,(ex2q rfl (iteF (nxtC ?_)))⟩))
   refine(ex2q rfl (ixT h0 aI0 ⟨rfl,(ex2q rfl (iteT ?_))⟩))
   refine⟨sN0,fun l1 f1=>?_⟩
   have s1:=zj f1 (.lst [])
   have e1:=zf (H:=H) (a:=l1) (o:=.lst [])
   dsimp only
   generalize upd H l1 (.lst [])=H1 at *
   refine(ex2q rfl (ixT (s1 _ _ h0) aI2 ⟨p1,rfl,⟨_,SqT.of (s1 _ _ h1)⟩,yt (xs:=ts.map V.ref) (fun i σ H'=>Same H H'/\(∃z,σ=[some (.ref p),some (.ref l1),z])/\H' l1=some (.lst (((as.l.take i).flatMap wiA).map V.str))) ⟨s1,⟨none,rfl⟩,e1⟩ (fun i σ H' _ h=>SqT.of (h.1 _ _ h1)) ?_ ?_⟩))
   ·rintro i v σ H2 hv ⟨s2,⟨z,rfl⟩,e2⟩
    rw[ug]at hv
    obtain⟨pa,hpa,rfl⟩:=uj.mp hv
    obtain⟨a,q1,r1,g1,g2,g3,g4⟩:=hA.get hpa
    have hm:=uw g1
    have le:=yD wiA as.l (i+1)
    have lt:=yD wiA as.l i
    rw[xC wiA g1,ub]at le
    have wl:(wiA a).length=(if a.k≠""then[a.k]else[]).length+(wiB a.b).length:=by unfold wiA;rw[ub]
    refine(show ∀(u:TS)(D:Ends),(∀H3,Same H H3->H3 l1=some (.lst (((as.l.take i).flatMap wiA++(if a.k≠""then[a.k]else[])).map V.str))->u D [some (.ref p),some (.ref l1),some (.ref pa)] H3)->(tSeq (tIfS _ _ wH) u:TS) D [some (.ref p),some (.ref l1),some (.ref pa)] H2 from ?key) _ _ ?rst
    case key =>
     intro u D rest
     refine(ex2q rfl (ixT (s2 _ _ g2) aI3 ⟨rfl,(ex2q rfl ?_)⟩))
     by_cases c:a.k=""
     ·refine iteE (show(!decide (V.str a.k=V.str ""))=false by rw[decide_eq_true (congrArg V.str c)];rfl) (nxtC (rest H2 s2 ?_))
      rw[if_neg (by simpa using c),Uq]
      exact e2
     ·refine zE (show(!decide (V.str a.k=V.str ""))=true by rw[decide_eq_false fun z=>c (V.str.inj z)];rfl) ?_
      rw[if_pos c]at wl rest
      refine(ex2q rfl ⟨.inl ⟨rfl,_,SqL.of e2⟩,(ex2q rfl (ixT (s2 _ _ g2) aI3 ⟨l1,(ex4q rfl rfl ⟨e2,by rw[ua];lia,nxtC (rest _ (s2.put f1) (by rw[ui];exact zf))⟩)⟩))⟩)
    intro H3 s3 e3
    refine(ex2q rfl ⟨.inl ⟨rfl,_,SqL.of e3⟩,(ex2q rfl (ixT (s3 _ _ g2) aI4 ⟨r1,a.b,rfl,g4.keep (.of s3),?_,?_,fun H4 r4 s4 e4=>?_⟩))⟩)
    ·have:=xt hm;lia
    ·have:=j7 hm;lia
    have e34:=s4 _ _ e3
    have lz:(((as.l.take i).flatMap wiA++(if a.k≠""then[a.k]else[])).map V.str).length+((wiB a.b).map V.str).length<=1000001:=by
     rw[ua,ua,ub]
     lia
    refine⟨l1,r4,(ex4q rfl rfl ⟨e34,e4,uD lz (by rw[sl];decide),?_⟩)⟩
    refine nxtC ⟨(s3.trans s4).put f1,⟨_,rfl⟩,?_⟩
    rw[zf,xC wiA g1]
    unfold wiA
    rw[<- ui,Um]
   ·rintro σ H2 ⟨s2,⟨z,rfl⟩,e2⟩
    rw[ua,al,uz (ud _)]at e2
    exact(ex2q rfl (q _ l1 s2 e2))
 intro t xs p1 b1 h0 h1 hd hz t1 t2 t3 q
 refine(ex2q rfl (ixT h0 aI0 ⟨rfl,(ex2q rfl (iteE (decide_eq_false fun z=>t1 (V.str.inj z)) (nxtC ?_)))⟩))
 refine(ex2q rfl (ixT h0 aI0 ⟨rfl,(ex2q rfl (iteE (decide_eq_false fun z=>t2 (V.str.inj z)) (nxtC ?_)))⟩))
 refine(ex2q rfl (ixT h0 aI0 ⟨rfl,(ex2q rfl (iteE (decide_eq_false fun z=>t3 (V.str.inj z)) (nxtC ?_)))⟩))
 exact(ex2q rfl (ex2q rfl ⟨p,_,_,_,rfl,rfl,SqT.of h0,zC _ _,p1,b1,rfl,h1,hd,hz,q⟩))
theorem Qu{H:Hp}{as:Arms}{ts:List Addr}(h:IsArms H as ts):TsAt arR H as.l ts:=by
 refine⟨(IsArms.len h).symm,fun i a t e1 e2=>?_⟩
 obtain⟨q,p,s,g1,g2,g3,g4⟩:=h.get e2
 rw[e1]at g1
 cases g1
 exact⟨p,s,g2,g3,g4⟩
theorem TsAt.app{α:Type}{R:α->Hp->Addr->Prop}{H:Hp}:∀{m:List α}{l:List α}{ts us:List Addr},TsAt R H l ts->TsAt R H m us->TsAt R H (l++m) (ts++us)
 |[],l,ts,us,h,g=>by
  have:us=[]:=Uo.mp g.1.symm
  subst this
  rw[Uq,Uq]
  exact h
 |a::m,l,ts,[],h,g=>by cases g.1
 |a::m,l,ts,u::us,h,g=>by
  have:=TsAt.app (h.snoc (g.2 0 a u rfl rfl)) (⟨Nat.succ.inj g.1,fun i x y e1 e2=>g.2 (i+1) x y e1 e2⟩:TsAt R H m us)
  rw[Um,Um]at this
  exact this
theorem zby{x:Str}{b c:Bd}:Bd.ar (.iff x b c)=b.ar++c.ar:=by rw[Bd.ar]
theorem scArmsL:FnScope ["_law_body_here","_law_some_here","_law_arm_here"] ["_law_body_here"] (zo YH):=.ok
theorem XN(F:Fun K "_law_arms" "_law_arms" YH f fd):FnOk P w K mg base CX0 1 f fd ["_law_body_here"] (wv 0):=by
 refine F.by scArmsL (fun vs H Q E h=>?_) (fun cdv A outer s H vs Q E hr h=>?_)
 ·obtain⟨p,b,rfl,_⟩:=h
  rfl
 obtain⟨p,b,rfl,_,hd,_⟩:=h
 exact absurd hd (UN b.dp_pos)
theorem VX{n:Nat}(F:Fun K "_law_arms" "_law_arms" YH f fd)(GW:Ca P w K mg base CX0 (1+n) "_law_arms" ["_law_body_here"] (wv n))(m_list:mg "list"=none):FnOk P w K mg base CX0 (1+(n+1)) f fd ["_law_body_here"] (wv (n+1)):=by
 refine F.by scArmsL (fun vs H Q E h=>?_) (fun cdv A outer s H vs Q E hr h=>?_)
 ·obtain⟨p,b,rfl,_⟩:=h
  rfl
 obtain⟨p,b,rfl,hI,hd,hz,q⟩:=h
 refine⟨_,
  (zg (zw (tN zx (xT 0) zq)
   (zh (zp (zy zD)))  zr)
  (zg (zw (tN zx (xT 0) zq)
   (zh (zp (zu ya (cA GW hr (jA1 (xT 0))) (cA GW hr (jA1 (xT 0))))))  zr)
  (zg (zw (tN zx (xT 0) zq)
   (zg (sE 1 scArmsL.nd (zG yi rfl m_list Ud (jA1 (xT 0))))
   (zg (zM PassesOwn.never rfl (yn (xT 0)) (gN 2 scArmsL.nd)
    (zh (sE 1 scArmsL.nd (zu ya (jv 1) (cA GW hr (jA1 (xT 2)))))))
   (zh (zp (jv 1)))))  zr)
  (zh (zp (cA GW hr (jA1 (xX zP (jv 0) (yh zn))))))))),?_⟩
 have sl:=zK
 suffices oth:∀{t:Str}{xs:List V}{p1:Addr}{b1:Bd},H p=some (.tup (.str t::xs++[.ref p1]))->IsBd H b1 p1->b1.dp<=n->b1.sz<=1000000->t≠"give"->t≠"if"->t≠"case"->(∀H' r us,Same H H'->H' r=some (.lst (us.map V.ref))->TsAt arR H' b1.ar us->Q (.ref r) H')->(tSeq _ (tSeq _ (tSeq _ _)):TS) { nx:=fun _ H'=>Q .non H',rt:=Q } [some (.ref p),none,none] H by
  cases b with
  |give y =>
   have h0:H p=some (.tup [.str "give",.str y]):=hI
   exact(ex2q rfl (ixT h0 aI0 ⟨rfl,(ex2q rfl (iteT ⟨sN0,fun r hr=>q _ r [] (zj hr _) zf (by rw[Bd.ar];exact⟨rfl,fun i a t h=>by simp at h⟩)⟩))⟩))
  |lt y d b =>
   obtain⟨p1,p2,h0,h1,h2⟩:=hI
   rw[Bd.dp]at hd
   rw[Bd.sz]at hz
   exact oth (xs:=[.str y,.ref p1]) h0 h2 (by lia) (by lia) (by decide) (by decide) (by decide) fun H' r us s e g=>q H' r us s e (by rw[Bd.ar];exact g)
  |hold y z b =>
   obtain⟨p1,h0,h1⟩:=hI
   rw[Bd.dp]at hd
   rw[Bd.sz]at hz
   exact oth (xs:=[.str y,.str z]) h0 h1 (by lia) (by lia) (by decide) (by decide) (by decide) fun H' r us s e g=>q H' r us s e (by rw[Bd.ar];exact g)
  |drop y b =>
   obtain⟨p1,h0,h1⟩:=hI
   rw[Bd.dp]at hd
   rw[Bd.sz]at hz
   exact oth (xs:=[.str y]) h0 h1 (by lia) (by lia) (by decide) (by decide) (by decide) fun H' r us s e g=>q H' r us s e (by rw[Bd.ar];exact g)
  |loose y b =>
   obtain⟨p1,h0,h1⟩:=hI
   rw[Bd.dp]at hd
   rw[Bd.sz]at hz
   exact oth (xs:=[.str y]) h0 h1 (by lia) (by lia) (by decide) (by decide) (by decide) fun H' r us s e g=>q H' r us s e (by rw[Bd.ar];exact g)
  |iff y b c =>
   obtain⟨p1,p2,h0,h1,h2⟩:=hI
   rw[Bd.dp]at hd
   rw[Bd.sz]at hz
   have z1:=b.ar_sz
   have z2:=c.ar_sz
   refine(ex2q rfl (ixT h0 aI0 ⟨rfl,(ex2q rfl (iteF (nxtC ?_)))⟩))
   refine(ex2q rfl (ixT h0 aI0 ⟨rfl,(ex2q rfl (iteT ?_))⟩))
   refine(ex2q rfl (ixT h0 aI2 ⟨p1,b,rfl,h1,by lia,by lia,fun H1 r1 us1 s1 e1 g1=>?_⟩))
   refine(ex2q rfl (ixT (s1 _ _ h0) aI3 ⟨p2,c,rfl,h2.keep (.of s1),by lia,by lia,fun H2 r2 us2 s2 e2 g2=>?_⟩))
   have l1:=g1.1
   have l2:=g2.1
   refine⟨r1,r2,(ex4q rfl rfl ⟨s2 _ _ e1,e2,by rw[ua,ua];lia,fun r hr=>q _ r (us1++us2) ((s1.trans s2).new hr) (by rw[ui];exact zf) ?_⟩)⟩
   rw[zby]
   have s3:=zj hr (.lst (us1.map V.ref++us2.map V.ref))
   exact((g1.keep fun _ _ z=>z.tk (.of (s2.trans s3))).app (g2.keep fun _ _ z=>z.tk (.of s3)))
  |cs x as =>
   obtain⟨p1,ts,h0,h1,hA⟩:=hI
   have zz:=Bd.ar_sz (.cs x as)
   rw[Bd.dp]at hd
   rw[Bd.sz]at hz zz
   rw[Bd.ar,ar_l]at q zz
   rw[ub]at zz
   have al:=IsArms.len hA
   refine(ex2q rfl (ixT h0 aI0 ⟨rfl,(ex2q rfl (iteF (nxtC ?_)))⟩))
   refine(ex2q rfl (ixT h0 aI0 ⟨rfl,(ex2q rfl (iteF (nxtC ?_)))⟩))
   refine(ex2q rfl (ixT h0 aI0 ⟨rfl,(ex2q rfl (iteT ?_))⟩))
   refine(ex2q rfl (ixT h0 aI2 ⟨p1,(ex2q rfl ⟨.inr (SqT.of h1),fun l1 f1=>?_⟩)⟩))
   have s1:=zj f1 (.lst (ts.map V.ref))
   have e1:=zf (H:=H) (a:=l1) (o:=.lst (ts.map V.ref))
   have T1:=(Qu hA).keep fun _ _ z=>z.tk (.of s1)
   dsimp only
   generalize upd H l1 (.lst (ts.map V.ref))=H1 at *
   refine(ex2q rfl (ixT (s1 _ _ h0) aI2 ⟨p1,rfl,⟨_,SqT.of (s1 _ _ h1)⟩,yt (xs:=ts.map V.ref) (fun i σ H'=>Same H H'/\∃(l:Addr)(us:List Addr)(z:Option V),σ=[some (.ref p),some (.ref l),z]/\H' l=some (.lst (us.map V.ref))/\TsAt arR H' (as.l++(as.l.take i).flatMap fun a=>a.b.ar) us) ⟨s1,l1,ts,none,rfl,e1,by show TsAt arR H1 (as.l++[]) ts;rw[Uq];exact T1⟩ (fun i σ H' _ h=>SqT.of (h.1 _ _ h1)) ?_ ?_⟩))
   ·rintro i v σ H2 hv ⟨s2,l,us,z,rfl,e2,T2⟩
    rw[ug]at hv
    obtain⟨pa,hpa,rfl⟩:=uj.mp hv
    obtain⟨a,q1,r1,g1,g2,g3,g4⟩:=hA.get hpa
    have hm:=uw g1
    have le:=yD (fun a:ArmR=>a.b.ar) as.l (i+1)
    rw[xC _ g1,ub]at le
    have ul:=T2.1
    rw[ub]at ul
    refine(ex2q rfl (ex2q rfl (ixT (s2 _ _ g2) aI4 ⟨r1,a.b,rfl,g4.keep (.of s2),?_,?_,fun H4 r4 us4 s4 e4 T4=>?_⟩)))
    ·have:=xt hm;lia
    ·have:=j7 hm;lia
    have u4:=T4.1
    have lz:(us.map V.ref).length+(us4.map V.ref).length<=1000001:=by
     rw[ua,ua]
     lia
    refine⟨l,r4,(ex4q rfl rfl ⟨s4 _ _ e2,e4,uD lz (by rw[sl];decide),fun l5 f5=>?_⟩)⟩
    have s5:=zj f5 (.lst (us.map V.ref++us4.map V.ref))
    refine⟨(s2.trans s4).trans s5,l5,us++us4,(ex2q rfl ⟨by rw[ui];exact zf,?_⟩)⟩
    rw[xC _ g1,<- Um]
    exact(T2.keep fun _ _ z=>z.tk (.of (s4.trans s5))).app (T4.keep fun _ _ z=>z.tk (.of s5))
   ·rintro σ H2 ⟨s2,l,us,z,rfl,e2,T2⟩
    rw[ua,al,uz (ud _)]at T2
    exact(ex2q rfl (q _ l us s2 e2 T2))
 intro t xs p1 b1 h0 h1 hd hz t1 t2 t3 q
 refine(ex2q rfl (ixT h0 aI0 ⟨rfl,(ex2q rfl (iteE (decide_eq_false fun z=>t1 (V.str.inj z)) (nxtC ?_)))⟩))
 refine(ex2q rfl (ixT h0 aI0 ⟨rfl,(ex2q rfl (iteE (decide_eq_false fun z=>t2 (V.str.inj z)) (nxtC ?_)))⟩))
 refine(ex2q rfl (ixT h0 aI0 ⟨rfl,(ex2q rfl (iteE (decide_eq_false fun z=>t3 (V.str.inj z)) (nxtC ?_)))⟩))
 exact(ex2q rfl (ex2q rfl ⟨p,_,_,_,rfl,rfl,SqT.of h0,zC _ _,p1,b1,rfl,h1,hd,hz,q⟩))
end
def syD(ts:List Str):Dd->Bool
 |.mk _ _ j=>!decide (j∈ts++[("":Str)])
 |_=>false
mutual
def Bd.sy:List Str->Bd->Bool
 |_,.give _=>false
 |ts,.lt _ d b=>syD ts d || b.sy ts
 |ts,.hold _ _ b=>b.sy ts
 |ts,.drop _ b=>b.sy ts
 |ts,.loose y b=>!decide (y∈ts) || b.sy ts
 |ts,.iff _ b c=>b.sy ts || c.sy ts
 |ts,.cs _ as=>as.sy ts
def Arms.sy:List Str->Arms->Bool
 |_,.nil=>false
 |ts,.cons _ _ _ k b r=>b.sy (ts++[k]) || r.sy ts
end
theorem VY{ts:List Str}{d:Dd}(h:∀q∈mkD d,q.2=""\/q.2∈ts):syD ts d=false:=by
 cases d with
 |mk t ns j =>
  have:j∈ts++[("":Str)]:=(h (ns.length,j) (.head _)).elim (fun e=>uh _ (uB.mpr e)) (uk _)
  show(!decide (j∈ts++[("":Str)]))=false
  rw[decide_eq_true this]
  rfl
 |_=>rfl
section
variable{nx:Nat->Nat}
theorem VZ{f:Nat}(ih:∀(b:Bd)(n:Nat)(ts:List Str),b.mu<=f->(∀q∈b.mks,q.2=""\/q.2∈ts)->(∀y∈b.lo,y∈ts)->(AB nx f b n).1.sy ts=false):∀(as:Arms)(c m:Nat)(ts:List Str),(∀b∈(as.tk nx c).1.bs,b.mu<=f)->(∀q∈as.mks,q.2=""\/q.2∈ts)->(∀y∈as.lo,y∈ts)->(resA (AB nx f) (as.tk nx c).1 m).1.sy ts=false
 |.nil,c,m,ts,_,_,_=>by show Arms.sy ts .nil=false;rw[Arms.sy]
 |.cons t ns m' k b r,c,m,ts,hmu,ho,hlo=>by
  rw[Arms.mks]at ho
  rw[Arms.lo]at hlo
  have hob:=fun q hq=>ho q (uk _ hq)
  have hor:=fun q hq=>ho q (uh _ hq)
  have hlb:=fun y hy=>hlo y (uk _ hy)
  have hlr:=fun y hy=>hlo y (uh _ hy)
  by_cases hk:armK m' ns b=true
  ·have et:(Arms.cons t ns m' k b r).tk nx c=(.cons t ns m' (tokS (nx c)) (b.wy (tokS (nx c)) ns.length) (r.tk nx (nx c)).1,(r.tk nx (nx c)).2):=by rw[Arms.tk,if_pos hk]
   rw[et]at hmu ⊢
   have wx:ExB (·=tokS (nx c)) b (b.wy (tokS (nx c)) ns.length):=ExB.wy b
   show Arms.sy ts (.cons t ns m' (tokS (nx c)) (AB nx f (b.wy (tokS (nx c)) ns.length) m).1 (resA (AB nx f) (r.tk nx (nx c)).1 (AB nx f (b.wy (tokS (nx c)) ns.length) m).2).1)=false
   rw[Arms.sy,uH]
   refine⟨ih _ m _ (hmu _ (by show _∈_::_;exact .head _)) (fun q hq=>?_) fun y hy=>?_,VZ ih r (nx c) _ ts (fun b hb=>hmu b (.tail _ hb)) hor hlr⟩
   ·obtain⟨p,hp,e1,e2⟩:=All2.memR wx.mk hq
    rcases e2 with e2|⟨_,e2⟩
    ·rw[e2];exact(hob p hp).imp (fun e=>e) (uk _)
    ·exact .inr (uh _ (uB.mpr e2))
   ·rcases wx.lo y hy with z|z
    ·exact uk _ (hlb y z)
    ·exact uh _ (uB.mpr z)
  ·have et:(Arms.cons t ns m' k b r).tk nx c=(.cons t ns m' k b (r.tk nx c).1,(r.tk nx c).2):=by rw[Arms.tk,if_neg hk]
   rw[et]at hmu ⊢
   show Arms.sy ts (.cons t ns m' k (AB nx f b m).1 (resA (AB nx f) (r.tk nx c).1 (AB nx f b m).2).1)=false
   rw[Arms.sy,uH]
   exact⟨ih _ m _ (hmu _ (by show _∈_::_;exact .head _)) (fun q hq=>(hob q hq).imp (fun e=>e) (uk _)) fun y hy=>uk _ (hlb y hy),VZ ih r c _ ts (fun b hb=>hmu b (.tail _ hb)) hor hlr⟩
theorem ABS:∀(f:Nat)(b:Bd)(n:Nat)(ts:List Str),b.mu<=f->(∀q∈b.mks,q.2=""\/q.2∈ts)->(∀y∈b.lo,y∈ts)->(AB nx f b n).1.sy ts=false
 |0,b,n,ts,h,_,_=>by have:=b.mu_pos;lia
 |f+1,b,n,ts,h,ho,hl=>by
  have ih:=ABS f
  cases b with
  |give x=>show Bd.sy ts (.give x)=false;rw[Bd.sy]
  |lt x d b =>
   rw[Bd.mu]at h
   rw[Bd.mks]at ho
   rw[Bd.lo]at hl
   show Bd.sy ts (.lt x d (AB nx f b n).1)=false
   rw[Bd.sy,uH]
   exact⟨VY fun q hq=>ho q (uk _ hq),ih b n ts (by lia) (fun q hq=>ho q (uh _ hq)) hl⟩
  |hold x y b =>
   rw[Bd.mu]at h
   rw[Bd.mks]at ho
   rw[Bd.lo]at hl
   show Bd.sy ts (.hold x y (AB nx f b n).1)=false
   rw[Bd.sy]
   exact ih b n ts (by lia) ho hl
  |drop x b =>
   rw[Bd.mu]at h
   rw[Bd.mks]at ho
   rw[Bd.lo]at hl
   show Bd.sy ts (.drop x (AB nx f b n).1)=false
   rw[Bd.sy]
   exact ih b n ts (by lia) ho hl
  |loose x b =>
   rw[Bd.mu]at h
   rw[Bd.mks]at ho
   rw[Bd.lo]at hl
   show Bd.sy ts (.loose x (AB nx f b n).1)=false
   rw[Bd.sy,uH,decide_eq_true (hl x (.head _))]
   exact⟨rfl,ih b n ts (by lia) ho fun y hy=>hl y (.tail _ hy)⟩
  |iff x b c =>
   rw[Bd.mu]at h
   rw[Bd.mks]at ho
   rw[Bd.lo]at hl
   show Bd.sy ts (.iff x (AB nx f b n).1 (AB nx f c (AB nx f b n).2).1)=false
   rw[Bd.sy,uH]
   exact⟨ih b n ts (by lia) (fun q hq=>ho q (uk _ hq)) fun y hy=>hl y (uk _ hy),ih c _ ts (by lia) (fun q hq=>ho q (uh _ hq)) fun y hy=>hl y (uh _ hy)⟩
  |cs x as =>
   have hmu:∀b∈(as.tk nx n).1.bs,b.mu<=f:=fun b hb=>by
    have:b.mu < (Bd.cs x as).mu:=vy (nx:=nx) (n:=n) (b:=.cs x as) hb
    lia
   rw[Bd.mks]at ho
   rw[Bd.lo]at hl
   show Bd.sy ts (.cs x (resA (AB nx f) (as.tk nx n).1 (as.tk nx n).2).1)=false
   rw[Bd.sy]
   exact VZ ih as n _ ts hmu ho hl
end
theorem zcd{n:Nat}{free:List Str}{x:Str}{d:Dd}{b:Bd}:stB n free (.lt x d b)=(fitD n free d || stB n free b):=by unfold stB fitD;rw[Bd.mks,Ur]
theorem zbz{n:Nat}{free:List Str}{x:Str}{b c:Bd}:stB n free (.iff x b c)=(stB n free b || stB n free c):=by unfold stB;rw[Bd.mks,Ur]
theorem Q8{n:Nat}{free:List Str}{x:Str}:∀as:Arms,stB n free (.cs x as)=as.l.any fun a=>stB n free a.b
 |.nil=>by unfold stB Arms.l;rw[Bd.mks,Arms.mks];rfl
 |.cons t ns m k b r=>by
  have ih:=Q8 (n:=n) (free:=free) (x:=x) r
  unfold stB at ih ⊢
  rw[Bd.mks]at ih ⊢
  unfold Arms.l
  rw[Arms.mks,Ur,ih,uO]
def Yp:Sp:=fun vs H Q _=>∃(p fr:Addr)(d:Dd)(n:Nat)(free:List Str),vs=[.ref p,.int (n:Nat),.ref fr]/\IsDd H d p/\H fr=some (.lst (free.map V.str))/\Q (.bl (fitD n free d)) H
def xv(N:Nat):Sp:=fun vs H Q _=>∃(p fr:Addr)(b:Bd)(n:Nat)(free:List Str),vs=[.ref p,.int (n:Nat),.ref fr]/\IsBd H b p/\b.dp<=N/\H fr=some (.lst (free.map V.str))/\Q (.bl (stB n free b)) H
section
variable{P:Program}{w:World}{K:uc}{mg:Str->Option Value}{base:Heap}{f:Addr}{fd:FuncData}
theorem zbA:FnScope lS10 lS10 (zo WJ):=.ok
theorem Qv(F:Fun K "_law_fits" "_law_fits" WJ f fd)(m_len:mg "len"=none):FnOk P w K mg base CX0 1 f fd lS10 Yp:=by
 refine F.by zbA (fun vs H Q E h=>?_) (fun cdv A outer s H vs Q E hr h=>?_)
 ·obtain⟨p,fr,d,n,free,rfl,_⟩:=h
  rfl
 obtain⟨p,fr,d,n,free,rfl,hI,hf,q⟩:=h
 refine⟨_,
  (zh (zp (ve (yu zx (xT 0) zq (yO _)) (ve (yu zx (jL m_len (xT 0)) (jv 1) (yO _)) (xj (YD (yu zx (xT 0) zq (yO _)) (xj (yu xy (xT 0) (jv 2) (by with_unfolding_all rfl))))))))),?_⟩
 suffices oth:∀{t:Str}{xs:List V},H p=some (.tup (.str t::xs))->t≠"make"->fitD n free d=false->tRet _ { nx:=fun _ H'=>Q .non H',rt:=Q } [some (.ref p),some (.int (n:Nat)),some (.ref fr)] H by
  cases d with
  |mk t ns k =>
   obtain⟨q1,h0,h1⟩:=hI
   refine(ex2q rfl (ixT h0 aI0 ⟨rfl,(ex2q rfl (iteT ?_))⟩))
   refine(ex2q rfl (ixT h0 aI2 ⟨q1,(ex2q rfl ⟨.inr (SqT.of h1),(ex2q rfl ⟨rfl,(ex2q rfl ?_)⟩)⟩)⟩))
   have ef:fitD n free (.mk t ns k)=(decide (ns.length=n) && (decide (k="") || decide (k∈free))):=by
    unfold fitD mkD
    rw[uO,List.any_nil,Bool.or_false]
   rw[ef]at q
   have el:decide (V.int (((ns.map V.str).length:Nat):Int)=V.int ((n:Nat):Int))=decide (ns.length=n):=by
    rw[ua,decide_eq_decide,V.int.injEq]
    lia
   by_cases c:ns.length=n
   ·refine zE (el.trans (decide_eq_true c)) ?_
    rw[decide_eq_true c,UW]at q
    refine(ex2q rfl (ixT h0 aI3 ⟨rfl,(ex2q rfl ?_)⟩))
    by_cases c2:k=""
    ·refine zE (decide_eq_true (congrArg V.str c2)) ?_
     rw[decide_eq_true c2,UE]at q
     exact q
    ·refine iteE (decide_eq_false fun z=>c2 (V.str.inj z)) ?_
     rw[decide_eq_false c2,uV]at q
     refine(ex2q rfl (ixT h0 aI3 (ex2q rfl ⟨fr,(ex2q rfl ⟨.inl (SqL.of hf),rfl,yE,?_⟩)⟩)))
     rw[<- yw]at q
     exact q
   ·refine iteE (el.trans (decide_eq_false c)) ?_
    rw[decide_eq_false c,UR]at q
    exact q
  |num i=>exact oth (t:="num") (xs:=[.int i]) hI (by decide) rfl
  |op o a b=>exact oth (t:="op") (xs:=[.str o,.str a,.str b]) hI (by decide) rfl
  |call g ns=>obtain⟨q1,h0,h1⟩:=hI;exact oth h0 (by decide) rfl
  |fn g ns=>obtain⟨q1,h0,h1⟩:=hI;exact oth h0 (by decide) rfl
  |ask g ns=>obtain⟨q1,h0,h1⟩:=hI;exact oth h0 (by decide) rfl
 intro t xs h0 ht ef
 rw[ef]at q
 exact(ex2q rfl (ixT h0 aI0 ⟨rfl,(ex2q rfl (iteE (decide_eq_false fun z=>ht (V.str.inj z)) q))⟩))
theorem scStands:FnScope ["_law_body_here","_law_many","_law_free","_law_arm_here"] lS5 (zo wT):=.ok
theorem Yq(F:Fun K "_law_stands" "_law_stands" wT f fd):FnOk P w K mg base CX0 1 f fd lS5 (xv 0):=by
 refine F.by scStands (fun vs H Q E h=>?_) (fun cdv A outer s H vs Q E hr h=>?_)
 ·obtain⟨p,fr,b,m,free,rfl,_⟩:=h
  rfl
 obtain⟨p,fr,b,m,free,rfl,_,hd,_⟩:=h
 exact absurd hd (UN b.dp_pos)
theorem XO{n:Nat}(F:Fun K "_law_stands" "_law_stands" wT f fd)(GS:Ca P w K mg base CX0 (1+n) "_law_stands" lS5 (xv n))(GF:Ca P w K mg base CX0 1 "_law_fits" lS10 Yp):FnOk P w K mg base CX0 (1+(n+1)) f fd lS5 (xv (n+1)):=by
 refine F.by scStands (fun vs H Q E h=>?_) (fun cdv A outer s H vs Q E hr h=>?_)
 ·obtain⟨p,fr,b,m,free,rfl,_⟩:=h
  rfl
 obtain⟨p,fr,b,m,free,rfl,hI,hd,hf,q⟩:=h
 have hr1:Room 1 _:=hr.mono (Nat.le_add_right 1 n)
 refine⟨_,
  (zg (zw (tN zx (xT 0) zq)
   (zh (zp zT))  zr)
  (zg (zw (tN zx (xT 0) zq)
   (zh (zp (YD (cA GS hr (jA3 (xT 0) (jv 1) (jv 2))) (xj (cA GS hr (jA3 (xT 0) (jv 1) (jv 2)))))))  zr)
  (zg (zw (tN zx (xT 0) zq)
   (zg (zM PassesOwn.never rfl (yn (xT 0)) (gN 3 scStands.nd)
    (zh (zw (zX (cA GS hr (jA3 (xT 3) (jv 1) (jv 2))))
     (zh (zp zT))  zr)))
   (zh (zp zT)))  zr)
  (zg (zw (jW.pt (z9 (tN zx (xT 0) zq) (yc (zX (cA GF hr1 (jA3 (xT 0) (jv 1) (jv 2)))))))
   (zh (zp zT))  zr)
  (zh (zp (cA GS hr (jA3 (xX zP (jv 0) (yh zn)) (jv 1) (jv 2))))))))),?_⟩
 suffices oth:∀{t:Str}{xs:List V}{p1:Addr}{b1:Bd},H p=some (.tup (.str t::xs++[.ref p1]))->IsBd H b1 p1->b1.dp<=n->t≠"give"->t≠"if"->t≠"case"->t≠"let"->Q (.bl (stB m free b1)) H->(tSeq _ (tSeq _ (tSeq _ (tSeq _ _))):TS) { nx:=fun _ H'=>Q .non H',rt:=Q } [some (.ref p),some (.int (m:Nat)),some (.ref fr),none] H by
  cases b with
  |give y =>
   have h0:H p=some (.tup [.str "give",.str y]):=hI
   exact(ex2q rfl (ixT h0 aI0 ⟨rfl,(ex2q rfl (iteT (by unfold stB at q;rw[Bd.mks]at q;exact q)))⟩))
  |lt y d b =>
   obtain⟨p1,p2,h0,h1,h2⟩:=hI
   rw[Bd.dp]at hd
   rw[zcd]at q
   refine(ex2q rfl (ixT h0 aI0 ⟨rfl,(ex2q rfl (iteF (nxtC ?_)))⟩))
   refine(ex2q rfl (ixT h0 aI0 ⟨rfl,(ex2q rfl (iteF (nxtC ?_)))⟩))
   refine(ex2q rfl (ixT h0 aI0 ⟨rfl,(ex2q rfl (iteF (nxtC ?_)))⟩))
   refine(ex2q rfl (ixT h0 aI0 ⟨rfl,(ex2q rfl (iteT ?_))⟩))
   refine(ex2q rfl (ixT h0 aI2 (ex2q rfl (ex2q rfl ⟨p1,fr,d,m,free,rfl,h1,hf,(ex2q rfl ?_)⟩))))
   cases e:fitD m free d with
   |true =>
    rw[e,UE]at q
    exact iteT q
   |false =>
    rw[e,uV]at q
    refine iteF (nxtC ?_)
    exact(ex2q rfl (ex2q rfl ⟨p,_,_,_,rfl,rfl,SqT.of h0,zC [.str "let",.str y,.ref p1] _,(ex2q rfl (ex2q rfl ⟨p2,fr,b,m,free,rfl,h2,by lia,hf,q⟩))⟩))
  |hold y z b =>
   obtain⟨p1,h0,h1⟩:=hI
   rw[Bd.dp]at hd
   exact oth (xs:=[.str y,.str z]) h0 h1 (by lia) (by decide) (by decide) (by decide) (by decide) (by unfold stB at q ⊢;rw[Bd.mks]at q;exact q)
  |drop y b =>
   obtain⟨p1,h0,h1⟩:=hI
   rw[Bd.dp]at hd
   exact oth (xs:=[.str y]) h0 h1 (by lia) (by decide) (by decide) (by decide) (by decide) (by unfold stB at q ⊢;rw[Bd.mks]at q;exact q)
  |loose y b =>
   obtain⟨p1,h0,h1⟩:=hI
   rw[Bd.dp]at hd
   exact oth (xs:=[.str y]) h0 h1 (by lia) (by decide) (by decide) (by decide) (by decide) (by unfold stB at q ⊢;rw[Bd.mks]at q;exact q)
  |iff y b c =>
   obtain⟨p1,p2,h0,h1,h2⟩:=hI
   rw[Bd.dp]at hd
   rw[zbz]at q
   refine(ex2q rfl (ixT h0 aI0 ⟨rfl,(ex2q rfl (iteF (nxtC ?_)))⟩))
   refine(ex2q rfl (ixT h0 aI0 ⟨rfl,(ex2q rfl (iteT ?_))⟩))
   refine(ex2q rfl (ixT h0 aI2 (ex2q rfl (ex2q rfl ⟨p1,fr,b,m,free,rfl,h1,by lia,hf,(ex2q rfl ?_)⟩))))
   cases e:stB m free b with
   |true =>
    rw[e,UE]at q
    exact iteT q
   |false =>
    rw[e,uV]at q
    refine iteF ?_
    exact(ex2q rfl (ixT h0 aI3 (ex2q rfl (ex2q rfl ⟨p2,fr,c,m,free,rfl,h2,by lia,hf,q⟩))))
  |cs x as =>
   obtain⟨p1,ts,h0,h1,hA⟩:=hI
   rw[Bd.dp]at hd
   rw[Q8]at q
   have al:=IsArms.len hA
   refine(ex2q rfl (ixT h0 aI0 ⟨rfl,(ex2q rfl (iteF (nxtC ?_)))⟩))
   refine(ex2q rfl (ixT h0 aI0 ⟨rfl,(ex2q rfl (iteF (nxtC ?_)))⟩))
   refine(ex2q rfl (ixT h0 aI0 ⟨rfl,(ex2q rfl (iteT ?_))⟩))
   refine(ex2q rfl (ixT h0 aI2 ⟨p1,rfl,⟨_,SqT.of h1⟩,yt (xs:=ts.map V.ref) (fun i σ H'=>H=H'/\(∃z,σ=[some (.ref p),some (.int (m:Nat)),some (.ref fr),z])/\((as.l.take i).any fun a=>stB m free a.b)=false) ⟨rfl,⟨none,rfl⟩,rfl⟩ (fun i σ H' _ h=>SqT.of (h.1 ▸ h1)) ?_ ?_⟩))
   ·rintro i v σ H2 hv ⟨rfl,⟨z,rfl⟩,ha⟩
    rw[ug]at hv
    obtain⟨pa,hpa,rfl⟩:=uj.mp hv
    obtain⟨a,q1,r1,g1,g2,g3,g4⟩:=hA.get hpa
    have hm:=uw g1
    have ad:=xt hm
    have tk:as.l.take (i+1)=as.l.take i++[a]:=by rw[uJ,g1];rfl
    refine(ex2q rfl (ixT g2 aI4 (ex2q rfl (ex2q rfl ⟨r1,fr,a.b,m,free,rfl,g4,by lia,hf,(ex2q rfl ?_)⟩))))
    cases e:stB m free a.b with
    |true =>
     rw[UG.mpr ⟨a,hm,e⟩]at q
     exact iteT q
    |false=>exact iteF (nxtC ⟨rfl,⟨_,rfl⟩,by rw[tk,Ur,ha,uV,uO,List.any_nil,Bool.or_false];exact e⟩)
   ·rintro σ H2 ⟨rfl,⟨z,rfl⟩,ha⟩
    rw[ua,al,uz (ud _)]at ha
    rw[ha]at q
    exact q
 intro t xs p1 b1 h0 h1 hd t1 t2 t3 t4 q
 refine(ex2q rfl (ixT h0 aI0 ⟨rfl,(ex2q rfl (iteE (decide_eq_false fun z=>t1 (V.str.inj z)) (nxtC ?_)))⟩))
 refine(ex2q rfl (ixT h0 aI0 ⟨rfl,(ex2q rfl (iteE (decide_eq_false fun z=>t2 (V.str.inj z)) (nxtC ?_)))⟩))
 refine(ex2q rfl (ixT h0 aI0 ⟨rfl,(ex2q rfl (iteE (decide_eq_false fun z=>t3 (V.str.inj z)) (nxtC ?_)))⟩))
 refine(ex2q rfl (ixT h0 aI0 ⟨rfl,(ex2q rfl (iteE (decide_eq_false fun z=>t4 (V.str.inj z)) (iteF (nxtC ?_))))⟩))
 exact(ex2q rfl (ex2q rfl ⟨p,_,_,_,rfl,rfl,SqT.of h0,zC _ _,(ex2q rfl (ex2q rfl ⟨p1,fr,b1,m,free,rfl,h1,hd,hf,q⟩))⟩))
theorem V0{H:Hp}{d:Dd}{p:Addr}(h:IsDd H d p):(∃t ns j q,d=.mk t ns j/\H p=some (.tup [.str "make",.str t,.ref q,.str j]))\/(∃t xs,H p=some (.tup (.str t::xs))/\t≠"make"/\mkD d=[]):=by
 cases d with
 |mk t ns j=>obtain⟨q,h0,_⟩:=h;exact .inl ⟨t,ns,j,q,rfl,h0⟩
 |num i=>exact .inr ⟨"num",_,h,by decide,rfl⟩
 |op o a b=>exact .inr ⟨"op",_,h,by decide,rfl⟩
 |call g ns=>obtain⟨q,h0,_⟩:=h;exact .inr ⟨_,_,h0,by decide,rfl⟩
 |fn g ns=>obtain⟨q,h0,_⟩:=h;exact .inr ⟨_,_,h0,by decide,rfl⟩
 |ask g ns=>obtain⟨q,h0,_⟩:=h;exact .inr ⟨_,_,h0,by decide,rfl⟩
theorem V1{k:Str}{d:Dd}(h:mkD d=[]):mtD k d=false:=VD fun q hq=>by rw[h]at hq;cases hq
theorem Q9{k:Str}:∀as:Arms,as.mt k=as.l.any fun a=>a.b.mt k
 |.nil=>by unfold Arms.l;rw[Arms.mt];rfl
 |.cons t ns m j b r=>by unfold Arms.l;rw[Arms.mt,Q9 r,uO]
def xg(N:Nat):Sp:=fun vs H Q _=>∃(p:Addr)(b:Bd)(k:Str),vs=[.ref p,.str k]/\IsBd H b p/\b.dp<=N/\Q (.bl (b.mt k)) H
def vO(N:Nat):Sp:=fun vs H Q _=>∃(p:Addr)(b:Bd)(k:Str),vs=[.ref p,.str k]/\IsBd H b p/\b.dp<=N/\Q (.bl (yx k b)) H
theorem scMeets:FnScope ["_law_body_here","_law_token","_law_arm_here"] lS1 (zo ju):=.ok
theorem XQ(F:Fun K "_law_meets" "_law_meets" ju f fd):FnOk P w K mg base CX0 1 f fd lS1 (xg 0):=by
 refine F.by scMeets (fun vs H Q E h=>?_) (fun cdv A outer s H vs Q E hr h=>?_)
 ·obtain⟨p,b,k,rfl,_⟩:=h
  rfl
 obtain⟨p,b,k,rfl,_,hd,_⟩:=h
 exact absurd hd (UN b.dp_pos)
theorem V2{n:Nat}(F:Fun K "_law_meets" "_law_meets" ju f fd)(GM:Ca P w K mg base CX0 (1+n) "_law_meets" lS1 (xg n)):FnOk P w K mg base CX0 (1+(n+1)) f fd lS1 (xg (n+1)):=by
 refine F.by scMeets (fun vs H Q E h=>?_) (fun cdv A outer s H vs Q E hr h=>?_)
 ·obtain⟨p,b,k,rfl,_⟩:=h
  rfl
 obtain⟨p,b,k,rfl,hI,hd,q⟩:=h
 refine⟨_,
  (zg (zw (tN zx (xT 0) zq)
   (zh (zp zT))  zr)
  (zg (zw (tN zx (xT 0) zq)
   (zh (zp (YD (cA GM hr (jA2 (xT 0) (jv 1))) (xj (cA GM hr (jA2 (xT 0) (jv 1)))))))  zr)
  (zg (zw (tN zx (xT 0) zq)
   (zg (zM PassesOwn.never rfl (yn (xT 0)) (gN 2 scMeets.nd)
    (zh (zw (zX (cA GM hr (jA2 (xT 2) (jv 1))))
     (zh (zp zT))  zr)))
   (zh (zp zT)))  zr)
  (zg (zw (jW.pt (z9 (tN zx (xT 0) zq) (yc (tN zx (xT 0) (jv 1)))))
   (zh (zp zT))  zr)
  (zg (zw (jW.pt (z9 (tN zx (xT 0) zq) (z9 (tN zx (yd zP (xT 0) zn (fun _ _=>rfl)) zq) (yc (tN zx (yd zP (xT 0) zn (fun _ _=>rfl)) (jv 1))))))
   (zh (zp zT))  zr)
  (zh (zp (cA GM hr (jA2 (xX zP (jv 0) (yh zn)) (jv 1)))))))))),?_⟩
 cases b with
 |give y =>
  have h0:H p=some (.tup [.str "give",.str y]):=hI
  refine(ex2q rfl (ixT h0 aI0 ⟨rfl,(ex2q rfl (iteT ?_))⟩))
  rw[Bd.mt]at q
  exact q
 |iff y b c =>
  obtain⟨p1,p2,h0,h1,h2⟩:=hI
  rw[Bd.dp]at hd
  rw[Bd.mt]at q
  refine(ex2q rfl (ixT h0 aI0 ⟨rfl,(ex2q rfl (iteF (nxtC ?_)))⟩))
  refine(ex2q rfl (ixT h0 aI0 ⟨rfl,(ex2q rfl (iteT ?_))⟩))
  refine(ex2q rfl (ixT h0 aI2 (ex2q rfl ⟨p1,b,k,rfl,h1,by lia,(ex2q rfl ?_)⟩)))
  cases e:b.mt k with
  |true =>
   rw[e,UE]at q
   exact iteT q
  |false =>
   rw[e,uV]at q
   refine iteF ?_
   exact(ex2q rfl (ixT h0 aI3 (ex2q rfl ⟨p2,c,k,rfl,h2,by lia,q⟩)))
 |cs x as =>
  obtain⟨p1,ts,h0,h1,hA⟩:=hI
  rw[Bd.dp]at hd
  rw[Bd.mt,Q9]at q
  have al:=IsArms.len hA
  refine(ex2q rfl (ixT h0 aI0 ⟨rfl,(ex2q rfl (iteF (nxtC ?_)))⟩))
  refine(ex2q rfl (ixT h0 aI0 ⟨rfl,(ex2q rfl (iteF (nxtC ?_)))⟩))
  refine(ex2q rfl (ixT h0 aI0 ⟨rfl,(ex2q rfl (iteT ?_))⟩))
  refine(ex2q rfl (ixT h0 aI2 ⟨p1,rfl,⟨_,SqT.of h1⟩,yt (xs:=ts.map V.ref) (fun i σ H'=>H=H'/\(∃z,σ=[some (.ref p),some (.str k),z])/\((as.l.take i).any fun a=>a.b.mt k)=false) ⟨rfl,⟨none,rfl⟩,rfl⟩ (fun i σ H' _ h=>SqT.of (h.1 ▸ h1)) ?_ ?_⟩))
  ·rintro i v σ H2 hv ⟨rfl,⟨z,rfl⟩,ha⟩
   rw[ug]at hv
   obtain⟨pa,hpa,rfl⟩:=uj.mp hv
   obtain⟨a,q1,r1,g1,g2,g3,g4⟩:=hA.get hpa
   have hm:=uw g1
   have ad:=xt hm
   have tk:as.l.take (i+1)=as.l.take i++[a]:=by rw[uJ,g1];rfl
   refine(ex2q rfl (ixT g2 aI4 (ex2q rfl ⟨r1,a.b,k,rfl,g4,by lia,(ex2q rfl ?_)⟩)))
   cases e:a.b.mt k with
   |true =>
    rw[UG.mpr ⟨a,hm,e⟩]at q
    exact iteT q
   |false=>exact iteF (nxtC ⟨rfl,⟨_,rfl⟩,by rw[tk,Ur,ha,uV,uO,List.any_nil,Bool.or_false];exact e⟩)
  ·rintro σ H2 ⟨rfl,⟨z,rfl⟩,ha⟩
   rw[ua,al,uz (ud _)]at ha
   rw[ha]at q
   exact q
 |loose y b =>
  obtain⟨p1,h0,h1⟩:=hI
  rw[Bd.dp]at hd
  rw[Bd.mt]at q
  refine(ex2q rfl (ixT h0 aI0 ⟨rfl,(ex2q rfl (iteF (nxtC ?_)))⟩))
  refine(ex2q rfl (ixT h0 aI0 ⟨rfl,(ex2q rfl (iteF (nxtC ?_)))⟩))
  refine(ex2q rfl (ixT h0 aI0 ⟨rfl,(ex2q rfl (iteF (nxtC ?_)))⟩))
  refine(ex2q rfl (ixT h0 aI0 ⟨rfl,(ex2q rfl (iteT (ex2q rfl (ixT h0 aI1 (ex2q rfl ⟨rfl,(ex2q rfl ?_)⟩)))))⟩))
  by_cases c:y=k
  ·refine zE (decide_eq_true (congrArg V.str c)) ?_
   rw[decide_eq_true c,UE]at q
   exact q
  ·refine iteE (decide_eq_false fun z=>c (V.str.inj z)) (nxtC ?_)
   rw[decide_eq_false c,uV]at q
   refine(ex2q rfl (ixT h0 aI0 ⟨rfl,(ex2q rfl (iteF (iteF (nxtC ?_))))⟩))
   exact(ex2q rfl (ex2q rfl ⟨p,_,_,_,rfl,rfl,SqT.of h0,zC [.str "loose",.str y] _,(ex2q rfl ⟨p1,b,k,rfl,h1,by lia,q⟩)⟩))
 |lt y d b =>
  obtain⟨p1,p2,h0,h1,h2⟩:=hI
  rw[Bd.dp]at hd
  rw[Bd.mt]at q
  refine(ex2q rfl (ixT h0 aI0 ⟨rfl,(ex2q rfl (iteF (nxtC ?_)))⟩))
  refine(ex2q rfl (ixT h0 aI0 ⟨rfl,(ex2q rfl (iteF (nxtC ?_)))⟩))
  refine(ex2q rfl (ixT h0 aI0 ⟨rfl,(ex2q rfl (iteF (nxtC ?_)))⟩))
  refine(ex2q rfl (ixT h0 aI0 ⟨rfl,(ex2q rfl (iteF (iteF (nxtC ?_))))⟩))
  refine(ex2q rfl (ixT h0 aI0 ⟨rfl,(ex2q rfl (iteT ?_))⟩))
  have fin:mtD k d=false->xg n [.ref p2,.str k] H Q E0:=fun e=>⟨p2,b,k,rfl,h2,by lia,by rw[e,uV]at q;exact q⟩
  rcases V0 h1 with⟨t,ns,j,q1,rfl,g0⟩|⟨t,xs,g0,gt,gm⟩
  ·refine(ex2q rfl (ixT h0 aI2 (ixT g0 aI0 ⟨rfl,(ex2q rfl (iteT ?_))⟩)))
   refine(ex2q rfl (ixT h0 aI2 (ixT g0 aI3 (ex2q rfl ⟨rfl,(ex2q rfl ?_)⟩))))
   by_cases c:j=k
   ·refine zE (decide_eq_true (congrArg V.str c)) ?_
    have em:mtD k (.mk t ns j)=true:=decide_eq_true c
    rw[em,UE]at q
    exact q
   ·refine iteE (decide_eq_false fun z=>c (V.str.inj z)) (nxtC ?_)
    exact(ex2q rfl (ex2q rfl ⟨p,_,_,_,rfl,rfl,SqT.of h0,zC [.str "let",.str y,.ref p1] _,(ex2q rfl (fin (decide_eq_false c)))⟩))
  ·refine(ex2q rfl (ixT h0 aI2 (ixT g0 aI0 ⟨rfl,(ex2q rfl (iteE (decide_eq_false fun z=>gt (V.str.inj z)) (iteF (nxtC ?_))))⟩)))
   exact(ex2q rfl (ex2q rfl ⟨p,_,_,_,rfl,rfl,SqT.of h0,zC [.str "let",.str y,.ref p1] _,(ex2q rfl (fin (V1 gm)))⟩))
 |hold y z b =>
  obtain⟨p1,h0,h1⟩:=hI
  rw[Bd.dp]at hd
  rw[Bd.mt]at q
  refine(ex2q rfl (ixT h0 aI0 ⟨rfl,(ex2q rfl (iteF (nxtC ?_)))⟩))
  refine(ex2q rfl (ixT h0 aI0 ⟨rfl,(ex2q rfl (iteF (nxtC ?_)))⟩))
  refine(ex2q rfl (ixT h0 aI0 ⟨rfl,(ex2q rfl (iteF (nxtC ?_)))⟩))
  refine(ex2q rfl (ixT h0 aI0 ⟨rfl,(ex2q rfl (iteF (iteF (nxtC ?_))))⟩))
  refine(ex2q rfl (ixT h0 aI0 ⟨rfl,(ex2q rfl (iteF (iteF (nxtC ?_))))⟩))
  exact(ex2q rfl (ex2q rfl ⟨p,_,_,_,rfl,rfl,SqT.of h0,zC [.str "hold",.str y,.str z] _,(ex2q rfl ⟨p1,b,k,rfl,h1,by lia,q⟩)⟩))
 |drop y b =>
  obtain⟨p1,h0,h1⟩:=hI
  rw[Bd.dp]at hd
  rw[Bd.mt]at q
  refine(ex2q rfl (ixT h0 aI0 ⟨rfl,(ex2q rfl (iteF (nxtC ?_)))⟩))
  refine(ex2q rfl (ixT h0 aI0 ⟨rfl,(ex2q rfl (iteF (nxtC ?_)))⟩))
  refine(ex2q rfl (ixT h0 aI0 ⟨rfl,(ex2q rfl (iteF (nxtC ?_)))⟩))
  refine(ex2q rfl (ixT h0 aI0 ⟨rfl,(ex2q rfl (iteF (iteF (nxtC ?_))))⟩))
  refine(ex2q rfl (ixT h0 aI0 ⟨rfl,(ex2q rfl (iteF (iteF (nxtC ?_))))⟩))
  exact(ex2q rfl (ex2q rfl ⟨p,_,_,_,rfl,rfl,SqT.of h0,zC [.str "drop",.str y] _,(ex2q rfl ⟨p1,b,k,rfl,h1,by lia,q⟩)⟩))
theorem scLoosed:FnScope lS1 lS1 (zo jw):=.ok
theorem zce{H:Hp}{b:Bd}{p:Addr}(h:IsBd H b p):(∃y b1 p1,b=.loose y b1/\H p=some (.tup [.str "loose",.str y,.ref p1])/\IsBd H b1 p1)\/(∃t xs,H p=some (.tup (.str t::xs))/\t≠"loose"/\∀k,yx k b=false):=by
 cases b with
 |loose y b=>obtain⟨p1,h0,h1⟩:=h;exact .inl ⟨y,b,p1,rfl,h0,h1⟩
 |give x=>exact .inr ⟨"give",_,h,by decide,fun _=>rfl⟩
 |lt x d b=>obtain⟨p1,p2,h0,_⟩:=h;exact .inr ⟨_,_,h0,by decide,fun _=>rfl⟩
 |hold x y b=>obtain⟨p1,h0,_⟩:=h;exact .inr ⟨_,_,h0,by decide,fun _=>rfl⟩
 |drop x b=>obtain⟨p1,h0,_⟩:=h;exact .inr ⟨_,_,h0,by decide,fun _=>rfl⟩
 |iff x b c=>obtain⟨p1,p2,h0,_⟩:=h;exact .inr ⟨_,_,h0,by decide,fun _=>rfl⟩
 |cs x as=>obtain⟨p1,ts,h0,_⟩:=h;exact .inr ⟨_,_,h0,by decide,fun _=>rfl⟩
theorem XR{n:Nat}(F:Fun K "_law_loosed" "_law_loosed" jw f fd)(GM:Ca P w K mg base CX0 (1+n) "_law_meets" lS1 (xg n)):FnOk P w K mg base CX0 (1+n+1) f fd lS1 (vO n):=by
 refine F.by scLoosed (fun vs H Q E h=>?_) (fun cdv A outer s H vs Q E hr h=>?_)
 ·obtain⟨p,b,k,rfl,_⟩:=h
  rfl
 obtain⟨p,b,k,rfl,hI,hd,q⟩:=h
 refine⟨_,
  (zg (xn PassesOwn.never (tN zx (xT 0) zq)
   (zg (zw (tN zx (xT 0) (jv 1))
    (zh (zp (Wm (cA GM hr (jA2 (xT 0) (jv 1))))))  zr)
   (zh (sE 0 scLoosed.nd (xT 0)))))
  (zh (zp zT))),?_⟩
 refine⟨fun m σ H'=>H=H'/\∃(p':Addr)(b':Bd),m=b'.dp/\σ=[some (.ref p'),some (.str k)]/\IsBd H b' p'/\b'.dp<=n/\yx k b'=yx k b,(ex2q rfl ⟨p,b,rfl,rfl,hI,hd,rfl⟩),?_⟩
 rintro m σ H' ⟨rfl,p',b',rfl,rfl,hb,hd',eq⟩
 rcases zce hb with⟨y,b1,p1,rfl,h0,h1⟩|⟨t,xs,h0,ht,hl⟩
 ·refine(ex2q rfl (ixT h0 aI0 ⟨rfl,(ex2q rfl (iteT ⟨_,fun _ _ h=>h,?_⟩))⟩))
  refine(ex2q rfl (ixT h0 aI1 (ex2q rfl ⟨rfl,(ex2q rfl ?_)⟩)))
  rw[Bd.dp]at hd'
  have el:yx k (.loose y b1)=if y=k then !b1.mt k else yx k b1:=rfl
  by_cases c:y=k
  ·refine zE (decide_eq_true (congrArg V.str c)) ?_
   rw[el,if_pos c]at eq
   rw[<- eq]at q
   exact(ex2q rfl (ixT h0 aI2 (ex2q rfl ⟨p1,b1,k,rfl,h1,by lia,(ex2q rfl (q))⟩)))
  ·refine iteE (decide_eq_false fun z=>c (V.str.inj z)) (nxtC ?_)
   rw[el,if_neg c]at eq
   exact(ex2q rfl (ixT h0 aI2 ⟨_,by rw[Bd.dp];exact Uf _,rfl,p1,b1,rfl,rfl,h1,by lia,eq⟩))
 ·refine(ex2q rfl (ixT h0 aI0 ⟨rfl,(ex2q rfl (iteE (decide_eq_false fun z=>ht (V.str.inj z)) ?_))⟩))
  rw[<- eq,hl]at q
  exact q
theorem zaa{k:Str}{n:Nat}{free:List Str}:∀as:Arms,as.pd k n free=as.l.all fun a=>a.b.pd k n free
 |.nil=>by unfold Arms.l;rw[Arms.pd];rfl
 |.cons t ns m j b r=>by unfold Arms.l;rw[Arms.pd,zaa r,UJ]
theorem Xg{n:Nat}{free:List Str}{d:Dd}(h:mkD d=[]):fitD n free d=false:=by unfold fitD;rw[h];rfl
def vP(N:Nat):Sp:=fun vs H Q _=>∃(p fr:Addr)(b:Bd)(k:Str)(m:Nat)(free:List Str),vs=[.ref p,.str k,.int (m:Nat),.ref fr]/\IsBd H b p/\b.dp<=N/\H fr=some (.lst (free.map V.str))/\Q (.bl (b.pd k m free)) H
theorem scPaid:FnScope ["_law_body_here","_law_token","_law_many","_law_free","_law_arm_here"] lS2 (zo YI):=.ok
theorem V3(F:Fun K "_law_paid" "_law_paid" YI f fd):FnOk P w K mg base CX0 3 f fd lS2 (vP 0):=by
 refine F.by scPaid (fun vs H Q E h=>?_) (fun cdv A outer s H vs Q E hr h=>?_)
 ·obtain⟨p,fr,b,k,m,free,rfl,_⟩:=h
  rfl
 obtain⟨p,fr,b,k,m,free,rfl,_,hd,_⟩:=h
 exact absurd hd (UN b.dp_pos)
theorem Qw{n:Nat}(F:Fun K "_law_paid" "_law_paid" YI f fd)(GP:Ca P w K mg base CX0 (3+n) "_law_paid" lS2 (vP n))(GS:Ca P w K mg base CX0 (1+(n+1)) "_law_stands" lS5 (xv (n+1)))(GL:Ca P w K mg base CX0 (1+(n+1)+1) "_law_loosed" lS1 (vO (n+1)))(GF:Ca P w K mg base CX0 1 "_law_fits" lS10 Yp)(GM:Ca P w K mg base CX0 (1+(n+1)) "_law_meets" lS1 (xg (n+1))):FnOk P w K mg base CX0 (3+(n+1)) f fd lS2 (vP (n+1)):=by
 refine F.by scPaid (fun vs H Q E h=>?_) (fun cdv A outer s H vs Q E hr h=>?_)
 ·obtain⟨p,fr,b,k,m,free,rfl,_⟩:=h
  rfl
 obtain⟨p,fr,b,k,m,free,rfl,hI,hd,hf,q⟩:=h
 have hrP:Room (3+n) _:=hr
 have hrL:Room (1+(n+1)+1) _:=hrP.mono (by lia)
 have hrS:Room (1+(n+1)) _:=hrP.mono (by lia)
 have hr1:Room 1 _:=hrP.mono (by lia)
 refine⟨_,
  (zg (zw (xH (zX (cA GS hrS (jA3 (jv 0) (jv 2) (jv 3)))))
   (zh (zp (cA GL hrL (jA2 (jv 0) (jv 1)))))  zr)
  (zg (zw (tN zx (xT 0) zq)
   (zh (zp (ve (cA GP hrP (jA4 (xT 0) (jv 1) (jv 2) (jv 3))) (xj (cA GP hrP (jA4 (xT 0) (jv 1) (jv 2) (jv 3)))))))  zr)
  (zg (zw (tN zx (xT 0) zq)
   (zg (zM PassesOwn.never rfl (yn (xT 0)) (gN 4 scPaid.nd)
    (zh (zw (xH (zX (cA GP hrP (jA4 (xT 4) (jv 1) (jv 2) (jv 3)))))
     (zh (zp zT))  zr)))
   (zh (zp zT)))  zr)
  (zg (zw (jW.pt (z9 (tN zx (xT 0) zq) (yc (tN zx (xT 0) (jv 1)))))
   (zh (zp zT))  zr)
  (zg (zw (jW.pt (z9 (tN zx (xT 0) zq) (yc (zX (cA GF hr1 (jA3 (xT 0) (jv 2) (jv 3)))))))
   (zh (zp (ve (yu zx (yd zP (xT 0) zn (fun _ _=>rfl)) (jv 1) (yO _)) (xj (Wm (cA GM hrS (jA2 (xT 0) (jv 1))))))))  zr)
  (zg (zw (jW.pt (z9 (tN zx (xT 0) zq) (z9 (tN zx (yd zP (xT 0) zn (fun _ _=>rfl)) zq) (yc (tN zx (yd zP (xT 0) zn (fun _ _=>rfl)) (jv 1))))))
   (zh (zp zT))  zr)
  (zh (zp (cA GP hrP (jA4 (xX zP (jv 0) (yh zn)) (jv 1) (jv 2) (jv 3))))))))))),?_⟩
 refine(ex2q rfl (ex2q rfl (ex2q rfl ⟨p,fr,b,m,free,rfl,hI,hd,hf,(ex2q rfl ?_)⟩)))
 cases e:stB m free b with
 |false =>
  refine iteT ?_
  rw[VC e]at q
  exact(ex2q rfl (ex2q rfl ⟨p,b,k,rfl,hI,hd,q⟩))
 |true =>
 refine iteF (nxtC ?_)
 cases b with
 |give y=>unfold stB at e;rw[Bd.mks]at e;cases e
 |iff y b c =>
  obtain⟨p1,p2,h0,h1,h2⟩:=hI
  rw[Bd.dp]at hd
  rw[Bd.pd,if_neg (by rw[e];decide)]at q
  refine(ex2q rfl (ixT h0 aI0 ⟨rfl,(ex2q rfl (iteT ?_))⟩))
  refine(ex2q rfl (ixT h0 aI2 (ex2q rfl (ex2q rfl (ex2q rfl ⟨p1,fr,b,k,m,free,rfl,h1,by lia,hf,(ex2q rfl ?_)⟩)))))
  cases e1:b.pd k m free with
  |true =>
   rw[e1,UW]at q
   refine iteT ?_
   exact(ex2q rfl (ixT h0 aI3 (ex2q rfl (ex2q rfl (ex2q rfl ⟨p2,fr,c,k,m,free,rfl,h2,by lia,hf,q⟩)))))
  |false =>
   rw[e1,UR]at q
   exact iteF q
 |cs x as =>
  obtain⟨p1,ts,h0,h1,hA⟩:=hI
  rw[Bd.dp]at hd
  rw[Bd.pd,if_neg (by rw[e];decide),zaa]at q
  have al:=IsArms.len hA
  refine(ex2q rfl (ixT h0 aI0 ⟨rfl,(ex2q rfl (iteF (nxtC ?_)))⟩))
  refine(ex2q rfl (ixT h0 aI0 ⟨rfl,(ex2q rfl (iteT ?_))⟩))
  refine(ex2q rfl (ixT h0 aI2 ⟨p1,rfl,⟨_,SqT.of h1⟩,yt (xs:=ts.map V.ref) (fun i σ H'=>H=H'/\(∃z,σ=[some (.ref p),some (.str k),some (.int (m:Nat)),some (.ref fr),z])/\((as.l.take i).all fun a=>a.b.pd k m free)=true) ⟨rfl,⟨none,rfl⟩,rfl⟩ (fun i σ H' _ h=>SqT.of (h.1 ▸ h1)) ?_ ?_⟩))
  ·rintro i v σ H2 hv ⟨rfl,⟨z,rfl⟩,ha⟩
   rw[ug]at hv
   obtain⟨pa,hpa,rfl⟩:=uj.mp hv
   obtain⟨a,q1,r1,g1,g2,g3,g4⟩:=hA.get hpa
   have hm:=uw g1
   have ad:=xt hm
   have tk:as.l.take (i+1)=as.l.take i++[a]:=by rw[uJ,g1];rfl
   refine(ex2q rfl (ixT g2 aI4 (ex2q rfl (ex2q rfl (ex2q rfl ⟨r1,fr,a.b,k,m,free,rfl,g4,by lia,hf,(ex2q rfl ?_)⟩)))))
   cases e1:a.b.pd k m free with
   |false =>
    rw[show(as.l.all fun a=>a.b.pd k m free)=false from List.all_eq_false.mpr ⟨a,hm,by rw[e1];decide⟩]at q
    exact iteT q
   |true=>exact iteF (nxtC ⟨rfl,⟨_,rfl⟩,by rw[tk,List.all_append,ha,UW,UJ,List.all_nil,Bool.and_true];exact e1⟩)
  ·rintro σ H2 ⟨rfl,⟨z,rfl⟩,ha⟩
   rw[ua,al,uz (ud _)]at ha
   rw[ha]at q
   exact q
 |loose y b =>
  obtain⟨p1,h0,h1⟩:=hI
  rw[Bd.dp]at hd
  rw[Bd.pd,if_neg (by rw[e];decide)]at q
  refine(ex2q rfl (ixT h0 aI0 ⟨rfl,(ex2q rfl (iteF (nxtC ?_)))⟩))
  refine(ex2q rfl (ixT h0 aI0 ⟨rfl,(ex2q rfl (iteF (nxtC ?_)))⟩))
  refine(ex2q rfl (ixT h0 aI0 ⟨rfl,(ex2q rfl (iteT (ex2q rfl (ixT h0 aI1 (ex2q rfl ⟨rfl,(ex2q rfl ?_)⟩)))))⟩))
  by_cases c:y=k
  ·refine zE (decide_eq_true (congrArg V.str c)) ?_
   rw[if_pos c]at q
   exact q
  ·refine iteE (decide_eq_false fun z=>c (V.str.inj z)) (nxtC ?_)
   rw[if_neg c]at q
   refine(ex2q rfl (ixT h0 aI0 ⟨rfl,(ex2q rfl (iteF (iteF (nxtC ?_))))⟩))
   refine(ex2q rfl (ixT h0 aI0 ⟨rfl,(ex2q rfl (iteF (iteF (nxtC ?_))))⟩))
   exact(ex2q rfl (ex2q rfl ⟨p,_,_,_,rfl,rfl,SqT.of h0,zC [.str "loose",.str y] _,(ex2q rfl (ex2q rfl (ex2q rfl ⟨p1,fr,b,k,m,free,rfl,h1,by lia,hf,q⟩)))⟩))
 |lt y d b =>
  obtain⟨p0,p1,h0,hD,h1⟩:=hI
  rw[Bd.dp]at hd
  rw[Bd.pd,if_neg (by rw[e];decide)]at q
  refine(ex2q rfl (ixT h0 aI0 ⟨rfl,(ex2q rfl (iteF (nxtC ?_)))⟩))
  refine(ex2q rfl (ixT h0 aI0 ⟨rfl,(ex2q rfl (iteF (nxtC ?_)))⟩))
  refine(ex2q rfl (ixT h0 aI0 ⟨rfl,(ex2q rfl (iteF (iteF (nxtC ?_))))⟩))
  refine(ex2q rfl (ixT h0 aI0 ⟨rfl,(ex2q rfl (iteT (ex2q rfl (ixT h0 aI2 (ex2q rfl (ex2q rfl ⟨p0,fr,d,m,free,rfl,hD,hf,(ex2q rfl ?_)⟩))))))⟩))
  rcases V0 hD with⟨t,ns,j,q1,rfl,g0⟩|⟨t,xs,g0,gt,gm⟩
  ·cases e1:fitD m free (.mk t ns j)with
   |true =>
    rw[if_pos e1]at q
    refine iteT ?_
    refine(ex2q rfl (ixT h0 aI2 (ixT g0 aI3 (ex2q rfl ⟨rfl,(ex2q rfl ?_)⟩))))
    by_cases c:j=k
    ·refine zE (decide_eq_true (congrArg V.str c)) ?_
     have em:mtD k (.mk t ns j)=true:=decide_eq_true c
     rw[em,UW]at q
     exact(ex2q rfl (ixT h0 aI3 (ex2q rfl ⟨p1,b,k,rfl,h1,by lia,(ex2q rfl (q))⟩)))
    ·refine iteE (decide_eq_false fun z=>c (V.str.inj z)) ?_
     have em:mtD k (.mk t ns j)=false:=decide_eq_false c
     rw[em,UR]at q
     exact q
   |false =>
    rw[if_neg (by rw[e1];decide)]at q
    refine iteF (nxtC ?_)
    refine(ex2q rfl (ixT h0 aI0 ⟨rfl,(ex2q rfl (iteT ?_))⟩))
    refine(ex2q rfl (ixT h0 aI2 (ixT g0 aI0 ⟨rfl,(ex2q rfl (iteT ?_))⟩)))
    refine(ex2q rfl (ixT h0 aI2 (ixT g0 aI3 (ex2q rfl ⟨rfl,(ex2q rfl ?_)⟩))))
    by_cases c:j=k
    ·refine zE (decide_eq_true (congrArg V.str c)) ?_
     have em:mtD k (.mk t ns j)=true:=decide_eq_true c
     rw[if_pos em]at q
     exact q
    ·refine iteE (decide_eq_false fun z=>c (V.str.inj z)) (nxtC ?_)
     have em:mtD k (.mk t ns j)=false:=decide_eq_false c
     rw[if_neg (by rw[em];decide)]at q
     exact(ex2q rfl (ex2q rfl ⟨p,_,_,_,rfl,rfl,SqT.of h0,zC [.str "let",.str y,.ref p0] _,(ex2q rfl (ex2q rfl (ex2q rfl ⟨p1,fr,b,k,m,free,rfl,h1,by lia,hf,q⟩)))⟩))
  ·rw[Xg gm]
   rw[Xg gm,if_neg (by decide),if_neg (by rw[V1 gm];decide)]at q
   refine iteF (nxtC ?_)
   refine(ex2q rfl (ixT h0 aI0 ⟨rfl,(ex2q rfl (iteT ?_))⟩))
   refine(ex2q rfl (ixT h0 aI2 (ixT g0 aI0 ⟨rfl,(ex2q rfl (iteE (decide_eq_false fun z=>gt (V.str.inj z)) (iteF (nxtC ?_))))⟩)))
   exact(ex2q rfl (ex2q rfl ⟨p,_,_,_,rfl,rfl,SqT.of h0,zC [.str "let",.str y,.ref p0] _,(ex2q rfl (ex2q rfl (ex2q rfl ⟨p1,fr,b,k,m,free,rfl,h1,by lia,hf,q⟩)))⟩))
 |hold y z b =>
  obtain⟨p1,h0,h1⟩:=hI
  rw[Bd.dp]at hd
  rw[Bd.pd,if_neg (by rw[e];decide)]at q
  refine(ex2q rfl (ixT h0 aI0 ⟨rfl,(ex2q rfl (iteF (nxtC ?_)))⟩))
  refine(ex2q rfl (ixT h0 aI0 ⟨rfl,(ex2q rfl (iteF (nxtC ?_)))⟩))
  refine(ex2q rfl (ixT h0 aI0 ⟨rfl,(ex2q rfl (iteF (iteF (nxtC ?_))))⟩))
  refine(ex2q rfl (ixT h0 aI0 ⟨rfl,(ex2q rfl (iteF (iteF (nxtC ?_))))⟩))
  refine(ex2q rfl (ixT h0 aI0 ⟨rfl,(ex2q rfl (iteF (iteF (nxtC ?_))))⟩))
  exact(ex2q rfl (ex2q rfl ⟨p,_,_,_,rfl,rfl,SqT.of h0,zC [.str "hold",.str y,.str z] _,(ex2q rfl (ex2q rfl (ex2q rfl ⟨p1,fr,b,k,m,free,rfl,h1,by lia,hf,q⟩)))⟩))
 |drop y b =>
  obtain⟨p1,h0,h1⟩:=hI
  rw[Bd.dp]at hd
  rw[Bd.pd,if_neg (by rw[e];decide)]at q
  refine(ex2q rfl (ixT h0 aI0 ⟨rfl,(ex2q rfl (iteF (nxtC ?_)))⟩))
  refine(ex2q rfl (ixT h0 aI0 ⟨rfl,(ex2q rfl (iteF (nxtC ?_)))⟩))
  refine(ex2q rfl (ixT h0 aI0 ⟨rfl,(ex2q rfl (iteF (iteF (nxtC ?_))))⟩))
  refine(ex2q rfl (ixT h0 aI0 ⟨rfl,(ex2q rfl (iteF (iteF (nxtC ?_))))⟩))
  refine(ex2q rfl (ixT h0 aI0 ⟨rfl,(ex2q rfl (iteF (iteF (nxtC ?_))))⟩))
  exact(ex2q rfl (ex2q rfl ⟨p,_,_,_,rfl,rfl,SqT.of h0,zC [.str "drop",.str y] _,(ex2q rfl (ex2q rfl (ex2q rfl ⟨p1,fr,b,k,m,free,rfl,h1,by lia,hf,q⟩)))⟩))
end
mutual
theorem Bd.ar_dim:∀{b:Bd}{a:ArmR},a∈b.ar->a.b.dp<=b.dp/\a.b.sz<=b.sz
 |.give _,a,h=>by rw[Bd.ar]at h;cases h
 |.lt _ _ b,a,h=>by rw[Bd.ar]at h;have:=Bd.ar_dim h;rw[Bd.dp,Bd.sz];lia
 |.hold _ _ b,a,h=>by rw[Bd.ar]at h;have:=Bd.ar_dim h;rw[Bd.dp,Bd.sz];lia
 |.drop _ b,a,h=>by rw[Bd.ar]at h;have:=Bd.ar_dim h;rw[Bd.dp,Bd.sz];lia
 |.loose _ b,a,h=>by rw[Bd.ar]at h;have:=Bd.ar_dim h;rw[Bd.dp,Bd.sz];lia
 |.iff _ b c,a,h=>by
  rw[Bd.ar]at h
  rw[Bd.dp,Bd.sz]
  rcases uv.mp h with h|h
  ·have:=Bd.ar_dim h;lia
  ·have:=Bd.ar_dim h;lia
 |.cs _ as,a,h=>by
  rw[Bd.ar]at h
  rw[Bd.dp,Bd.sz]
  rcases uv.mp h with h|h
  ·have:=xt h;have:=j7 h;lia
  ·have:=Arms.ar_dim h;lia
theorem Arms.ar_dim:∀{as:Arms}{a:ArmR},a∈as.ar->a.b.dp<=as.dp/\a.b.sz<=as.sz
 |.nil,a,h=>by rw[Arms.ar]at h;cases h
 |.cons _ _ _ _ b r,a,h=>by
  rw[Arms.ar]at h
  rw[Arms.dp,Arms.sz]
  rcases uv.mp h with h|h
  ·have:=Bd.ar_dim h;lia
  ·have:=Arms.ar_dim h;lia
end
theorem zab{ts:List Str}:∀as:Arms,as.sy ts=as.l.any fun a=>a.b.sy (ts++[a.k])
 |.nil=>by unfold Arms.l;rw[Arms.sy];rfl
 |.cons t ns m j b r=>by unfold Arms.l;rw[Arms.sy,zab r,uO]
theorem zbB{ts:List Str}{d:Dd}(h:mkD d=[]):syD ts d=false:=VY fun q hq=>by rw[h]at hq;cases hq
def ww(N:Nat):Sp:=fun vs H Q _=>∃(p tl:Addr)(b:Bd)(ts:List Str),vs=[.ref p,.ref tl]/\IsBd H b p/\b.dp<=N/\ts.length+N<=1000/\H tl=some (.lst (ts.map V.str))/\∀H',Same H H'->Q (.bl (b.sy ts)) H'
def ZL(N:Nat):Sp:=fun vs H Q _=>∃(p:Addr)(b:Bd),vs=[.ref p]/\IsBd H b p/\b.dp<=N/\b.sz<=1000000/\(∀a∈b.ar,jd a)/\∀H',Same H H'->Q (.bl true) H'
section
variable{P:Program}{w:World}{K:uc}{mg:Str->Option Value}{base:Heap}{f:Addr}{fd:FuncData}
theorem scStray:FnScope ["_law_body_here","_law_tokens","_law_arm_here"] lS11 (zo jx):=.ok
theorem XS(F:Fun K "_law_stray" "_law_stray" jx f fd):FnOk P w K mg base CX0 1 f fd lS11 (ww 0):=by
 refine F.by scStray (fun vs H Q E h=>?_) (fun cdv A outer s H vs Q E hr h=>?_)
 ·obtain⟨p,tl,b,ts,rfl,_⟩:=h
  rfl
 obtain⟨p,tl,b,ts,rfl,_,hd,_⟩:=h
 exact absurd hd (UN b.dp_pos)
theorem V4{n:Nat}(F:Fun K "_law_stray" "_law_stray" jx f fd)(GY:Ca P w K mg base CX0 (1+n) "_law_stray" lS11 (ww n)):FnOk P w K mg base CX0 (1+(n+1)) f fd lS11 (ww (n+1)):=by
 refine F.by scStray (fun vs H Q E h=>?_) (fun cdv A outer s H vs Q E hr h=>?_)
 ·obtain⟨p,tl,b,ts,rfl,_⟩:=h
  rfl
 obtain⟨p,tl,b,ts,rfl,hI,hd,hl,ht,q⟩:=h
 refine⟨_,
  (zg (zw (tN zx (xT 0) zq)
   (zh (zp zT))  zr)
  (zg (zw (tN zx (xT 0) zq)
   (zh (zp (YD (cA GY hr (jA2 (xT 0) (jv 1))) (xj (cA GY hr (jA2 (xT 0) (jv 1)))))))  zr)
  (zg (zw (tN zx (xT 0) zq)
   (zg (zM PassesOwn.never rfl (yn (xT 0)) (gN 2 scStray.nd)
    (zh (zw (zX (cA GY hr (jA2 (xT 2) (zu ya (jv 1) (zy (jA1 (xT 2)))))))
     (zh (zp zT))  zr)))
   (zh (zp zT)))  zr)
  (zg (zw (jW.pt (z9 (tN zx (xT 0) zq) (yc (xx xS (xT 0) (jv 1) (by with_unfolding_all rfl)))))
   (zh (zp zT))  zr)
  (zg (zw (jW.pt (z9 (tN zx (xT 0) zq) (z9 (tN zx (yd zP (xT 0) zn (fun _ _=>rfl)) zq) (yc (xx xS (yd zP (xT 0) zn (fun _ _=>rfl)) (zu ya (jv 1) (zy (jA1 zq))) (by with_unfolding_all rfl))))))
   (zh (zp zT))  zr)
  (zh (zp (cA GY hr (jA2 (xX zP (jv 0) (yh zn)) (jv 1)))))))))),?_⟩
 have sl:=zK
 cases b with
 |give y =>
  have h0:H p=some (.tup [.str "give",.str y]):=hI
  refine(ex2q rfl (ixT h0 aI0 ⟨rfl,(ex2q rfl (iteT ?_))⟩))
  have:=q H (.refl _)
  rw[Bd.sy]at this
  exact this
 |iff y b c =>
  obtain⟨p1,p2,h0,h1,h2⟩:=hI
  rw[Bd.dp]at hd
  rw[Bd.sy]at q
  refine(ex2q rfl (ixT h0 aI0 ⟨rfl,(ex2q rfl (iteF (nxtC ?_)))⟩))
  refine(ex2q rfl (ixT h0 aI0 ⟨rfl,(ex2q rfl (iteT ?_))⟩))
  refine(ex2q rfl (ixT h0 aI2 (ex2q rfl ⟨p1,tl,b,ts,rfl,h1,by lia,by lia,ht,fun H1 s1=>(ex2q rfl ?_)⟩)))
  cases e:b.sy ts with
  |true =>
   rw[e,UE]at q
   exact iteT (q H1 s1)
  |false =>
   rw[e,uV]at q
   refine iteF ?_
   exact(ex2q rfl (ixT (s1 _ _ h0) aI3 (ex2q rfl ⟨p2,tl,c,ts,rfl,h2.keep (.of s1),by lia,by lia,s1 _ _ ht,fun H2 s2=>q H2 (s1.trans s2)⟩)))
 |cs x as =>
  obtain⟨p1,us,h0,h1,hA⟩:=hI
  rw[Bd.dp]at hd
  rw[Bd.sy,zab]at q
  have al:=IsArms.len hA
  refine(ex2q rfl (ixT h0 aI0 ⟨rfl,(ex2q rfl (iteF (nxtC ?_)))⟩))
  refine(ex2q rfl (ixT h0 aI0 ⟨rfl,(ex2q rfl (iteF (nxtC ?_)))⟩))
  refine(ex2q rfl (ixT h0 aI0 ⟨rfl,(ex2q rfl (iteT ?_))⟩))
  refine(ex2q rfl (ixT h0 aI2 ⟨p1,rfl,⟨_,SqT.of h1⟩,yt (xs:=us.map V.ref) (fun i σ H'=>Same H H'/\(∃z,σ=[some (.ref p),some (.ref tl),z])/\((as.l.take i).any fun a=>a.b.sy (ts++[a.k]))=false) ⟨.refl _,⟨none,rfl⟩,rfl⟩ (fun i σ H' _ h=>SqT.of (h.1 _ _ h1)) ?_ ?_⟩))
  ·rintro i v σ H2 hv ⟨s2,⟨z,rfl⟩,ha⟩
   rw[ug]at hv
   obtain⟨pa,hpa,rfl⟩:=uj.mp hv
   obtain⟨a,q1,r1,g1,g2,g3,g4⟩:=hA.get hpa
   have hm:=uw g1
   have ad:=xt hm
   have tk:as.l.take (i+1)=as.l.take i++[a]:=by rw[uJ,g1];rfl
   refine(ex2q rfl (ixT (s2 _ _ g2) aI4 (ex2q rfl (ex2q rfl (ixT (s2 _ _ g2) aI3 ⟨sN1,fun l3 f3=>⟨tl,l3,(ex4q rfl rfl ⟨old f3 (s2 _ _ ht),zf,by rw[ua];show ts.length+1<=_;lia,fun l4 f4=>?_⟩)⟩⟩)))))
   have s4:=(s2.new (o:=.lst [.str a.k]) f3).new (o:=.lst (ts.map V.str++[.str a.k])) f4
   refine⟨r1,l4,a.b,ts++[a.k],rfl,g4.keep (.of s4),by lia,by rw[ub];show ts.length+1+n<=_;lia,by rw[zf,ui];rfl,fun H5 s5=>(ex2q rfl ?_)⟩
   cases e:a.b.sy (ts++[a.k])with
   |true =>
    have:=q H5 (s4.trans s5)
    rw[UG.mpr ⟨a,hm,e⟩]at this
    exact iteT this
   |false=>exact iteF (nxtC ⟨s4.trans s5,⟨_,rfl⟩,by rw[tk,Ur,ha,uV,uO,List.any_nil,Bool.or_false];exact e⟩)
  ·rintro σ H2 ⟨s2,⟨z,rfl⟩,ha⟩
   rw[ua,al,uz (ud _)]at ha
   have:=q H2 s2
   rw[ha]at this
   exact this
 |loose y b =>
  obtain⟨p1,h0,h1⟩:=hI
  rw[Bd.dp]at hd
  rw[Bd.sy]at q
  refine(ex2q rfl (ixT h0 aI0 ⟨rfl,(ex2q rfl (iteF (nxtC ?_)))⟩))
  refine(ex2q rfl (ixT h0 aI0 ⟨rfl,(ex2q rfl (iteF (nxtC ?_)))⟩))
  refine(ex2q rfl (ixT h0 aI0 ⟨rfl,(ex2q rfl (iteF (nxtC ?_)))⟩))
  refine(ex2q rfl (ixT h0 aI0 ⟨rfl,(ex2q rfl (iteT (ex2q rfl (ixT h0 aI1 (ex2q rfl ⟨tl,(ex2q rfl ⟨.inl (SqL.of ht),rfl,yE,(ex2q rfl ?_)⟩)⟩)))))⟩))
  by_cases c:y∈ts
  ·refine iteE (show(!inV _ _)=false by rw[yw,decide_eq_true c];rfl) (nxtC ?_)
   rw[decide_eq_true c,Bool.not_true,uV]at q
   refine(ex2q rfl (ixT h0 aI0 ⟨rfl,(ex2q rfl (iteF (iteF (nxtC ?_))))⟩))
   exact(ex2q rfl (ex2q rfl ⟨p,_,_,_,rfl,rfl,SqT.of h0,zC [.str "loose",.str y] _,(ex2q rfl ⟨p1,tl,b,ts,rfl,h1,by lia,by lia,ht,q⟩)⟩))
  ·refine zE (show(!inV _ _)=true by rw[yw,decide_eq_false c];rfl) ?_
   rw[decide_eq_false c,Bool.not_false,UE]at q
   exact q H (.refl _)
 |lt y d b =>
  obtain⟨p0,p1,h0,hD,h1⟩:=hI
  rw[Bd.dp]at hd
  rw[Bd.sy]at q
  refine(ex2q rfl (ixT h0 aI0 ⟨rfl,(ex2q rfl (iteF (nxtC ?_)))⟩))
  refine(ex2q rfl (ixT h0 aI0 ⟨rfl,(ex2q rfl (iteF (nxtC ?_)))⟩))
  refine(ex2q rfl (ixT h0 aI0 ⟨rfl,(ex2q rfl (iteF (nxtC ?_)))⟩))
  refine(ex2q rfl (ixT h0 aI0 ⟨rfl,(ex2q rfl (iteF (iteF (nxtC ?_))))⟩))
  refine(ex2q rfl (ixT h0 aI0 ⟨rfl,(ex2q rfl (iteT ?_))⟩))
  rcases V0 hD with⟨t,ns,j,q1,rfl,g0⟩|⟨t,xs,g0,gt,gm⟩
  ·refine(ex2q rfl (ixT h0 aI2 (ixT g0 aI0 ⟨rfl,(ex2q rfl (iteT ?_))⟩)))
   refine(ex2q rfl (ixT h0 aI2 (ixT g0 aI3 (ex2q rfl ⟨sN1,fun l3 f3=>⟨tl,l3,(ex4q rfl rfl ⟨old f3 ht,zf,by rw[ua];show ts.length+1<=_;lia,fun l4 f4=>?_⟩)⟩⟩))))
   have s4:=(zj (o:=.lst [.str ""]) f3).new (o:=.lst (ts.map V.str++[.str ""])) f4
   have e4:upd (upd H l3 (.lst [.str ""])) l4 (.lst (ts.map V.str++[.str ""])) l4=some (.lst ((ts++[("":Str)]).map V.str)):=by rw[zf,ui];rfl
   refine⟨l4,(ex2q rfl ⟨.inl (SqL.of e4),rfl,yE,(ex2q rfl ?_)⟩)⟩
   have es:syD ts (.mk t ns j)=!decide (j∈ts++[("":Str)]):=rfl
   rw[es]at q
   by_cases c:j∈ts++[("":Str)]
   ·refine iteE (show(!inV _ _)=false by rw[yw,decide_eq_true c];rfl) (nxtC ?_)
    rw[decide_eq_true c,Bool.not_true,uV]at q
    exact(ex2q rfl (ex2q rfl ⟨p,_,_,_,rfl,rfl,SqT.of (s4 _ _ h0),zC [.str "let",.str y,.ref p0] _,(ex2q rfl ⟨p1,tl,b,ts,rfl,h1.keep (.of s4),by lia,by lia,s4 _ _ ht,fun H' s'=>q H' (s4.trans s')⟩)⟩))
   ·refine zE (show(!inV _ _)=true by rw[yw,decide_eq_false c];rfl) ?_
    rw[decide_eq_false c,Bool.not_false,UE]at q
    exact q _ s4
  ·rw[zbB gm,uV]at q
   refine(ex2q rfl (ixT h0 aI2 (ixT g0 aI0 ⟨rfl,(ex2q rfl (iteE (decide_eq_false fun z=>gt (V.str.inj z)) (iteF (nxtC ?_))))⟩)))
   exact(ex2q rfl (ex2q rfl ⟨p,_,_,_,rfl,rfl,SqT.of h0,zC [.str "let",.str y,.ref p0] _,(ex2q rfl ⟨p1,tl,b,ts,rfl,h1,by lia,by lia,ht,q⟩)⟩))
 |hold y z b =>
  obtain⟨p1,h0,h1⟩:=hI
  rw[Bd.dp]at hd
  rw[Bd.sy]at q
  refine(ex2q rfl (ixT h0 aI0 ⟨rfl,(ex2q rfl (iteF (nxtC ?_)))⟩))
  refine(ex2q rfl (ixT h0 aI0 ⟨rfl,(ex2q rfl (iteF (nxtC ?_)))⟩))
  refine(ex2q rfl (ixT h0 aI0 ⟨rfl,(ex2q rfl (iteF (nxtC ?_)))⟩))
  refine(ex2q rfl (ixT h0 aI0 ⟨rfl,(ex2q rfl (iteF (iteF (nxtC ?_))))⟩))
  refine(ex2q rfl (ixT h0 aI0 ⟨rfl,(ex2q rfl (iteF (iteF (nxtC ?_))))⟩))
  exact(ex2q rfl (ex2q rfl ⟨p,_,_,_,rfl,rfl,SqT.of h0,zC [.str "hold",.str y,.str z] _,(ex2q rfl ⟨p1,tl,b,ts,rfl,h1,by lia,by lia,ht,q⟩)⟩))
 |drop y b =>
  obtain⟨p1,h0,h1⟩:=hI
  rw[Bd.dp]at hd
  rw[Bd.sy]at q
  refine(ex2q rfl (ixT h0 aI0 ⟨rfl,(ex2q rfl (iteF (nxtC ?_)))⟩))
  refine(ex2q rfl (ixT h0 aI0 ⟨rfl,(ex2q rfl (iteF (nxtC ?_)))⟩))
  refine(ex2q rfl (ixT h0 aI0 ⟨rfl,(ex2q rfl (iteF (nxtC ?_)))⟩))
  refine(ex2q rfl (ixT h0 aI0 ⟨rfl,(ex2q rfl (iteF (iteF (nxtC ?_))))⟩))
  refine(ex2q rfl (ixT h0 aI0 ⟨rfl,(ex2q rfl (iteF (iteF (nxtC ?_))))⟩))
  exact(ex2q rfl (ex2q rfl ⟨p,_,_,_,rfl,rfl,SqT.of h0,zC [.str "drop",.str y] _,(ex2q rfl ⟨p1,tl,b,ts,rfl,h1,by lia,by lia,ht,q⟩)⟩))
theorem scRight3:FnScope ["_law_body_here","_law_arm_here","_law_free"] ["_law_body_here"] (zo Yc):=.ok
theorem XT{N:Nat}(F:Fun K "_law_right" "_law_right" Yc f fd)(GA:Ca P w K mg base CX0 (1+N) "_law_arms" ["_law_body_here"] (wv N))(GW:Ca P w K mg base CX0 (1+N) "_law_within" ["_law_body_here"] (xu N))(GP:Ca P w K mg base CX0 (3+N) "_law_paid" lS2 (vP N))(m_len:mg "len"=none):FnOk P w K mg base CX0 (3+N+1) f fd ["_law_body_here"] (ZL N):=by
 refine F.by scRight3 (fun vs H Q E h=>?_) (fun cdv A outer s H vs Q E hr h=>?_)
 ·obtain⟨p,b,rfl,_⟩:=h
  rfl
 obtain⟨p,b,rfl,hI,hd,hz,hp,q⟩:=h
 have hrW:Room (1+N) _:=hr.mono (by lia)
 refine⟨_,
  (zg (zM PassesOwn.never rfl (ye (cA GA hrW (jA1 (jv 0)))) (gN 1 scRight3.nd)
   (zh (zw (tN v7 (xT 1) zq)
    (zg (sE 2 scRight3.nd (zu ya (cA GW hrW (jA1 (xT 1))) (zy (jA1 (xT 1)))))
    (zh (zw (xH (zX (cA GP hr (jA4 (xT 1) (xT 1) (jL m_len (xT 1)) (jv 2)))))
     (zh (zp zT))  zr)))  zr)))
  (zh (zp zT))),?_⟩
 have sl:=zK
 refine(ex2q rfl ⟨p,b,rfl,hI,hd,hz,fun H1 r1 us s1 e1 T1=>⟨r1,rfl,⟨_,SqL.of e1⟩,yQ (xs:=us.map V.ref) (fun i σ H'=>Same H1 H'/\∃y z,σ=[some (.ref p),y,z]) ⟨.refl _,none,none,rfl⟩ (fun i σ H' _ h=>SqL.of (h.1 _ _ e1)) ?_ ?_⟩⟩)
 ·rintro i v σ H2 hv ⟨s2,y,z,rfl⟩
  rw[ug]at hv
  obtain⟨pa,hpa,rfl⟩:=uj.mp hv
  obtain⟨a,ha,hR⟩:=T1.at hpa
  have ham:=uw ha
  obtain⟨q1,sb,h0,h1,hb⟩:=hR.tk (.of s2)
  have dm:=Bd.ar_dim ham
  refine(ex2q rfl (ixT h0 aI3 ⟨rfl,(ex2q rfl ?_)⟩))
  by_cases c:a.k=""
  ·exact iteE (show(!decide (V.str a.k=V.str ""))=false by rw[decide_eq_true (congrArg V.str c)];rfl) (nxtC ⟨s2,_,_,rfl⟩)
  refine zE (show(!decide (V.str a.k=V.str ""))=true by rw[decide_eq_false fun z=>c (V.str.inj z)];rfl) ?_
  have wz:=Xf a.b
  refine(ex2q rfl (ixT h0 aI4 ⟨sb,a.b,rfl,hb,by lia,by lia,fun H3 r3 s3 e3=>?_⟩))
  refine(ex2q rfl (ixT (s3 _ _ h0) aI3 ⟨sN1,fun l4 f4=>⟨r3,l4,(ex4q rfl rfl ⟨old f4 e3,zf,by rw[ua];show(wiB a.b).length+1<=_;lia,fun l5 f5=>?_⟩)⟩⟩))
  have s5:=(s3.new (o:=.lst [.str a.k]) f4).new (o:=.lst ((wiB a.b).map V.str++[.str a.k])) f5
  have e5:upd (upd H3 l4 (.lst [.str a.k])) l5 (.lst ((wiB a.b).map V.str++[.str a.k])) l5=some (.lst ((wiB a.b++[a.k]).map V.str)):=by rw[zf,ui];rfl
  dsimp only
  generalize upd (upd H3 l4 (.lst [.str a.k])) l5 (.lst ((wiB a.b).map V.str++[.str a.k]))=H5 at *
  have ep:=hp a ham c
  refine(ex2q rfl (ixT (s5 _ _ h0) aI4 (ex2q rfl (ixT (s5 _ _ h0) aI3 (ex2q rfl (ixT (s5 _ _ h0) aI1 ⟨q1,(ex2q rfl ⟨.inr (SqT.of (s5 _ _ h1)),(ex2q rfl ⟨sb,l5,a.b,a.k,a.ns.length,wiB a.b++[a.k],by rw[ua];rfl,hb.keep (.of s5),by lia,e5,(ex2q rfl ?_)⟩)⟩)⟩))))))
  rw[ep]
  exact iteF (nxtC ⟨s2.trans s5,_,_,rfl⟩)
 ·rintro σ H2 ⟨s2,y,z,rfl⟩
  exact q _ (s1.trans s2)
end
end GN
namespace L2
open PySem PySem.Spec PyProof.Rows
theorem Yr{P:Program}{w:World}{K:uc}{mg mb:Str->Option Value}{CX:CXT}{k:Nat}{fa a:Addr}{Ts:List Addr}{fd:FuncData}{x:Str}{sp:Sp}{s₁:Shared}{vs:List Value}{ns:List Int}
  (KX:K.In s₁.heap) (hT:∀T∈Ts,s₁.heap.get? T=some { cls:=.none,data:=.fields #[] }) (hTK:∀T∈Ts,K.lookup T=none) (hTc:∀T∈Ts,isCodeTable s₁.heap T) (hns:s₁.heap.Ns mainGlobals mg) (hb:s₁.heap.Ns builtinsNs mb) (hbb:∀x:Str,x≠"__name__"->mb x=bootBuiltins x) (hlim:s₁.heap.NoLimit) (hBM:BMn mg s₁.heap) (hg:s₁.gens=#[])
  (ha:s₁.heap.get? a=some { cls:=.type "list",data:=.seq vs.toArray }) (hi:IntsAre vs ns) (hl:ns.length<=sizeLine) (hr:Room k callerA)
  (F:∀base:Heap,K.In base->base.Ns mainGlobals mg->BMn mg base->FnOk P w K mg base CX k fa fd [x] sp) (hbind:∀(s:Shared)(u:Value),BindsTo s fd ⟨[u],[]⟩ [(x,u)])
  (hsp:∀H:Hp,(∀T∈Ts,H T=some (.tbl #[]))->SqL K H a (ns.map V.int)->sp [.ref a] H (fun v _=>v=.bl true) fun _ _ _=>False)
  (hCX:∀H e s',CX [] H s₁ (fun _ _ _=>False) e s'->False) :
  codeAny (model P w) callerA (.call (.ref fa) ⟨[.ref a],[]⟩) (fun r s'=>r=.ok (.ret (.bool true))/\OldK s₁.heap s'.heap/\s'.os=s₁.os/\AllBare s'.gens) s₁:=by
 have rv:=v0 hi
 have lenV:=hi.length
 have nTa:a∉Ts:=fun e=>by rw[hT a e]at ha;cases ha
 have core:∀H:Hp,(∀b,H b=none\/(∃o xs,H b=some (.frz o (.lst xs)))\/(b∈Ts/\H b=some (.tbl #[])))->(∀T∈Ts,H T=some (.tbl #[]))->SqL K H a (ns.map V.int)->HOk P w H s₁.heap->(∀b,H b≠none->b=a\/b∈Ts)->(H a≠none->K.lookup a=none) ->
   codeAny (model P w) callerA (.call (.ref fa) ⟨[.ref a],[]⟩) (fun r s'=>r=.ok (.ret (.bool true))/\OldK s₁.heap s'.heap/\s'.os=s₁.os/\AllBare s'.gens) s₁:=by
  intro H hO hHT hS hok hA hK
  have base_of:∀{b:Addr}{o:Obj},s₁.heap.get? b=some o->H b=none->(hidT s₁.heap H).get? b=some o:=fun e n=>XU e n
  have noA:∀{b:Addr}{o:Obj}{es:Array DictEntry}{ep:Nat},s₁.heap.get? b=some o->o.data=.dict es ep->H b=none:=fun{b o es ep} e d=>by
   cases q:H b with
   |none=>rfl
   |some u =>
    rcases hA b (by rw[q];simp)with e'|e'
    ·subst e'
     rw[ha]at e;cases e
     have d':Data.seq vs.toArray _=Data.dict es ep:=d
     cases d'
    ·rw[hT b e']at e;cases e
     have d':Data.fields #[]=Data.dict es ep:=d
     cases d'
  have nsK:∀{b:Addr}{m:Str->Option Value},s₁.heap.Ns b m->(hidT s₁.heap H).Ns b m:=fun{b m}⟨o,es,ep,e,d,r⟩=>⟨o,es,ep,base_of e (noA e d),d,r⟩
  have hBb:BMn mg (hidT s₁.heap H):=by
   obtain⟨bm,ob,b1,b2,b3,b4,b5,b6⟩:=hBM
   refine⟨bm,ob,b1,b2,base_of b3 ?_,b4,b5,b6⟩
   cases q:H bm with
   |none=>rfl
   |some u =>
    rcases hA bm (by rw[q];simp)with e'|e'
    ·subst e'
     rw[ha]at b3;cases b3;cases b6
    ·rw[hT bm e']at b3;cases b3;cases b6
  have hKb:K.In (hidT s₁.heap H):=fun b o e=>base_of (KX b o e) (by
   cases q:H b with
   |none=>rfl
   |some u =>
    rcases hA b (by rw[q];simp)with e'|e'
    ·subst e'
     rw[hK (by rw[q];simp)]at e;cases e
    ·rw[hTK b e']at e;cases e)
  have hM:Mod K mg (hidT s₁.heap H):=⟨hKb,nsK hns,⟨mb,nsK hb,hbb⟩,let ⟨mc,h1,h2⟩:=hlim;⟨mc,nsK h1,h2⟩⟩
  have e0:Env0 P w K mg (hidT s₁.heap H) callerA [] s₁ H:=⟨rfl,hM,fun b o e=>V7 e,Nat.le_of_eq (Xk _ _),trivial,fun b hb=>absurd (show b∈([]:List Addr)from hb) (by simp),hok,.of_eq hg⟩
  refine codeAny_mono ((F _ hKb (nsK hns) hBb).run callerA [] s₁ H ⟨[.ref a],[]⟩ [.ref a] [.ref a] _ _ hr e0 (hbind s₁ (.ref a)) (.cons rfl .nil) (hsp H hHT hS)) fun r s' h=>?_
  cases r with
  |error e=>exact(hCX H e s' h).elim
  |ok fl =>
   cases fl with
   |next=>exact False.elim h
   |brk=>exact False.elim h
   |cont=>exact False.elim h
   |ret u =>
    obtain⟨v,H',os,bare,un,hok',r',q⟩:=h
    have q':v=.bl true:=q
    subst q'
    obtain rfl:u=Value.bool true:=r'
    refine⟨rfl,⟨fun b o e=>?_,fun b o e=>un.there b o e (by simp)⟩,os,bare⟩
    cases q:H b with
    |none=>exact .inl (un.keep b o e q (by intro z;exact absurd (show b∈([]:List Addr)from z) (by simp)) (by simp))
    |some u =>
     rcases hO b with z|⟨ob,xs,z⟩|⟨zm,z⟩
     ·rw[q]at z;cases z
     ·have z2:=un.frzs b ob _ z
      obtain⟨e1,_⟩:=hok b _ z
      obtain⟨e2,_⟩:=hok' b _ z2
      rw[e]at e1;cases e1
      exact .inl e2
     ·obtain⟨more,z2⟩:=un.tbls b _ z
      have e2:s'.heap.get? b=some { cls:=.none,data:=.fields (#[]++more) }:=hok' b _ z2
      rw[hT b zm]at e;cases e
      exact .inr (.inl ⟨hTc b zm,rfl,#[],more,rfl,e2⟩)
 cases hk:K.lookup a with
 |some o =>
  have e:=KX a o hk
  rw[ha]at e
  cases e
  refine core (fun b=>if b∈Ts then some (.tbl #[])else none) (fun b=>?_) (fun T hT=>if_pos hT) (.inr ⟨_,vs.toArray,_,hk,rfl,rfl,rfl,by rw[ut,lenV];exact hl,by simpa using rv⟩) (fun b u z=>?_) (fun b z=>?_) fun z=>absurd (if_neg nTa) z
  ·by_cases hb:b∈Ts
   ·exact .inr (.inr ⟨hb,if_pos hb⟩)
   ·exact .inl (if_neg hb)
  ·by_cases hb:b∈Ts
   ·have z':=(if_pos hb).symm.trans z
    cases z'
    exact hT b hb
   ·have z':=(if_neg hb).symm.trans z
    cases z'
  ·by_cases hb:b∈Ts
   ·exact .inr hb
   ·exact absurd (if_neg hb) z
 |none =>
  refine core (fun b=>if b∈Ts then some (.tbl #[])else if b=a then some (.frz { cls:=.type "list",data:=.seq vs.toArray } (.lst (ns.map V.int)))else none) (fun b=>?_) (fun T hT=>if_pos hT) (.inl (.inr ⟨{ cls:=.type "list",data:=.seq vs.toArray },(if_neg nTa).trans (if_pos rfl)⟩)) (fun b u z=>?_) (fun b z=>?_) fun _=>hk
  ·by_cases hb:b∈Ts
   ·exact .inr (.inr ⟨hb,if_pos hb⟩)
   ·by_cases hb2:b=a
    ·exact .inr (.inl ⟨_,_,(if_neg hb).trans (if_pos hb2)⟩)
    ·exact .inl ((if_neg hb).trans (if_neg hb2))
  ·by_cases hb:b∈Ts
   ·have z':=(if_pos hb).symm.trans z
    cases z'
    exact hT b hb
   ·by_cases hb2:b=a
    ·have z':some (HO.frz { cls:=.type "list",data:=.seq vs.toArray } (.lst (ns.map V.int)))=some u:=((if_neg hb).trans (if_pos hb2)).symm.trans z
     cases z'
     subst hb2
     exact⟨ha,by rw[ua];exact hl,vs,_,rv,ha⟩
    ·have z':none=some u:=((if_neg hb).trans (if_neg hb2)).symm.trans z
     cases z'
  ·by_cases hb:b∈Ts
   ·exact .inr hb
   ·by_cases hb2:b=a
    ·exact .inl hb2
    ·exact absurd ((if_neg hb).trans (if_neg hb2)) z
def wA(K:uc)(Ts:List Addr):Sp:=fun vs H Q _=>∃(a:Addr)(ns:List Int),vs=[.ref a]/\SqL K H a (ns.map V.int)/\ns.length<=63/\(∀T∈Ts,H T=some (.tbl #[]))/\∀H',Q (.bl true) H'
theorem V5{l:PySem.W.OpenLaw}{w:World}{K:uc}{h:Heap}{mg:Str->Option Value}{fa:Addr}{Ts:List Addr}{st:Stmt}{k:Nat}(d:DfIn K "law" st)(X:K.In h)(G:h.Ns mainGlobals mg)(hfa:mg "law"=some (.ref fa))
  (hb:∀(kV doc pm:Value)(an:Option Addr)(cdv ct:Value)(s:Shared)(u:Value),BindsTo s (uZ "law" "law" (z0 st) (zF st) (zo st) .none kV doc pm an cdv ct) ⟨[u],[]⟩ [("_law_script",u)])
  (ok:∀(base:Heap)(fd:FuncData),BMn mg base->Fun K "law" "law" st fa fd->FnOk l.prog w K mg base CX0 k fa fd ["_law_script"] (wA K Ts)) :
  ∃fd:FuncData,(∀(s:Shared)(u:Value),BindsTo s fd ⟨[u],[]⟩ [("_law_script",u)])/\∀base:Heap,K.In base->base.Ns mainGlobals mg->BMn mg base->FnOk l.prog w K mg base CX0 k fa fd ["_law_script"] (wA K Ts):=by
 obtain⟨fl,al,oc,od,kV,doc,pm,an,cdv,ct,osl,lk,cc,kk⟩:=d
 have e:fl=fa:=by
  have:=UV X G al
  rw[hfa]at this
  injection this with this
  injection this with this
  exact this.symm
 subst e
 exact⟨_,fun s v=>hb _ _ _ _ _ _ s v,fun base _ _ B=>ok base _ B (Wj (st:=st) lk cc kk)⟩
theorem walkTs{l:PySem.W.OpenLaw}{q:Program}{loose:List Str}{XP:(Str->Option Value)->Heap->Prop}{d:DefRec}{K:Params->uc}{as:List Addr}{e:∀p,as=(K p).map (·.1)}{Ts:List Addr}{k:Nat}(hn:l.most=some 63)(hr:Room k callerA)(hdf:d.params.defaults=[])(hnm:d.name="law")
  (hc:∀p,∀T∈Ts,∃c,Uh (K p) c T=true) (hTK:∀p,∀T∈Ts,(K p).lookup T=none)
  (F:∀(w:World)(mg:Str->Option Value)(fa:Addr)(h:Heap),(K w.params).In h->h.Ns mainGlobals mg->mg "law"=some (.ref fa)->∃fd:FuncData,(∀(s:Shared)(u:Value),BindsTo s fd ⟨[u],[]⟩ [("_law_script",u)])/\∀base:Heap,(K w.params).In base->base.Ns mainGlobals mg->BMn mg base->FnOk l.prog w (K w.params) mg base CX0 k fa fd ["_law_script"] (wA (K w.params) Ts)) :
  PySem.W.WalkO q loose XP (PySem.W.kmHook K as e Ts).says l.row.toRowW d [] (fun f vs=>PySem.call f vs):=by
 refine Att.attach_call hn hdf fun w s₀ s₁ mg mb fa o pm cd doc a vs ns G Y ho hd hcd hmg hobj hints hlen hg=>?_
 have KX:=PySem.W.km_in_of Y
 have hT:∀T∈Ts,_:=fun T hm=>PySem.W.km_tabs_of Y T hm
 obtain⟨fd,hb,hF⟩:=F w mg fa _ KX G.T.g (by rw[hnm]at hmg;exact hmg)
 have hTc:∀T∈Ts,isCodeTable s₁.heap T:=fun T hm=>by
  obtain⟨c,hc⟩:=hc w.params T hm
  obtain⟨o1,vs1,_,_,_,_,_,_,_,c1,c2,c3,c4,_⟩:=PySem.W.codeHd_of_K KX hc
  exact⟨c,o1,vs1,c1,c2,c3,c4⟩
 exact Yr KX hT (hTK w.params) hTc G.T.g G.T.b G.T.builtins G.T.nolimit G.T.bmain hg hobj hints (uD hlen (by decide)) hr hF hb (fun H hO hS=>⟨a,ns,rfl,hS,hlen,hO,fun _=>rfl⟩) fun _ _ _ z=>z
end L2
namespace GN
open PySem L2 K11
theorem zcf:∃bb,bB 5+200<=bb/\0+100+3*bb+2000 < LIM:=⟨3200000200,by unfold bB;decide,by unfold LIM;decide⟩
theorem Xh{nx:Nat->Nat}:∀{l:List Df}{n i:Nat}{d:Df},l[i]?=some d->∃m,(anL nx l n).1[i]?=some (d.an nx m).1
 |[],n,i,d,h=>by cases h
 |x::l,n,0,d,h=>by cases h;exact⟨n,rfl⟩
 |x::l,n,i+1,d,h=>by
  obtain⟨m,hm⟩:=Xh (nx:=nx) (n:=(x.an nx n).2) (l:=l) (i:=i) (d:=d) h
  exact⟨m,hm⟩
theorem V6{tk:List Str}{d:Df}{m:Nat}(h:DfW d):(d.an (nxT tk) m).1.b.dp<=160/\(d.an (nxT tk) m).1.b.sz<=1000000/\(d.an (nxT tk) m).1.b.sy []=false/\∀a∈(d.an (nxT tk) m).1.b.ar,jd a:=by
 have hG:=ABG (nx:=nxT tk) (fun n=>(wF tk n).1) d.b.mu d.b m (ud _) h.a (fun q hq=>.inl (h.m q hq)) (by rw[h.l];intro y hy;cases hy)
 refine⟨?_,uD (Vw _ _ _) h.an.sz,ABS d.b.mu d.b m [] (ud _) (fun q hq=>.inl (h.m q hq)) (by rw[h.l];intro y hy;cases hy),hG.pd⟩
 exact uD (Q4 _ _ _ (ud _)) (uD (Bd.mu_dp _) h.dp)
section
variable{P:Program}{w:World}{K:uc}{mg:Str->Option Value}{base:Heap}{f:Addr}{fd:FuncData}
theorem scLaw3:FnScope ["_law_script","_law_state","_law_world_here","_law_code_here","_law_one"] ["_law_script"] (zo sLaw):=.ok
theorem Qx{T1 T2 T3 T4:Addr}(F:Fun K "law" "law" sLaw f fd)(GW:Ca P w K mg base CX0 3 "_law_world" ["_law_state"] (Xd K))(GC:Ca P w K mg base CX0 21 "_law_code" lS15 (Xe K))(GN:Ca P w K mg base CX0 11 "anew" ["code"] (Vx T1 T2 T3 T4))(GR:Ca P w K mg base CX0 164 "_law_right" ["_law_body_here"] (ZL 160))(GY:Ca P w K mg base CX0 161 "_law_stray" lS11 (ww 160)):FnOk P w K mg base CX0 165 f fd ["_law_script"] (wA K [T4,T3,T2,T1]):=by
 refine F.by scLaw3 (fun vs H Q E h=>?_) (fun cdv A outer s H vs Q E hr h=>?_)
 ·obtain⟨a,ns,rfl,_⟩:=h
  rfl
 obtain⟨a0,ns,rfl,hS,h63,hTs,q⟩:=h
 have hr3:Room 3 _:=hr.mono (by decide)
 have hr11:Room 11 _:=hr.mono (by decide)
 have hr21:Room 21 _:=hr.mono (by decide)
 have hr161:Room 161 _:=hr.mono (by decide)
 refine⟨_,
  (zg (sE 1 scLaw3.nd (zy (jA2 (jv 0) zn)))
  (zg (sE 2 scLaw3.nd (cA GW hr3 (jA1 (jv 1))))
  (zg (sE 3 scLaw3.nd (cA GC hr21 (jA3 (jv 1) (jv 2) (xL 2))))
  (zg (zM PassesOwn.never rfl (yn (yd zP (cA GN hr11 (jA1 (jv 3))) zn (fun _ _=>rfl))) (gN 4 scLaw3.nd)
   (zh (zw (jW.pt (vd (xH (zX (cA GR hr (jA1 (xT 4))))) (xG (zX (cA GY hr161 (jA2 (xT 4) (zy zD)))))))
    (zh (zp zT))  zr)))
  (zh (zp zT)))))),?_⟩
 have sl:=zK
 refine(ex2q rfl ⟨sN2,fun st h1=>?_⟩)
 have S1:Sta K (upd H st (.lst [.ref a0,.int ((0:Nat):Int)])) st 0:=by
  refine⟨a0,ns,0,zf,fun e=>?_,(zj h1 _).seq hS,ud _⟩
  rcases hS with(h|⟨o,h⟩)|h
  ·exact absurd e (zk h h1)
  ·exact absurd e (zk h h1)
  ·exact fun _=>.inr h
 have hT1:∀T∈[T4,T3,T2,T1],T≠st/\upd H st (.lst [.ref a0,.int ((0:Nat):Int)]) T=some (.tbl #[]):=fun T hT=>⟨zk (hTs T hT) h1,old h1 (hTs T hT)⟩
 show(tSeq _ _:TS) _ _ (upd H st (.lst [.ref a0,.int ((0:Nat):Int)]))
 generalize upd H st (.lst [.ref a0,.int ((0:Nat):Int)])=H1 at *
 refine(ex2q rfl ⟨st,0,rfl,S1,by unfold LIM;decide,fun H2 wl o rm k2 S2 ok w2 t4 rm5=>?_⟩)
 obtain⟨tl,dl,ts,us,w21,_⟩:=id w2
 obtain⟨bb,hbb,hbl⟩:=zcf
 refine(ex2q rfl (ex2q rfl (ex2q rfl (ixL w21 aI5 ⟨st,wl,o,0,rm,0+100,rm,bb,rfl,hbb,ok,w2,t4,rm5,S2,hbl,fun H3 p ds k3 hC dl3 hG=>?_⟩))))
 have hT3:∀T∈[T4,T3,T2,T1],H3 T=some (.tbl #[]):=fun T hT=>by
  obtain⟨n,e⟩:=hT1 T hT
  have e2:=k2.k _ _ n e
  exact k3.k _ _ n (fun z=>by rw[z,w21]at e2;cases e2) e2
 have B3:Tb4 T1 T2 T3 T4 H3:=⟨.empty (hT3 _ (by simp)),.empty (hT3 _ (by simp)),.empty (hT3 _ (by simp)),.empty (hT3 _ (by simp))⟩
 refine(ex2q rfl ⟨p,ds,rfl,hC,fun d hd=>(hG d hd).an,by lia,B3,fun H4 r tk km B4 tkl _ hx=>?_⟩)
 obtain⟨v,pd,pr,os,rs,c1,c2,c3,c4,I,I'⟩:=hx
 have rl:=I'.1
 rw[jZ]at rl
 refine ixT c3 aI1 ⟨pr,rfl,⟨_,SqT.of c4⟩,yt (xs:=rs.map V.ref) (fun i σ H'=>Same H4 H'/\∃y,σ=[some (.ref a0),some (.ref st),some (.ref wl),some (.ref p),y]) ⟨.refl _,none,rfl⟩ (fun i σ H' _ h=>SqT.of (h.1 _ _ c4)) ?_ ?_⟩
 ·rintro i v σ H5 hv ⟨s5,y,rfl⟩
  rw[ug]at hv
  obtain⟨o2,ho2,rfl⟩:=uj.mp hv
  have hi:i < ds.length:=by have:=(uf.mp ho2).1;lia
  have hd:ds[i]?=some ds[i]:=uq hi
  generalize ds[i]=d at hd
  have hdm:=uw hd
  obtain⟨m,hd'⟩:=Xh (nx:=nxT tk) (n:=0) hd
  obtain⟨f1,f2,f3,f4⟩:=V6 (tk:=tk) (m:=m) (hG d hdm)
  obtain⟨pp',po',pb',j1,j2,j3,j4⟩:=I'.2 i _ _ hd' ho2
  generalize (d.an (nxT tk) m).1=d' at *
  refine(ex2q rfl (ixT (s5 _ _ j1) aI3 ⟨pb',d'.b,rfl,j4.keep (.of s5),f1,f2,f4,fun H6 s6=>(ex2q rfl (iteF ?_))⟩))
  have s46:=s5.trans s6
  refine(ex2q rfl (ixT (s46 _ _ j1) aI3 ⟨sN0,fun l7 f7=>?_⟩))
  have s7:=s46.new (o:=.lst []) f7
  refine⟨pb',l7,d'.b,[],rfl,j4.keep (.of s7),f1,by decide,zf,fun H8 s8=>(ex2q rfl ?_)⟩
  rw[f3]
  exact iteF (nxtC ⟨s7.trans s8,_,rfl⟩)
 ·rintro σ H5 ⟨s5,y,rfl⟩
  exact q H5
end
structure TopK(K:uc)(cB cT:Addr):Prop where
 qU:OwnIn K "Begun" cB
 qg:uT K (.ref cB) "within"=some none
 qh:uT K (.ref cB) "finish"=some none
 qe:uT K (.ref cB) "results"=some none
 qT:OwnIn K "Tokens" cT
 qi:uT K (.ref cT) "taken"=some none
 qk:uT K (.ref cT) "many"=some none
 qM:DcIn K "anew_def" xV 89
 qj:DcIn K "begun_tokens" wS 129
 qq:DcIn K "with_token" xW 134
 qr:DcIn K "begun_ways" yI 148
 hc1:Uh K 89 85=true
 hc2:Uh K 129 127=true
 hc3:Uh K 134 132=true
 hc4:Uh K 148 144=true
 qR:DfIn K "ways_on" Wz
 qd:MeIn K cB "__init__" "Begun.__init__" Z4
 qN:DfIn K "only_one" WA
 qs:DfIn K "worked_out" jp
 qV:DfIn K "bound" Z5
 qf:DfIn K "bodies_within" yP
 ql:DfIn K "with_bodies" xp
 qy:DfIn K "bodies_in" wE
 qS:DfIn K "is_left" jr
 qa:MeIn K cT "next_token" "Tokens.next_token" vm
 qb:MeIn K cT "new_token" "Tokens.new_token" jq
 qc:MeIn K cT "__init__" "Tokens.__init__" Z6
 qm:DfIn K "joined_ways" js
 qY:DfIn K "anew" WB
 qz:DfIn K "_law_draw" WC
 qA:DfIn K "_law_name" sNm
 qB:DfIn K "_law_stem" WD
 qt:DfIn K "_law_world" Z7
 qC:DfIn K "_law_some" WE
 qD:DfIn K "_law_call" WF
 qE:DfIn K "_law_deed" Z8
 qO:DfIn K "_law_end" sEnd
 qP:DfIn K "_law_arm" WG
 qF:DfIn K "_law_case" Z9
 qG:DfIn K "_law_body" jt
 qH:DfIn K "_law_foot" WH
 qu:DfIn K "_law_chain" Ya
 qI:DfIn K "_law_code" Yb
 qn:DfIn K "_law_within" xY
 qJ:DfIn K "_law_fits" WJ
 qo:DfIn K "_law_stands" wT
 qK:DfIn K "_law_arms" YH
 qv:DfIn K "_law_meets" ju
 qp:DfIn K "_law_loosed" jw
 qL:DfIn K "_law_paid" YI
 qw:DfIn K "_law_stray" jx
 qx:DfIn K "_law_right" Yc
 q0:DfIn K "law" sLaw
 q1:Ul K mainGlobals "len"=some none
 qW:Ul K mainGlobals "range"=some none
 qZ:Ul K mainGlobals "list"=some none
 qX:Ul K mainGlobals "tuple"=some none
 q2:Ul K mainGlobals "zip"=some none
 q3:Ul K mainGlobals "min"=some none
 q4:Ul K mainGlobals "all"=some none
 q5:Ul K mainGlobals "any"=some none
 q6:Ul K mainGlobals "int"=some none
 qQ:Ul K mainGlobals "reversed"=some none
theorem top_ok{l:PySem.W.OpenLaw}{w:World}{K:uc}{h:Heap}{mg:Str->Option Value}{fa cB cT:Addr}(T:TopK K cB cT)(X:K.In h)(G:h.Ns mainGlobals mg)(hfa:mg "law"=some (.ref fa)):
  ∃fd:FuncData,(∀(s:Shared)(u:Value),BindsTo s fd ⟨[u],[]⟩ [("_law_script",u)])/\∀base:Heap,K.In base->base.Ns mainGlobals mg->BMn mg base->FnOk l.prog w K mg base CX0 165 fa fd ["_law_script"] (wA K [144,132,127,85]):=by
 refine V5 T.q0 X G hfa (fun _ _ _ _ _ _ s v=>.of_eq rfl) fun base fd hBM FL=>?_
 have q1:mg "len"=none:=Ue X G T.q1
 have qW:mg "range"=none:=Ue X G T.qW
 have qZ:mg "list"=none:=Ue X G T.qZ
 have qX:mg "tuple"=none:=Ue X G T.qX
 have q2:mg "zip"=none:=Ue X G T.q2
 have q3:mg "min"=none:=Ue X G T.q3
 have q4:mg "all"=none:=Ue X G T.q4
 have q5:mg "any"=none:=Ue X G T.q5
 have q6:mg "int"=none:=Ue X G T.q6
 have qQ:mg "reversed"=none:=Ue X G T.qQ
 have n_Begun:mg "Begun"=some (.ref cB):=UV X G T.qU.n
 have n_Tokens:mg "Tokens"=some (.ref cT):=UV X G T.qT.n
 have BN:Bn K cB:=⟨T.qU.cls,T.qg,T.qh,T.qe⟩
 have TN:Tn K cT:=⟨T.qT.cls,T.qi,T.qk⟩
 have G1:=DfIn.ca (P:=l.prog) (w:=w) (base:=base) X G T.qR (ps:=["body"]) (fun _ _ _ _ _ _=>us1 fun _=>rfl) fun f fd F=>JO F
 have GB:=T.qd.ma (P:=l.prog) (w:=w) (mg:=mg) (base:=base) (x:="Begun") (ps:=lS19) (fun _ _ _ _ _ _=>us3 fun _ _ _=>rfl) T.qU.mks T.qU.kp n_Begun fun f fd F=>WV F BN
 have GO:=DfIn.ca (P:=l.prog) (w:=w) (base:=base) X G T.qN (ps:=["results"]) (fun _ _ _ _ _ _=>us1 fun _=>rfl) fun f fd F=>JK F
 obtain⟨fo,fdo,GO1,GO2,GO3,GO4⟩:=GO.ex
 have GW4:=DfIn.ca (P:=l.prog) (w:=w) (base:=base) X G T.qs (ps:=lS21) (fun _ _ _ _ _ _=>us2 fun _ _=>rfl) fun f fd F=>jb (k:=4) F BN GB GO1 GO2 GO3 GO4 q1 (by decide)
 have GW8:=DfIn.ca (P:=l.prog) (w:=w) (base:=base) X G T.qs (ps:=lS21) (fun _ _ _ _ _ _=>us2 fun _ _=>rfl) fun f fd F=>jb (k:=8) F BN GB GO1 GO2 GO3 GO4 q1 (by decide)
 have GBo:=DfIn.ca X G T.qV (ps:=["one"]) (fun _ _ _ _ _ _=>us1 fun _=>rfl) fun f fd F=>Vh F G1 q1 qQ qZ
 have GBw:=DfIn.ca X G T.qf (ps:=["body"]) (fun _ _ _ _ _ _=>us1 fun _=>rfl) fun f fd F=>zb2 F G1
 have GWb:=DfIn.ca (P:=l.prog) (w:=w) (base:=base) X G T.ql (ps:=lS18) (fun _ _ _ _ _ _=>us2 fun _ _=>rfl) fun f fd F=>zb3 F qX q2
 have GBi:=DfIn.ca X G T.qy (ps:=["body"]) (fun _ _ _ _ _ _=>us1 fun _=>rfl) fun f fd F=>zbb F GBw q1 qQ
 have GIs:=DfIn.ca (P:=l.prog) (w:=w) (base:=base) X G T.qS (ps:=lS22) (fun _ _ _ _ _ _=>us2 fun _ _=>rfl) fun f fd F=>zbc F q1
 have MNx:=T.qa.me (P:=l.prog) (w:=w) (mg:=mg) (base:=base) (ps:=["self"]) (fun _ _ _ _ _ _=>us1 fun _=>rfl) fun f fd F=>Vo F TN
 have MNw:=T.qb.me (P:=l.prog) (w:=w) (mg:=mg) (base:=base) (ps:=["self"]) (fun _ _ _ _ _ _=>us1 fun _=>rfl) fun f fd F=>JU F TN MNx
 have GTi:=T.qc.ma (P:=l.prog) (w:=w) (mg:=mg) (base:=base) (x:="Tokens") (ps:=["self","code"]) (fun _ _ _ _ _ _=>us2 fun _ _=>rfl) T.qT.mks T.qT.kp n_Tokens fun f fd F=>Vp F TN GBo
 have GJo:=DfIn.ca X G T.qm (ps:=lS16) (fun _ _ _ _ _ _=>us3 fun _ _ _=>rfl) fun f fd F=>JV F GWb q5
 have GBy:=DcIn.ca (P:=l.prog) (w:=w) (base:=base) X G T.qr (ps:=lS17) (fun _ _ _ _ _ us hl=>match us,hl with|[_,_,_],_=>rfl) fun f fd F=>J0 F hBM T.hc4 GIs GBw
 have GWt:=DcIn.ca (P:=l.prog) (w:=w) (base:=base) X G T.qq (ps:=["tokens","arm"]) (fun _ _ _ _ _ us hl=>match us,hl with|[_,_],_=>rfl) fun f fd F=>Vr F TN hBM T.hc3 (by decide) GBi GIs MNw GBy GJo GW4 q1 q5
 have GBt:=DcIn.ca (P:=l.prog) (w:=w) (base:=base) X G T.qj (ps:=lS20) (fun _ _ _ _ _ us hl=>match us,hl with|[_,_],_=>rfl) fun f fd F=>J8 F hBM T.hc2 (by decide) (by decide) GWt GBw qX
 have GAd:=DcIn.ca (P:=l.prog) (w:=w) (base:=base) X G T.qM (ps:=["tokens","one"]) (fun _ _ _ _ _ us hl=>match us,hl with|[_,_],_=>rfl) fun f fd F=>q9 F hBM T.hc1 (by decide) (by decide) (by decide) GBt GWb GW8
 have GAn:=DfIn.ca (P:=l.prog) (w:=w) (base:=base) X G T.qY (ps:=["code"]) (fun _ _ _ _ _ _=>us1 fun _=>rfl) fun f fd F=>Qb F GTi GAd qX
 have LD:=DfIn.ca (P:=l.prog) (w:=w) (base:=base) X G T.qz (ps:=lS3) (fun _ _ _ _ _ _=>us2 fun _ _=>rfl) fun f fd F=>JN F q1
 have LN:=DfIn.ca (P:=l.prog) (w:=w) (base:=base) X G T.qA (ps:=lS7) (fun _ _ _ _ _ _=>us2 fun _ _=>rfl) fun f fd F=>zbX F
 have LS_:=DfIn.ca X G T.qB (ps:=["_law_state"]) (fun _ _ _ _ _ _=>us1 fun _=>rfl) fun f fd F=>Qm F LD qW
 have LW:=DfIn.ca X G T.qt (ps:=["_law_state"]) (fun _ _ _ _ _ _=>us1 fun _=>rfl) fun f fd F=>VU F LD LS_ LN q1 qW qX q3
 have LSo:=DfIn.ca X G T.qC (ps:=lS8) (fun _ _ _ _ _ _=>us3 fun _ _ _=>rfl) fun f fd F=>Qc F LD qW q1 qX
 have LCa:=DfIn.ca X G T.qD (ps:=lS14) (fun _ _ _ _ _ _=>us4 fun _ _ _ _=>rfl) fun f fd F=>Vz F LD LSo q1 qZ qX
 have LDe:=DfIn.ca X G T.qE (ps:=lS12) (fun _ _ _ _ _ _=>us4 fun _ _ _ _=>rfl) fun f fd F=>VA F LD LSo LCa q1 q4 q3
 have LE:=DfIn.ca X G T.qO (ps:=lS9) (fun _ _ _ _ _ _=>us3 fun _ _ _=>rfl) fun f fd F=>Qn F LD q1 qZ
 have LB:∀n:Nat,Ca l.prog w K mg base CX0 (5+3*n) "_law_body" lS0 (yv K n):=by
  intro n
  induction n using Nat.strongRecOn with
  |_ n ih =>
   match n,ih with
   |0,_=>exact DfIn.ca (P:=l.prog) (w:=w) (base:=base) X G T.qG (ps:=lS0) (fun _ _ _ _ _ _=>us6 fun _ _ _ _ _ _=>rfl) fun f fd F=>XL F LD LN LE
   |n+1,ih =>
    have i1:=ih n (Uf n)
    have i2:=ih (n / 2) (Nat.lt_succ_of_le (Nat.div_le_self n 2))
    have Lar:=DfIn.ca (P:=l.prog) (w:=w) (base:=base) X G T.qP (ps:=lS4) (fun _ _ _ _ _ _=>us7 fun _ _ _ _ _ _ _=>rfl) fun f fd F=>Qo (by lia) F LD LN LSo i2 qZ
    have Lca:=DfIn.ca (P:=l.prog) (w:=w) (base:=base) X G T.qF (ps:=lS0) (fun _ _ _ _ _ _=>us6 fun _ _ _ _ _ _=>rfl) fun f fd F=>VJ (by lia) F LD LN Lar q1 qW qX
    exact DfIn.ca (P:=l.prog) (w:=w) (base:=base) X G T.qG (ps:=lS0) (fun _ _ _ _ _ _=>us6 fun _ _ _ _ _ _=>rfl) fun f fd F=>VL F LD LN LE LDe i1 i2 Lca q1 qZ
 have LFo:=DfIn.ca X G T.qH (ps:=lS6) (fun _ _ _ _ _ _=>us6 fun _ _ _ _ _ _=>rfl) fun f fd F=>Qq F LD LN LSo LE q1 qZ qW qQ
 have LCh:=DfIn.ca X G T.qu (ps:=lS13) (fun _ _ _ _ _ _=>us4 fun _ _ _ _=>rfl) fun f fd F=>VP F LD LN LFo qZ qW qQ qX
 have LG:=DfIn.ca X G T.qI (ps:=lS15) (fun _ _ _ _ _ _=>us3 fun _ _ _=>rfl) fun f fd F=>VW F LD LN LCh (LB 5) q1 qW qX q2 q6
 have LWi:∀n:Nat,Ca l.prog w K mg base CX0 (1+n) "_law_within" ["_law_body_here"] (xu n):=by
  intro n
  induction n with
  |zero=>exact DfIn.ca (P:=l.prog) (w:=w) (base:=base) X G T.qn (ps:=["_law_body_here"]) (fun _ _ _ _ _ _=>us1 fun _=>rfl) fun f fd F=>Yo F
  |succ n ih=>exact DfIn.ca (P:=l.prog) (w:=w) (base:=base) X G T.qn (ps:=["_law_body_here"]) (fun _ _ _ _ _ _=>us1 fun _=>rfl) fun f fd F=>XM F ih
 have LFi:=DfIn.ca (P:=l.prog) (w:=w) (base:=base) X G T.qJ (ps:=lS10) (fun _ _ _ _ _ _=>us3 fun _ _ _=>rfl) fun f fd F=>Qv F q1
 have LSt:∀n:Nat,Ca l.prog w K mg base CX0 (1+n) "_law_stands" lS5 (xv n):=by
  intro n
  induction n with
  |zero=>exact DfIn.ca (P:=l.prog) (w:=w) (base:=base) X G T.qo (ps:=lS5) (fun _ _ _ _ _ _=>us3 fun _ _ _=>rfl) fun f fd F=>Yq F
  |succ n ih=>exact DfIn.ca (P:=l.prog) (w:=w) (base:=base) X G T.qo (ps:=lS5) (fun _ _ _ _ _ _=>us3 fun _ _ _=>rfl) fun f fd F=>XO F ih LFi
 have LAr:∀n:Nat,Ca l.prog w K mg base CX0 (1+n) "_law_arms" ["_law_body_here"] (wv n):=by
  intro n
  induction n with
  |zero=>exact DfIn.ca (P:=l.prog) (w:=w) (base:=base) X G T.qK (ps:=["_law_body_here"]) (fun _ _ _ _ _ _=>us1 fun _=>rfl) fun f fd F=>XN F
  |succ n ih=>exact DfIn.ca (P:=l.prog) (w:=w) (base:=base) X G T.qK (ps:=["_law_body_here"]) (fun _ _ _ _ _ _=>us1 fun _=>rfl) fun f fd F=>VX F ih qZ
 have LMe:∀n:Nat,Ca l.prog w K mg base CX0 (1+n) "_law_meets" lS1 (xg n):=by
  intro n
  induction n with
  |zero=>exact DfIn.ca (P:=l.prog) (w:=w) (base:=base) X G T.qv (ps:=lS1) (fun _ _ _ _ _ _=>us2 fun _ _=>rfl) fun f fd F=>XQ F
  |succ n ih=>exact DfIn.ca (P:=l.prog) (w:=w) (base:=base) X G T.qv (ps:=lS1) (fun _ _ _ _ _ _=>us2 fun _ _=>rfl) fun f fd F=>V2 F ih
 have LLo:∀n:Nat,Ca l.prog w K mg base CX0 (1+n+1) "_law_loosed" lS1 (vO n):=fun n=>DfIn.ca (P:=l.prog) (w:=w) (base:=base) X G T.qp (ps:=lS1) (fun _ _ _ _ _ _=>us2 fun _ _=>rfl) fun f fd F=>XR F (LMe n)
 have LPa:∀n:Nat,Ca l.prog w K mg base CX0 (3+n) "_law_paid" lS2 (vP n):=by
  intro n
  induction n with
  |zero=>exact DfIn.ca (P:=l.prog) (w:=w) (base:=base) X G T.qL (ps:=lS2) (fun _ _ _ _ _ _=>us4 fun _ _ _ _=>rfl) fun f fd F=>V3 F
  |succ n ih=>exact DfIn.ca (P:=l.prog) (w:=w) (base:=base) X G T.qL (ps:=lS2) (fun _ _ _ _ _ _=>us4 fun _ _ _ _=>rfl) fun f fd F=>Qw F ih (LSt (n+1)) (LLo (n+1)) LFi (LMe (n+1))
 have LSy:∀n:Nat,Ca l.prog w K mg base CX0 (1+n) "_law_stray" lS11 (ww n):=by
  intro n
  induction n with
  |zero=>exact DfIn.ca (P:=l.prog) (w:=w) (base:=base) X G T.qw (ps:=lS11) (fun _ _ _ _ _ _=>us2 fun _ _=>rfl) fun f fd F=>XS F
  |succ n ih=>exact DfIn.ca (P:=l.prog) (w:=w) (base:=base) X G T.qw (ps:=lS11) (fun _ _ _ _ _ _=>us2 fun _ _=>rfl) fun f fd F=>V4 F ih
 have LRi:=DfIn.ca (P:=l.prog) (w:=w) (base:=base) X G T.qx (ps:=["_law_body_here"]) (fun _ _ _ _ _ _=>us1 fun _=>rfl) fun f fd F=>XT (N:=160) F (LAr 160) (LWi 160) (LPa 160) q1
 exact Qx FL LW LG GAn LRi (LSy 160)
end GN
namespace PySem.W.Fast
def tw8491112877432149047:=()
def tw3275824951946623637:=()
def tw13346982160570710258:=()
def tw3848032780645109803:=()
def tw9848064859691767086:=()
def tw12496776957331954338:=()
def tw10703426602373402912:=()
def tw17983187700178530204:=()
def tw4919198238916392820:=()
def tw7428419440529064098:=()
def tw8498407423423099868:=()
def tw291606468222910511:=()
def tw17678586971853760502:=()
def tw516176345070850470:=()
def tw13929109751929195202:=()
def tw15873670904314058353:=()
def tw4770613715485520069:=()
def tw4881869445003717768:=()
def tw2704309068870969212:=()
def tw690982920311945315:=()
def tw16404235060118033993:=()
def tw11400593453303691864:=()
def tw11431874612176614659:=()
def tw3052690040647588675:=()
def tw12652164906400225757:=()
def tw9380789760505386432:=()
def tw2712654774909628587:=()
def tw2883546553368765874:=()
def tw5327618134137385789:=()
def tw4726024378522848326:=()
def tw4610658222658088522:=()
def tw11123882818128023483:=()
def tw3430734244930546439:=()
def tw17618738624003512809:=()
def tw4286827113797662899:=()
def tw12471552405120530101:=()
def tw8496712761137366301:=()
def tw10133656993425954557:=()
def tw14887473242979871452:=()
def tw3155941736140424022:=()
def tw5214073833505899476:=()
def tw6220198475158648683:=()
def tw1351754385060940881:=()
def tw4789770859092155051:=()
def tw4414412579715377697:=()
def tw11580626396507791880:=()
def tw8081691528705668862:=()
def tw13887611279039192115:=()
def tw15209764235816239550:=()
def tw16580897297746931776:=()
def tw5426617864028467125:=()
def tw2577237038223686781:=()
def tw94843750657678164:=()
def tw8190308769588756315:=()
def tw340919902387227616:=()
def tw17661921825683359486:=()
def tw7247027173624082422:=()
def tw13003956678168930709:=()
def tw16331141933658138105:=()
def tw15681082981481701996:=()
def tw11556351969289725403:=()
def tw18182333805671731929:=()
def tw2122027569938437025:=()
def tw11028337371805655644:=()
def tw13228565653541396968:=()
def tw100917977829347279:=()
def tw9345821463690214000:=()
def tw7835373348450787287:=()
def tw5439006385328950330:=()
def tw24805618512085484:=()
def tw4957870336939586096:=()
def tw11340677082993129008:=()
def tw10759250433129549067:=()
def tw18180574762338293336:=()
def tw8800096730064220347:=()
def tw17146671030534865370:=()
def tw723302582842217773:=()
def tw16512215853809672441:=()
def tw29915779709293843:=()
def tw3783568767679669691:=()
def tw17426399391801283519:=()
def tw16312024038067764065:=()
def tw13023036029577543850:=()
def tw8630206136628281220:=()
def tw10072999495777186626:=()
def tw14208081139681658720:=()
def tw10577016865567048834:=()
def tw10636223983459256218:=()
def tw9916327305710774869:=()
def tw6043168440843929743:=()
def tw12791183747568872261:=()
def tw5211880252806981564:=()
def tw9462289650889112916:=()
def tw17441383536377018997:=()
def tw14400331258346046908:=()
def tw7500623448008885393:=()
def tw7160233334529087403:=()
def tw7316773352211071737:=()
def tw7765972772896700428:=()
def tw4831838228016437067:=()
def tw13485522885421132207:=()
def tw13524629888428274930:=()
def tw17520441169566740298:=()
def tw7194714125670660279:=()
def tw17233426693102966713:=()
def tw7923691312501065039:=()
def tw6101812241807134837:=()
def tw17830062977896694783:=()
def tw1176659284436410594:=()
def tw11586324171326904508:=()
def tw14065271121928996302:=()
def tw14508046866555543733:=()
def tw11573251332448413312:=()
def tw15514127835260552420:=()
def tw1715111610770121920:=()
def tw4137445162469575832:=()
def tw7611225080487444925:=()
def tw2050526573488462978:=()
def tw13299994732858267470:=()
def tw17708804837310563208:=()
def tw8202489765944052793:=()
def tw14171426971501803942:=()
def tw733272792270321269:=()
def tw7318242898772879993:=()
def tw6619312219673429434:=()
def tw8801301449873569223:=()
def tw14989070666140506123:=()
def tw15124481383944497570:=()
def tw12057602480755616879:=()
def tw14798644856364544256:=()
def tw17480309930319368764:=()
def tw5326506493580189560:=()
def tw10730838230985296442:=()
def tw5645945380299297078:=()
def tw9973642994021405136:=()
def tw12566408960983724008:=()
def tw12235928740996935810:=()
def tw13332790232998655005:=()
def tw14539346169363935560:=()
def tw6691684831267896800:=()
def tw10090105409442601555:=()
def tw7210248750455904947:=()
def tw14686202211241819323:=()
def tw6824492561022335062:=()
def tw436701571893217474:=()
def tw14675314871759749942:=()
def tw15885947586478256458:=()
def tw5509693215330996985:=()
def tw11710365378189773648:=()
def tw6175392055003491404:=()
def tw3818764936365414153:=()
def tw3938109936743387107:=()
def tw912305243976931079:=()
def tw3895945347311020352:=()
def tw4963638874317591201:=()
def tw1769090747037939041:=()
def tw13364220529840771906:=()
def tw11881402925201593404:=()
def tw6683058595510751148:=()
def tw1054269140995828060:=()
def tw10581040273535208001:=()
def tw14047067965569272124:=()
def tw12949546946448719011:=()
def tw8854346766518397826:=()
def tw13059333754023200160:=()
def tw4339394517621547699:=()
def tw10827892675210993079:=()
def tw20480260267137370:=()
def tw8045662926631723112:=()
def tw18105702233042055095:=()
def tw7740568782277218009:=()
def tw4164956328211338620:=()
def tw12856148061382544848:=()
def tw15708496314282509105:=()
def tw1138443906827714467:=()
def tw5858496104361442812:=()
def tw17874000250668688842:=()
def tw10340980709841795436:=()
def tw10968420568981868342:=()
def tw4002062722991358595:=()
def tw16149365569485622017:=()
def tw2980296773359719807:=()
def tw3122689171028503907:=()
def tw1242807042290228588:=()
def tw3209177369511173797:=()
def tw12336122544397851743:=()
def tw14286929424152508348:=()
def tw1534313931708160266:=()
def tw1399072691177993891:=()
def tw15272125455890940369:=()
def tw3898688106216007841:=()
def tw9115101635368386986:=()
def tw15715719839330034164:=()
def tw11610488850078250551:=()
def tw16305612644148351597:=()
def tw14874191494766037482:=()
def tw365074235147392764:=()
def tw2270981784703074655:=()
def tw4724906749474172505:=()
def tw8514522071626933223:=()
def tw15924298772228226954:=()
end PySem.W.Fast
open PySem PySem.W PyProof.Rows
set_option maxRecDepth 100000 in
set_option maxHeartbeats 0 in
theorem PySem.Challenge.cw_reusewise_k63_used_up_at_once_holds : PySem.Challenge.rw_reusewise_k63_used_up_at_once.Holds := by
 w_on;o_law;k_head;(case hw=>w_witness2)
 k_fill
 refine L2.walkTs (l:=PySem.Challenge.rw_reusewise_k63_used_up_at_once) (k:=165) (Ts:=[144,132,127,85]) rfl ⟨rfl,by decide,by decide⟩ rfl rfl (fun p T hT=>by
  simp only[um,Uc,or_false]at hT
  rcases hT with rfl|rfl|rfl|rfl
  ·exact⟨148,rfl⟩
  ·exact⟨134,rfl⟩
  ·exact⟨129,rfl⟩
  ·exact⟨89,rfl⟩
  ) (fun p T hT=>by
  simp only[um,Uc,or_false]at hT
  rcases hT with rfl|rfl|rfl|rfl
  ·exact rfl
  ·exact rfl
  ·exact rfl
  ·exact rfl
  ) ?F
 case F =>
  intro w mg fa h KX G hm
  refine' GN.top_ok (GN.TopK.mk ?qU ?qg ?qh ?qe ?qT ?qi ?qk ?qM ?qj ?qq ?qr ?hc1 ?hc2 ?hc3 ?hc4 ?qR ?qd ?qN ?qs ?qV ?qf ?ql ?qy ?qS ?qa ?qb ?qc ?qm ?qY ?qz ?qA ?qB ?qt ?qC ?qD ?qE ?qO ?qP ?qF ?qG ?qH ?qu ?qI ?qn ?qJ ?qo ?qK ?qv ?qp ?qL ?qw ?qx ?q0 ?q1 ?qW ?qZ ?qX ?q2 ?q3 ?q4 ?q5 ?q6 ?qQ) KX G hm
  (case qU|qT=>(refine' L2.OwnIn.mk ?n ?pg ?hd ?po ?sa ?mks ?kp;(case n=>k_is);(case pg=>k_is);(case hd=>k_is);(case po=>k_is);(case sa=>k_is);(case mks=>k_is);(case kp=>k_is)))
  (case qg|qh|qe|qi|qk|q1|qW|qZ|qX|q2|q3|q4|q5|q6|qQ=>k_is)
  (case qM|qj|qq|qr=>(refine' L2.DcIn.mk ?a ?l ?c ?k;(case a=>k_is);(case l=>k_is);(case c=>k_is);(case k=>k_is)))
  (case hc1|hc2|hc3|hc4=>(exact rfl))
  (case qR|qN|qs|qV|qf|ql|qy|qS|qm|qY|qz|qA|qB|qt|qC|qD|qE|qO|qP|qF|qG|qH|qu|qI|qn|qJ|qo|qK|qv|qp|qL|qw|qx|q0=>(refine' L2.DfIn.mk ?a ?l ?c ?k;(case a=>k_is);(case l=>k_is);(case c=>k_is);(case k=>k_is)))
  (case qd|qa|qb|qc=>(refine' L2.MeIn.mk ?a ?l ?c ?k ?n;(case a=>k_is);(case l=>k_is);(case c=>k_is);(case k=>k_is);(case n=>k_is)))
#print axioms PySem.Challenge.cw_reusewise_k63_used_up_at_once_holds
