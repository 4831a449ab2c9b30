import PyProof.Rows.All
import Wide.All
import OpenK.AllK
import Wide.FinOn
import Lean
import PyProof.EqAt
import PyProof.EqKinds
import PyProof.TupleCall
import PyProof.PassesOwn
import PyProof.StationsW
import OpenK.KCls
import PyProof.ExcAttrAll.ValueError
import PyProof.ExcClass3
import PyProof.WalksEnum
import PyProof.EnumMake
import PyProof.EnumFor
import PyProof.EnumStmt
import PyProof.MeetsStr
import PyProof.StrLawsTight
import PyProof.NeKinds
import PyProof.Rows.SumAny
import PyProof.SeqI3
import PyProof.ZipIter
import PyProof.WalksMore
import PyProof.ListNew
import KE.KRevIter
import PyProof.AutoSeq1
import PyProof.FactsAll.list
import PyProof.IsRules
import KE.KItemsList
import PyProof.StrBlockL
import PyProof.StrBlockI
import PyProof.StrBlock2
import PyProof.StrLawsIn
import PyProof.StrLawsChain
import PyProof.Rows.StrLast
import PyProof.Rows.StrItems
import KE.IntTextText
import KE.KDictList
import PyProof.Rows.BitMore
import KE.KLam
import KE.KNestM
import KE.KIntText
import PyProof.IsiTupleOf
import KE.KDictSum
import PyProof.Rows.SortWalk
import PyProof.Draws
import PyProof.DictRoadsH
import PySem.Challenge.RW_reusewise_k51_reasons_that_are_so
set_option Elab.async false
set_option linter.all false
set_option maxRecDepth 100000
set_option maxHeartbeats 4000000
open List renaming length_map → ua, getElem?_eq_some_iff → uc, getElem?_map → ue, length_append → uf, getElem?_eq_getElem → ui, mem_singleton → uj, take_of_length_le → uk, length_cons → ul, mem_cons → um, mem_append_right → uo, mem_of_getElem? → uq, size_toArray → ur, map_append → ut, take_add_one → uw, append_nil → ux, mem_map → uy, mem_append_left → uB, range → uC, mem_cons_of_mem → uD, mem_append → uE, map_cons → uH, mem_cons_self → uK, length_take → uN, replicate → uT, getD_eq_getElem?_getD → uV, getElem?_append_left → uX, length_singleton → uZ, any_eq_true → Ua, nodup_cons → Ub, flatMap_append → Ud, all_eq_true → Uf, getElem?_append_right → Ug, length_reverse → Uj, foldl_cons → Ul, flatMap_cons → Um, mem_flatMap → Uq, append_assoc → Ur, mem_range → Us, sum_cons → Uu, mem_iff_getElem? → Uv, length_range → Uw, length_eq_zero_iff → Ux, replicate_succ → UC, length_replicate → UE, of_mem_zip → UI, lookup_cons → UK, not_mem_nil → UL, length_pos_iff → UQ, range_succ → UR, foldl_append → UU, mem_filter → UW, mem_zipIdx_iff_getElem? → UX, length_zip → UY, lookup → U0, length_filter_le → U8, reverse_cons → tD, any_cons → tF, getElem?_range → tH, find?_cons → tK, flatten_cons → tL, nodup_append → tO, map_map → tS, getElem_mem → tU, any_append → Ta, length → Tb
open PySem.W renaming Frag → ub, keepIn → u0, findIn → u9, mg_none_of → Uh, fnOf → Ui, nsIn → Up, kia_one → Uz, emptyDict → UD, codeIn → UM, instObj → UV, codeHdIn → U7, callWith_K → tJ, plainGet → tQ, mg_of → tY, hasDictIn → Tc, cellsFrom_some → Td, envX → Tg
open Nat renaming le_refl → ud, lt_of_lt_of_le → uP, ne_of_lt → uS, zero_le → uW, le_trans → Uc, le_add_right → UB, lt_irrefl → UG, testBit_or → UT, le_succ → tj, mul_le_mul_right → tE, add_mul → tP, lt_succ_self → tR, testBit_succ → tV, not_lt_zero → t9, lt_succ_of_lt → Te
open PySem.Heap renaming get?_push_of_some → ug, lt_size → uv, get?_push_size → uA, size_push → Ut, get?_update_self → UF, get?_update_other → UP
open Option renaming map_eq_some_iff → uh, some → uO, map_some → U9, isSome_iff_exists → tX
open Bool renaming false_ne_true → uu, and_eq_true → Uk, false_and → Uy, or_eq_true → UA, eq_iff_iff → UH, true_and → tG, false_or → tZ, and_true → t8
open PySem.F renaming plainAttrs_list → uz, slot_list_append → uI, type_list_append → uJ
open PySem.Builtin.SmallTypes renaming nextOf → uQ, ownedTupleIsFree → uU, ownedTupleHandOut → tW
open PyProof.Rows renaming boot_tuple → uY, callWith_type1 → Ue, slot_tuple_getitem → Uo, boot_isinstance → UJ, boot_list → Tf
open PySem renaming mem_of_lookup → u6, sizeLine → tI
open Int renaming toNat_of_nonneg → UZ, toNat_natCast → tM, zero_add → tT
abbrev L2.lS0:List PySem.Str:=["_law_state","_law_world_here","_law_scope","_law_k","_law_steps","_law_x","_law_size"]
abbrev L2.lS1:List PySem.Str:=["_law_state","_law_scope","_law_k","_law_room","_law_world_here","_law_at"]
abbrev L2.lS2:List PySem.Str:=["_law_state","_law_many"]
abbrev L2.lS3:List PySem.Str:=["_law_state","_law_world_here","_law_scope","_law_k","_law_x","_law_size"]
abbrev L2.lS4:List PySem.Str:=["_law_world_here","_law_k"]
abbrev L2.lS5:List PySem.Str:=["_law_body_here","_law_name_here"]
abbrev L2.lS6:List PySem.Str:=["_law_state","_law_scope","_law_sort"]
abbrev L2.lS7:List PySem.Str:=["_law_state","_law_scope","_law_sorts_here"]
abbrev L2.lS8:List PySem.Str:=["_law_state","_law_scope","_law_world_here","_law_at"]
abbrev L2.lS9:List PySem.Str:=["_law_state","_law_world_here","_law_room"]
abbrev L2.lS10:List PySem.Str:=["_law_state","_law_world_here","_law_at","_law_room"]
abbrev L2.lS11:List PySem.Str:=["_law_state","_law_scope","_law_x"]
abbrev L2.lS12:List PySem.Str:=["self","params","name","reason"]
abbrev L2.lS13:List PySem.Str:=["_law_state","_law_world_here","_law_program_here"]
abbrev L2.lS14:List PySem.Str:=["_law_state","_law_least","_law_most"]
abbrev L2.lS15:List PySem.Str:=["_law_program_here","_law_one","_law_name_here"]
abbrev L2.lS16:List PySem.Str:=["_law_state","_law_room","_law_many"]
abbrev L2.lS17:List PySem.Str:=["body","ways","notes","bits"]
abbrev L2.lS18:List PySem.Str:=["_law_program_here","_law_row","_law_before"]
abbrev L2.lS19:List PySem.Str:=["_law_state","_law_scope","_law_world_here"]
abbrev L2.lS20:List PySem.Str:=["body","bits"]
abbrev L2.lS21:List PySem.Str:=["_law_program_here","_law_def_name"]
abbrev L2.lS22:List PySem.Str:=["self","within","finish"]
abbrev L2.lS23:List PySem.Str:=["uses","params","body"]
abbrev L2.lS24:List PySem.Str:=["_law_one","_law_name_here"]
abbrev L2.lS25:List PySem.Str:=["self","params","deed"]
abbrev L2.lS26:List PySem.Str:=["uses","params","deed"]
theorem L2.sN0:0<=tI:=by decide
theorem L2.sN1:1<=tI:=by decide
theorem L2.sN2:2<=tI:=by decide
theorem L2.sN3:3<=tI:=by decide
theorem L2.sN4:4<=tI:=by decide
theorem L2.sN5:5<=tI:=by decide
theorem L2.sN7:7<=tI:=by decide
namespace L2
open PySem PySem.Spec PyProof.Rows
abbrev Key:=Sum Int Str
def jd:Key->Value->Bool
 |.inl k,v=>Value.isInt k v
 |.inr x,v=>Value.isStrOf x v
def keyH(w:World):Key->Int
 |.inl k=>hashInt k
 |.inr x=>hashStr w x
theorem zW:∀{k:Key}{v:Value},jd k v=true->(∃i t,k=Sum.inl i/\v=Value.int i t)\/(∃x t,k=Sum.inr x/\v=Value.str x t)
 |.inl i,v,h=>by
  obtain⟨t,e⟩:=Value.isInt_shape (k:=i) (v:=v) h
  exact .inl ⟨i,t,rfl,e⟩
 |.inr x,v,h=>by
  obtain⟨t,e⟩:=Value.isStrOf_shape (x:=x) (v:=v) h
  exact .inr ⟨x,t,rfl,e⟩
theorem X1(i:Int)(t:Tok):jd (.inl i) (.int i t)=true:=by simp[jd,Value.isInt]
theorem X2(x:Str)(t:Tok):jd (.inr x) (.str x t)=true:=by simp[jd,Value.isStrOf]
theorem zbl(a b:Int):decide ((Sum.inl a:Key)=Sum.inl b)=(a == b):=by
 by_cases e:a=b
 ·subst e;simp
 ·have h:¬ (Sum.inl a:Key)=Sum.inl b:=fun q=>e (Sum.inl.inj q)
  rw[decide_eq_false h]
  exact(beq_eq_false_iff_ne.mpr e).symm
theorem zbm(a b:Str):decide ((Sum.inr a:Key)=Sum.inr b)=decide (a=b):=by
 by_cases e:a=b
 ·subst e;simp
 ·have h:¬ (Sum.inr a:Key)=Sum.inr b:=fun q=>e (Sum.inr.inj q)
  rw[decide_eq_false h,decide_eq_false e]
theorem zbn(a:Int)(b:Str):decide ((Sum.inl a:Key)=Sum.inr b)=false:=decide_eq_false (fun q=>nomatch q)
theorem zbo(a:Str)(b:Int):decide ((Sum.inr a:Key)=Sum.inl b)=false:=decide_eq_false (fun q=>nomatch q)
def z6(prog:Program)(w:World):PySem.KeyKind prog w Key where
 is:=jd
 hash:=keyH w
 inj:=fun v a b ha hb=>by
  rcases zW ha with⟨i,t,rfl,rfl⟩|⟨x,t,rfl,rfl⟩
  ·rcases zW hb with⟨j,u,rfl,e⟩|⟨y,u,rfl,e⟩
   ·injection e with e1 _;rw[e1]
   ·exact nomatch e
  ·rcases zW hb with⟨j,u,rfl,e⟩|⟨y,u,rfl,e⟩
   ·exact nomatch e
   ·injection e with e1 _;rw[e1]
 byValue:=fun k v h=>by
  rcases zW h with⟨i,t,rfl,rfl⟩|⟨x,t,rfl,rfl⟩<;>rfl
 pyHash:=fun hv h=>by
  rcases zW hv with⟨i,t,rfl,rfl⟩|⟨x,t,rfl,rfl⟩
  ·exact wpAny_pyHash_int h
  ·exact wpAny_pyHash_str h
 eqBool:=fun hu hv h=>by
  rcases zW hu with⟨i,t,rfl,rfl⟩|⟨x,t,rfl,rfl⟩
  ·rcases zW hv with⟨j,u,rfl,rfl⟩|⟨y,u,rfl,rfl⟩
   ·rw[zbl]at h;exact wpAny_eqBool_int h
   ·rw[zbn]at h;exact SeqAt.EqAt.int_str i t y u _ _ _ _ h
  ·rcases zW hv with⟨j,u,rfl,rfl⟩|⟨y,u,rfl,rfl⟩
   ·rw[zbo]at h;exact SeqAt.EqAt.str_int x t j u _ _ _ _ h
   ·rw[zbm]at h;exact wpAny_eqBool_str h
 «strs»:=fun k x t v h=>by
  rcases zW h with⟨i,u,rfl,e⟩|⟨y,u,rfl,e⟩
  ·exact nomatch e
  ·injection e with e1 _
   subst e1
   cases v<;>rfl
theorem Zt(prog:Program)(w:World)(i:Int)(t:Tok):(z6 prog w).is (.inl i) (.int i t)=true:=X1 i t
theorem Zu(prog:Program)(w:World)(x:Str)(t:Tok):(z6 prog w).is (.inr x) (.str x t)=true:=X2 x t
inductive V where
 |non|bl (b:Bool)|int (i:Int)|str (x:Str)|byt (b:Array UInt8)|flt (b:UInt64)|ref (a:Addr)|ty (n:String)
 deriving DecidableEq
def RelV:V->Value->Prop
 |.non,u=>u=Value.none
 |.bl b,u=>u=Value.bool b
 |.int i,u=>∃t,u=Value.int i t
 |.str x,u=>∃t,u=Value.str x t
 |.byt b,u=>∃t,u=Value.bytes b t
 |.flt b,u=>∃t,u=Value.float b t
 |.ref a,u=>u=Value.ref a
 |.ty n,u=>u=Value.type n
abbrev Vals:List V->List Value->Prop:=Paired RelV
theorem Vals.length{xs:List V}{us:List Value}(r:Vals xs us):xs.length=us.length:=Paired.length r
theorem Vals.get:∀{xs:List V}{us:List Value}{i:Nat}{x:V},Vals xs us->xs[i]?=some x->∃u,us[i]?=some u/\RelV x u
 |_,_,_,_,.nil,e=>by simp at e
 |_,_,0,_,.cons r _,e=>by simp at e;subst e;exact⟨_,rfl,r⟩
 |_,_,i+1,x,.cons _ t,e=>by
  obtain⟨u,h1,h2⟩:=Vals.get (i:=i) (x:=x) t (by simpa using e)
  exact⟨u,by simpa using h1,h2⟩
theorem Vals.set{x:V}{u:Value}(r:RelV x u):∀{xs:List V}{us:List Value}(i:Nat),Vals xs us->Vals (xs.set i x) (us.set i u)
 |_,_,_,.nil=>.nil
 |_,_,0,.cons _ t=>.cons r t
 |_,_,i+1,.cons q t=>.cons q (Vals.set r i t)
theorem Vals.append:∀{xs ys:List V}{us ws:List Value},Vals xs us->Vals ys ws->Vals (xs++ys) (us++ws)
 |_,_,_,_,.nil,s=>s
 |_,_,_,_,.cons r t,s=>.cons r (Vals.append t s)
theorem Vals.take:∀{xs:List V}{us:List Value}(n:Nat),Vals xs us->Vals (xs.take n) (us.take n)
 |_,_,0,_=>.nil
 |_,_,_+1,.nil=>.nil
 |_,_,n+1,.cons r t=>.cons r (Vals.take n t)
theorem Vals.drop:∀{xs:List V}{us:List Value}(n:Nat),Vals xs us->Vals (xs.drop n) (us.drop n)
 |_,_,0,r=>r
 |_,_,_+1,.nil=>.nil
 |_,_,n+1,.cons _ t=>Vals.drop n t
def RelO:Option V->Option Value->Prop
 |some v,some u=>RelV v u
 |none,none=>True
 |_,_=>False
def KV{κ:Type}:List (κ×V)->List (κ×Value)->Prop:=Paired fun(p:κ×V)(q:κ×Value)=>p.1=q.1/\RelV p.2 q.2
def kV:Key->V
 |.inl i=>.int i
 |.inr x=>.str x
inductive HO where
 |lst (xs:List V)
 |tup (xs:List V)
 |dK (kvs:List (Key×V))|dT (kvs:List (List Key×V))
 |set (S:Int->Bool) (n:Nat)
 |ins (C dx:Addr) (fs:List (Str×V))
 |own (x:Addr)
 |xd (fs:List (Str×V))
 |met (f x:Addr)
 |rng (lo hi:Int)
 |frz (o:Obj) (u:HO)
 |tbl (ps:Array Value)
 |ext (φ:Heap->Prop)
abbrev Hp:=Addr->Option HO
def upd(H:Hp)(a:Addr)(o:HO):Hp:=fun b=>if b=a then some o else H b
theorem upd_same{H:Hp}{a:Addr}{o:HO}:upd H a o a=some o:=by unfold upd;rw[if_pos rfl]
theorem zi{H:Hp}{a b:Addr}{o:HO}(h:b≠a):upd H a o b=H b:=by unfold upd;rw[if_neg h]
theorem yN{H:Hp}{a b:Addr}{o u:HO}(h:H a=some o)(h':H b=some u)(d:o≠u):a≠b:=by
 intro e;subst e;rw[h]at h';exact d (uO.inj h')
theorem zk{H:Hp}{a b:Addr}{o:HO}(h:H a=some o)(h':H b=none):a≠b:=by
 intro e;subst e;rw[h]at h';cases h'
def IsTupN(h:Heap)(a:Addr)(items:Array Value):Prop:=∃o,h.get? a=some o/\o.cls=.type "tuple"/\o.dict=none/\∃n,o.data=.seq items n
theorem IsTupN.is{h:Heap}{a:Addr}{items:Array Value}(x:IsTupN h a items):IsTup h a items:=let ⟨o,a,b,_,c⟩:=x;⟨o,a,b,c⟩
theorem IsTupN.new(h:Heap)(items:Array Value):IsTupN (h.push { cls:=.type "tuple",data:=.seq items }) h.objs.size items:=⟨_,uA _ rfl,rfl,rfl,_,rfl⟩
section
variable(P:Program)(w:World)
def ObjOk(H:Hp)(h:Heap)(a:Addr):HO->Prop
 |.lst xs=>xs.length<=sizeLine/\∃(its:List Value)(n:Nat),Vals xs its/\h.get? a=some { cls:=.type "list",data:=.seq its.toArray n }
 |.tup xs=>xs.length<=sizeLine/\∃its:List Value,Vals xs its/\IsTupN h a its.toArray
 |.dK kvs=>kvs.length<=sizeLine/\(a == sysModules)=false/\∃vs,KV kvs vs/\h.DictOf (z6 P w) a vs
 |.dT kvs=>kvs.length<=sizeLine/\(a == sysModules)=false/\∃xs:List (List Key×Addr×Value),
   Paired (fun(p:List Key×V)(q:List Key×Addr×Value)=>p.1=q.1/\H q.2.1=some (.tup (p.1.map kV))/\RelV p.2 q.2.2) kvs xs /\
   ∃o es ep,h.get? a=some o/\o.ExactDict/\o.data=.dict es ep/\es.toList=xs.map (entryOfKey (tupleKind (z6 P w)))/\(xs.map (·.1)).Nodup
 |.set S n=>h.SetOf (intKind P w) a S n
 |.ins C dx fs=>H dx=some (.own a)/\fs.length<=1000/\dx≠a/\h.get? a=some (UV C dx) /\
   ∃mA,h.Ns1 dx mA/\(∀f,RelO (fs.lookup f) (mA f))/\PySem.Within mA (fs.map (·.1))
 |.own _=>∃o,h.get? a=some o
 |.xd fs=>∃mA,h.Ns1 a mA/\∀f,RelO (fs.lookup f) (mA f)
 |.rng lo hi=>∃t u v,h.get? a=some { cls:=.type "range",data:=.fields #[.int lo t,.int hi u,.int 1 v] }
 |.frz o u=>h.get? a=some o/\ObjOk H h a u
 |.tbl ps=>h.get? a=some { cls:=.none,data:=.fields ps }
 |.met f x=>h.get? a=some (PySem.W.methodObj (.ref f) (.ref x))
 |.ext φ=>φ h/\(∃o,h.get? a=some o)/\∀h1 h2:Heap,φ h1->(∀o,h1.get? a=some o->h2.get? a=some o)->φ h2
def HOk(H:Hp)(h:Heap):Prop:=∀a o,H a=some o->ObjOk P w H h a o
end
section
variable{P:Program}{w:World}{H H':Hp}{h h':Heap}{a:Addr}{o:HO}
theorem ObjOk.lt(x:ObjOk P w H h a o):a < h.objs.size:=by
 cases o with
 |lst xs=>obtain⟨_,_,_,_,e⟩:=x;exact uv e
 |tup xs=>obtain⟨_,_,_,p⟩:=x;exact p.is.lt
 |dK kvs=>obtain⟨_,_,_,_,o,_,_,e,_⟩:=x;exact uv e
 |dT kvs=>obtain⟨_,_,_,_,o,_,_,e,_⟩:=x;exact uv e
 |set S n=>obtain⟨o,_,_,_,e,_⟩:=x;exact uv e
 |ins C dx fs=>obtain⟨_,_,_,e,_⟩:=x;exact uv e
 |own y=>obtain⟨_,e⟩:=x;exact uv e
 |xd fs=>obtain⟨_,⟨_,_,_,e,_⟩,_⟩:=x;exact uv e
 |rng lo hi=>obtain⟨_,_,_,e⟩:=x;exact uv e
 |frz ob u=>obtain⟨e,_⟩:=x;exact uv e
 |tbl ps=>exact uv (show h.get? a=some _ from x)
 |met f y=>exact uv (show h.get? a=some _ from x)
 |ext φ=>obtain⟨_,⟨_,e⟩,_⟩:=x;exact uv e
theorem Paired.mapP{α β:Type}{F G:α->β->Prop}:∀{l₁:List α}{l₂:List β},Paired F l₁ l₂->(∀a b,F a b->G a b)->Paired G l₁ l₂
 |_,_,.nil,_=>.nil
 |_,_,.cons r t,f=>.cons (f _ _ r) (Paired.mapP t f)
theorem ObjOk.stay(x:ObjOk P w H h a o)(k:∀b u,(b=a\/H b=some (.own a))->h.get? b=some u->h'.get? b=some u)
  (ho:∀b,H b=some (.own a)->H' b=some (.own a)) (ht:∀b xs,H b=some (.tup xs)->H' b=some (.tup xs)):ObjOk P w H' h' a o:=by
 induction o with
 |lst xs=>obtain⟨z,its,n,r,e⟩:=x;exact⟨z,its,n,r,k _ _ (.inl rfl) e⟩
 |tup xs=>obtain⟨z,its,r,ob,e,c⟩:=x;exact⟨z,its,r,ob,k _ _ (.inl rfl) e,c⟩
 |dK kvs=>obtain⟨z,y,vs,r,ob,es,ep,e,c⟩:=x;exact⟨z,y,vs,r,ob,es,ep,k _ _ (.inl rfl) e,c⟩
 |dT kvs =>
  obtain⟨z,y,xs,r,ob,es,ep,e,c⟩:=x
  exact⟨z,y,xs,Paired.mapP r fun p q z=>⟨z.1,ht _ _ z.2.1,z.2.2⟩,ob,es,ep,k _ _ (.inl rfl) e,c⟩
 |set S n=>obtain⟨ob,es,ep,t,e,c⟩:=x;exact⟨ob,es,ep,t,k _ _ (.inl rfl) e,c⟩
 |ins C dx fs =>
  obtain⟨d,z,ne,e,mA,⟨od,es,ep,e2,c⟩,r⟩:=x
  exact⟨ho _ d,z,ne,k _ _ (.inl rfl) e,mA,⟨od,es,ep,k _ _ (.inr d) e2,c⟩,r⟩
 |own y=>obtain⟨ob,e⟩:=x;exact⟨ob,k _ _ (.inl rfl) e⟩
 |xd fs=>obtain⟨mA,⟨od,es,ep,e,c⟩,r⟩:=x;exact⟨mA,⟨od,es,ep,k _ _ (.inl rfl) e,c⟩,r⟩
 |rng lo hi=>obtain⟨t,u,v,e⟩:=x;exact⟨t,u,v,k _ _ (.inl rfl) e⟩
 |frz ob u ih=>obtain⟨e,q⟩:=x;exact⟨k _ _ (.inl rfl) e,ih q⟩
 |tbl ps =>
  have e:h.get? a=some { cls:=.none,data:=.fields ps }:=x
  show h'.get? a=some { cls:=.none,data:=.fields ps }
  exact k a _ (.inl rfl) e
 |met f y =>
  have e:h.get? a=some (PySem.W.methodObj (.ref f) (.ref y)):=x
  show h'.get? a=some (PySem.W.methodObj (.ref f) (.ref y))
  exact k a _ (.inl rfl) e
 |ext φ=>obtain⟨p,⟨o,e⟩,st⟩:=x;exact⟨st _ _ p fun o q=>k _ _ (.inl rfl) q,⟨o,k _ _ (.inl rfl) e⟩,st⟩
theorem HOk.lt(x:HOk P w H h)(e:H a=some o):a < h.objs.size:=(x a o e).lt
theorem HOk.fresh(x:HOk P w H h)(e:h.objs.size<=a):H a=none:=by
 cases q:H a with
 |none=>rfl
 |some u=>exact absurd (uP (x.lt q) e) (UG _)
theorem HOk.kept(x:HOk P w H h)(k:∀b u,h.get? b=some u->h'.get? b=some u):HOk P w H h':=fun a o e =>
 (x a o e).stay (fun b u _ q=>k b u q) (fun _ q=>q) fun _ _ q=>q
theorem HOk.laid(x:HOk P w H h)(k:∀b u,h.get? b=some u->h'.get? b=some u)(hp:h.objs.size<=a)(new:ObjOk P w (upd H a o) h' a o):HOk P w (upd H a o) h':=fun b u e=>by
 have hn:=x.fresh hp
 by_cases hb:b=a
 ·subst hb;rw[upd_same]at e;cases e;exact new
 ·rw[zi hb]at e
  exact(x b u e).stay (fun c v _ q=>k c v q) (fun c q=>by rw[zi (zk q hn)];exact q) fun c xs q=>by rw[zi (zk q hn)];exact q
end
def Rd(H:Hp)(a:Addr)(u:HO):Prop:=H a=some u\/∃o,H a=some (.frz o u)
theorem Rd.of{H:Hp}{a:Addr}{u:HO}(h:H a=some u):Rd H a u:=.inl h
theorem Rd.ok{P:Program}{w:World}{H:Hp}{h:Heap}{a:Addr}{u:HO}(r:Rd H a u)(x:HOk P w H h):ObjOk P w H h a u:=by
 rcases r with r|⟨o,r⟩
 ·exact x a u r
 ·obtain⟨_,q⟩:=x a _ r
  exact q
def Mut:Option HO->Prop
 |some (.lst _)=>True
 |some (.dK _)=>True
 |some (.dT _)=>True
 |some (.set _ _)=>True
 |some (.ins _ _ _)=>True
 |some (.ext _)=>True
 |_=>False
section
variable{P:Program}{w:World}{H:Hp}{h h':Heap}{x e:Addr}{o':HO}
theorem HOk.write(ok:HOk P w H h)(mu:Mut (H x))(he:e=x\/H e=some (.own x))(k:∀b u,b≠e->h.get? b=some u->h'.get? b=some u)(heo:∃u,h'.get? e=some u)
  (new:ObjOk P w (upd H x o') h' x o'):HOk P w (upd H x o') h':=fun b u q=>by
 have nown:∀c y,H c=some (.own y)->c≠x:=fun c y r z=>by subst z;rw[r]at mu;exact mu
 have ntup:∀c xs,H c=some (.tup xs)->c≠x:=fun c xs r z=>by subst z;rw[r]at mu;exact mu
 by_cases hb:b=x
 ·subst hb;rw[upd_same]at q;cases q;exact new
 ·rw[zi hb]at q
  by_cases hbe:b=e
  ·have q':H b=some (.own x):=by
    rcases he with z|z
    ·exact absurd (hbe.trans z) hb
    ·rw[hbe];exact z
   rw[q]at q';cases q'
   obtain⟨v,hv⟩:=heo
   exact⟨v,by rw[hbe];exact hv⟩
  ·refine(ok b u q).stay (fun c v hc r=>k c v ?_ r) (fun c r=>by rw[zi (nown c b r)];exact r) fun c xs r=>by rw[zi (ntup c xs r)];exact r
   rcases hc with rfl|hc
   ·exact hbe
   ·rintro rfl
    rcases he with z|z
    ·exact nown c b hc z
    ·rw[hc]at z;cases z;exact hb rfl
end
structure Un(fs ex:List Addr)(H H':Hp)(h h':Heap):Prop where
 keep:∀b o,h.get? b=some o->H b=none->b∉fs->b∉ex->h'.get? b=some o
 slot:∀b o,h.get? b=some o->H b=none->b∈fs->b∉ex->∃sl,h'.get? b=some { o with slots:=sl }
 free:∀b o,h.get? b=some o->H b=none->b∉ex->H' b=none
 there:∀b o,h.get? b=some o->b∉ex->∃o',h'.get? b=some o'
 tups:∀b xs,H b=some (.tup xs)->H' b=some (.tup xs)
 frzs:∀b o u,H b=some (.frz o u)->H' b=some (.frz o u)
 tbls:∀b ps,H b=some (.tbl ps)->∃more,H' b=some (.tbl (ps++more))
section
variable{fs fs' ex ex':List Addr}{H H1 H2:Hp}{h h1 h2 h':Heap}{a x e:Addr}{o:HO}
theorem Un.any(u:Un fs ex H H1 h h1){b:Addr}{ob:Obj}(q:h.get? b=some ob)(n:H b=none)(hx:b∉ex):∃sl,h1.get? b=some { ob with slots:=sl }:=by
 by_cases hb:b∈fs
 ·exact u.slot b ob q n hb hx
 ·exact⟨ob.slots,u.keep b ob q n hb hx⟩
theorem Un.kept(k:∀b u,h.get? b=some u->h'.get? b=some u):Un fs ex H H h h' :=
 ⟨fun b ob q _ _ _=>k b ob q,fun b ob q _ _ _=>⟨ob.slots,k b ob q⟩,fun _ _ _ n _=>n,fun b ob q _=>⟨ob,k b ob q⟩,fun _ _ q=>q,fun _ _ _ q=>q,fun _ ps q=>⟨#[],by rw[q];simp⟩⟩
theorem Un.refl:Un fs ex H H h h:=Un.kept fun _ _ q=>q
theorem Un.laid(k:∀b u,h.get? b=some u->h'.get? b=some u)(hp:h.objs.size<=a)(hn:H a=none):Un fs ex H (upd H a o) h h' where
 keep:=fun b u q _ _ _=>k b u q
 slot:=fun b u q _ _ _=>⟨u.slots,k b u q⟩
 free:=fun b u q n _=>by rw[zi (uS (uP (uv q) hp))];exact n
 there:=fun b u q _=>⟨u,k b u q⟩
 tups:=fun b xs q=>by rw[zi (zk q hn)];exact q
 frzs:=fun b u xs q=>by rw[zi (zk q hn)];exact q
 tbls:=fun b ps q=>⟨#[],by rw[zi (zk q hn),q];simp⟩
theorem Un.write(mu:Mut (H x))(he:e=x\/H e=some (.own x))(k:∀b u,b≠e->h.get? b=some u->h'.get? b=some u)(heo:∃u,h'.get? e=some u):Un fs ex H (upd H x o) h h':=by
 have hx:∀b,H b=none->b≠x:=fun b n z=>by subst z;rw[n]at mu;exact mu
 have hb:∀b,H b=none->b≠e:=fun b n z=>by
  subst z
  rcases he with r|r
  ·exact hx b n r
  ·rw[n]at r;cases r
 have hm:∀b u,H b=some u->¬ Mut (some u)->b≠x:=fun b u q nm z=>by subst z;rw[q]at mu;exact nm mu
 refine⟨fun b u q n _ _=>k b u (hb b n) q,fun b u q n _ _=>⟨u.slots,k b u (hb b n) q⟩,fun b u q n _=>by rw[zi (hx b n)];exact n,fun b u q _=>?_,
  fun b xs q=>by rw[zi (hm b _ q fun z=>z)];exact q,fun b u xs q=>by rw[zi (hm b _ q fun z=>z)];exact q,fun b ps q=>⟨#[],by rw[zi (hm b _ q fun z=>z),q];simp⟩⟩
 by_cases hbe:b=e
 ·subst hbe;exact heo
 ·exact⟨u,k b u hbe q⟩
end
def trk(h:Heap)(H:Hp):List Addr:=(uC h.objs.size).filter fun a=>(H a).isSome
def hidT(h:Heap)(H:Hp):Heap:=PySem.W.hideAll h (trk h H)
theorem X3(h:Heap)(H:Hp):(hidT h H).objs.size=h.objs.size:=PySem.W.hideAll_size _ _
theorem WO{h:Heap}{H:Hp}{b:Addr}{o:Obj}(e:h.get? b=some o)(n:H b=none):(hidT h H).get? b=some o :=
 PySem.W.hideAll_get _ e fun hm=>by
  have q:(H b).isSome=true:=(UW.mp hm).2
  rw[n]at q;simp at q
theorem J4{h:Heap}{H:Hp}{b:Addr}{o:Obj}(e:(hidT h H).get? b=some o):h.get? b=some o/\H b=none:=by
 have e':h.get? b=some o:=PySem.W.of_hideAll (trk h H) e
 refine⟨e',?_⟩
 cases q:H b with
 |none=>rfl
 |some x =>
  have hm:b∈trk h H:=UW.mpr ⟨Us.mpr (uv e'),by simp[q]⟩
  have z:(hidT h H).get? b=none:=PySem.W.hideAll_none (trk h H) hm
  rw[z]at e;cases e
def J5(g h:Heap)(L:Addr):List (Addr×Obj):=(uC h.objs.size).filterMap fun a=>if a=L\/(g.get? a).isSome=true then none else(h.get? a).map fun o=>(a,o)
def rest(g h:Heap)(L d:Addr):List (Addr×Obj):=(J5 g h L).filter fun p=>decide (p.1≠d)
structure Mod(K:ub)(mg:Str->Option Value)(base:Heap):Prop where
 kin:K.In base
 glob:base.Ns mainGlobals mg
 blt:∃mb,base.Ns builtinsNs mb/\∀x:Str,x≠"__name__"->mb x=bootBuiltins x
 nolimit:base.NoLimit
structure Cx where
 prog:Program
 w:World
 K:ub
 mg:Str->Option Value
 base:Heap
 A:Around
 N:List Str
 s₀:Shared
 H₀:Hp
 env:Env
 outer:List Env
 stack:List Env
 ex:List Addr
 fn:Str->Bool
 calm:Bool
 pn:List (Addr×Obj)
 xe:Value->Shared->Prop
def frs(l:List Env):List Addr:=l.filterMap (·.frame)
abbrev Cx.fs(X:Cx):List Addr:=frs X.outer
def Vis(sc:Scope)(x:Str):Prop:=sc.names.lookup x=some .local\/sc.names.lookup x=some .cell\/sc.names.lookup x=some .free
def Loc(sc:Scope)(x:Str):Prop:=sc.names.lookup x=some .local\/sc.names.lookup x=some .cell
def Look(env:Env)(h:Heap)(m:Str->Option Value)(x:Str)(u:Value):Prop :=
 (env.kindOf x=some .local/\m x=some u)\/((env.kindOf x=some .cell\/env.kindOf x=some .free)/\∃c,env.cells.lookup x=some c/\h.IsCell c (some u))
structure Cx.Ok(X:Cx):Prop where
 mod:Mod X.K X.mg X.base
 kind:X.env.scope.kind=.function
 glob:X.env.globals=mainGlobals
 blt:X.env.builtins=builtinsNs
 above:X.s₀.heap.objs.size<=X.env.locals
 inj:∀x y c,X.env.cells.lookup x=some c->X.env.cells.lookup y=some c->x=y
 has:∀x,(X.env.kindOf x=some .cell\/X.env.kindOf x=some .free)->∃c,X.env.cells.lookup x=some c
 cab:∀x c,X.fn x=true->X.env.cells.lookup x=some c->X.s₀.heap.objs.size<=c
 hd:X.calm=true->X.A.handled=none
 frames:X.A.frames=some X.stack
 stk:X.stack=X.outer\/(X.stack=X.env::X.outer/\X.env.frame=some X.env.locals)
 exf:∀b∈X.ex,b≠X.env.locals/\∀x c,X.env.cells.lookup x=some c->c≠b
 bs:∀b o,X.base.get? b=some o->X.s₀.heap.get? b=some o/\X.H₀ b=none
 bsz:X.base.objs.size<=X.s₀.heap.objs.size
 noex:∀b o,X.base.get? b=some o->b∉X.ex
 exfs:∀b∈X.ex,b∉X.fs
 funs:X.s₀.heap.FunFrames X.base X.outer
 frf:∀b∈X.fs,X.H₀ b=none
structure Inv(X:Cx)(pins:List (Addr×Obj))(σ:List (Option V))(H:Hp)(s:Shared):Prop where
 ok:X.Ok
 os:s.os=X.s₀.os
 bare:AllBare s.gens
 base:Un X.fs X.ex X.H₀ H X.s₀.heap s.heap
 loc:∃m,s.heap.Ns X.env.locals m/\∀(i:Nat)(x:Str)(v:V),X.N[i]?=some x->σ[i]?=some (some v)->Vis X.env.scope x->∃u,RelV v u/\Look X.env s.heap m x u
 cell:∀x c,X.env.cells.lookup x=some c->∃v,s.heap.IsCell c v
 free:H X.env.locals=none
 freeC:∀x c,X.env.cells.lookup x=some c->H c=none
 pin:∀p∈X.pn++pins,s.heap.get? p.1=some p.2/\H p.1=none/\p.1≠X.env.locals/\p.1∉X.fs/\∀v,p.2.data≠.cell v
 hok:HOk X.prog X.w H s.heap
 len:σ.length=X.N.length
section
variable{X:Cx}{pins:List (Addr×Obj)}{σ:List (Option V)}{H H':Hp}{s:Shared}{h':Heap}
theorem Cx.Ok.nofr(ok:X.Ok){b:Addr}{o:Obj}(e:X.base.get? b=some o):b∉X.fs:=fun hb=>by
 have:=(ok.funs.mem hb).1
 rw[e]at this;cases this
theorem Inv.bs(I:Inv X pins σ H s):∀b o,X.base.get? b=some o->s.heap.get? b=some o/\H b=none:=fun b o e =>
 ⟨I.base.keep b o (I.ok.bs b o e).1 (I.ok.bs b o e).2 (I.ok.nofr e) (I.ok.noex b o e),I.base.free b o (I.ok.bs b o e).1 (I.ok.bs b o e).2 (I.ok.noex b o e)⟩
theorem Inv.bk(I:Inv X pins σ H s):∀b o,X.base.get? b=some o->s.heap.get? b=some o:=fun b o e=>(I.bs b o e).1
theorem Inv.mod(I:Inv X pins σ H s):Mod X.K X.mg X.base:=I.ok.mod
theorem Inv.kIn(I:Inv X pins σ H s):X.K.In s.heap:=I.ok.mod.kin.keeps I.bk
theorem Inv.lt(I:Inv X pins σ H s):X.env.locals < s.heap.objs.size:=let ⟨_,hn,_⟩:=I.loc;hn.lt
theorem Inv.sz(I:Inv X pins σ H s):X.s₀.heap.objs.size<=s.heap.objs.size:=Uc I.ok.above (Nat.le_of_lt I.lt)
theorem Inv.nofs(I:Inv X pins σ H s){a:Addr}(h:s.heap.objs.size<=a):a∉X.fs:=fun hb=>by
 obtain⟨_,o,ho,_⟩:=I.ok.funs.mem hb
 exact absurd (uP (uv ho) (Uc I.sz h)) (UG _)
theorem Inv.cne(I:Inv X pins σ H s):∀x c,X.env.cells.lookup x=some c->c≠X.env.locals:=fun x c e z=>by
 obtain⟨v,o,ho,hd⟩:=I.cell x c e
 obtain⟨m,⟨o',es,ep,ho',hd',_⟩,_⟩:=I.loc
 rw[z,ho']at ho;cases ho;rw[hd']at hd;cases hd
theorem Inv.funs(I:Inv X pins σ H s):s.heap.FunFrames X.base X.outer:=by
 have all:∀(l:List Env),(∀b∈frs l,b∈X.fs)->X.s₀.heap.FunFrames X.base l->s.heap.FunFrames X.base l:=by
  intro l
  induction l with
  |nil=>intro _ _;trivial
  |cons env r ih =>
   intro hs hl
   obtain⟨hk,⟨L,o,hf,hn,ho,hd⟩,hr⟩:=hl
   have hL:L∈X.fs:=hs L (by unfold frs;rw[List.filterMap_cons,hf];exact uK)
   obtain⟨sl,e⟩:=I.base.slot L o ho (I.ok.frf L hL) hL fun z=>I.ok.exfs L z hL
   exact⟨hk,⟨L,_,hf,hn,e,hd⟩,ih (fun b hb=>hs b (by unfold frs;rw[List.filterMap_cons,hf];exact uD _ hb)) hr⟩
 exact all X.outer (fun _ hb=>hb) I.ok.funs
theorem Inv.stack(I:Inv X pins σ H s):s.heap.FunFrames X.base X.stack:=by
 rcases I.ok.stk with e|⟨e,hf⟩
 ·rw[e];exact I.funs
 ·rw[e]
  obtain⟨m,hn,_⟩:=I.loc
  refine .cons (by rw[I.ok.kind];decide) hf hn ?_ I.funs
  exact Heap.get?_none_of_le (Uc I.ok.bsz I.ok.above)
theorem Inv.stkSub(I:Inv X pins σ H s):∀b∈frs X.stack,b∈X.env.locals::X.fs:=fun b hb=>by
 rcases I.ok.stk with e|⟨e,hf⟩
 ·rw[e]at hb;exact uD _ hb
 ·rw[e]at hb
  unfold frs at hb
  rw[List.filterMap_cons,hf]at hb
  exact hb
theorem Inv.stkFree(I:Inv X pins σ H s):∀b∈frs X.stack,H b=none:=fun b hb=>by
 rcases um.mp (I.stkSub b hb)with e|hb
 ·rw[e];exact I.free
 ·obtain⟨_,o,ho,_⟩:=I.ok.funs.mem hb
  exact I.base.free b o ho (I.ok.frf b hb) fun z=>I.ok.exfs b z hb
theorem Inv.step{g':Array GenState}{t':Nat}{d':Drawn}{ch:List Addr}(I:Inv X pins σ H s)
  (hch:∀b∈ch,(b∈X.ex\/X.s₀.heap.objs.size<=b)/\b≠X.env.locals/\(∀x c,X.env.cells.lookup x=some c->c≠b)/\∀p∈X.pn++pins,p.1≠b)
  (keep:∀b o,b≠X.env.locals->b∉X.fs->b∉ch->s.heap.get? b=some o->H b=none->h'.get? b=some o)
  (slot:∀b o,b≠X.env.locals->b∈X.fs->b∉ch->s.heap.get? b=some o->H b=none->∃sl,h'.get? b=some { o with slots:=sl }) (free:∀b o,b∉ch->s.heap.get? b=some o->H b=none->H' b=none)
  (there:∀b o,b∉ch->s.heap.get? b=some o->∃o',h'.get? b=some o')
  (tups:∀b xs,H b=some (.tup xs)->H' b=some (.tup xs)) (frzs:∀b o u,H b=some (.frz o u)->H' b=some (.frz o u)) (tbls:∀b ps,H b=some (.tbl ps)->∃more,H' b=some (.tbl (ps++more)))
  (ns:∀m,s.heap.Ns X.env.locals m->h'.Ns X.env.locals m) (hok:HOk X.prog X.w H' h') (hg:AllBare g') :
  Inv X pins σ H' { s with heap:=h',gens:=g',drawn:=d',toks:=t' }:=by
 have neL:∀b o,X.s₀.heap.get? b=some o->b≠X.env.locals:=fun b o e=>uS (uP (uv e) I.ok.above)
 have neC:∀b o,X.s₀.heap.get? b=some o->b∉X.ex->b∉ch:=fun b o e hx hb=>by
  rcases(hch b hb).1 with z|z
  ·exact hx z
  ·exact absurd (uP (uv e) z) (UG _)
 have cellK:∀x c,X.env.cells.lookup x=some c->∀v,s.heap.IsCell c v->h'.IsCell c v:=fun x c e v ⟨o,ho,hd⟩=>by
  have nch:c∉ch:=fun z=>(hch c z).2.2.1 x c e rfl
  by_cases hc:c∈X.fs
  ·obtain⟨sl,q⟩:=slot c o (I.cne x c e) hc nch ho (I.freeC x c e)
   exact⟨_,q,hd⟩
  ·exact⟨o,keep c o (I.cne x c e) hc nch ho (I.freeC x c e),hd⟩
 refine⟨I.ok,I.os,hg,⟨fun b o e n hb hx=>?_,fun b o e n hb hx=>?_,fun b o e n hx=>?_,fun b o e hx=>?_,fun b xs e=>tups b xs (I.base.tups b xs e),fun b o xs e=>frzs b o xs (I.base.frzs b o xs e),fun b ps e=>?_⟩,?_,fun x c e=>?_,?_,fun x c e=>?_,fun p hp=>?_,hok,I.len⟩
 ·exact keep b o (neL b o e) hb (neC b o e hx) (I.base.keep b o e n hb hx) (I.base.free b o e n hx)
 ·obtain⟨sl,e1⟩:=I.base.slot b o e n hb hx
  obtain⟨sl',e2⟩:=slot b _ (neL b o e) hb (neC b o e hx) e1 (I.base.free b o e n hx)
  exact⟨sl',e2⟩
 ·obtain⟨o',e1⟩:=I.base.there b o e hx
  exact free b o' (neC b o e hx) e1 (I.base.free b o e n hx)
 ·obtain⟨o',e1⟩:=I.base.there b o e hx
  exact there b o' (neC b o e hx) e1
 ·obtain⟨m1,e1⟩:=I.base.tbls b ps e
  obtain⟨m2,e2⟩:=tbls b _ e1
  exact⟨m1++m2,by rw[e2,Array.append_assoc]⟩
 ·obtain⟨m,hn,hl⟩:=I.loc
  refine⟨m,ns m hn,fun i x v e1 e2 e3=>?_⟩
  obtain⟨u,r,l⟩:=hl i x v e1 e2 e3
  refine⟨u,r,?_⟩
  rcases l with l|⟨k,c,e,z⟩
  ·exact .inl l
  ·exact .inr ⟨k,c,e,cellK x c e _ z⟩
 ·obtain⟨v,z⟩:=I.cell x c e
  exact⟨v,cellK x c e v z⟩
 ·obtain⟨m,⟨o,_,_,ho,_⟩,_⟩:=I.loc
  exact free _ o (fun z=>(hch _ z).2.1 rfl) ho I.free
 ·obtain⟨v,o,ho,hd⟩:=I.cell x c e
  exact free c o (fun z=>(hch c z).2.2.1 x c e rfl) ho (I.freeC x c e)
 ·obtain⟨e,n,ne,nf,d⟩:=I.pin p hp
  have nch:p.1∉ch:=fun z=>(hch p.1 z).2.2.2 p hp rfl
  exact⟨keep p.1 p.2 ne nf nch e n,free p.1 p.2 nch e n,ne,nf,d⟩
theorem Inv.un{t':Nat}(I:Inv X pins σ H s)(u:Un X.fs [] H H' s.heap h')(hok:HOk X.prog X.w H' h'):Inv X pins σ H' { s with heap:=h',toks:=t' }:=by
 obtain⟨m,⟨o,es,ep,ho,r⟩,_⟩:=id I.loc
 obtain⟨sl,hL⟩:=u.any ho I.free (by simp)
 exact I.step (g':=s.gens) (d':=s.drawn) (ch:=[]) (fun _ z=>nomatch z) (fun b o _ hb _ e n=>u.keep b o e n hb (by simp)) (fun b o _ hb _ e n=>u.slot b o e n hb (by simp)) (fun b o _ e n=>u.free b o e n (by simp)) (fun b o _ e=>u.there b o e (by simp)) u.tups u.frzs u.tbls (fun m' hm=>by
  obtain⟨o',es',ep',ho',r'⟩:=hm
  rw[ho]at ho';cases ho'
  exact⟨_,es',ep',hL,r'⟩) hok I.bare
theorem Inv.call{g':Array GenState}{t':Nat}{d':Drawn}{ch:List Addr}(I:Inv X pins σ H s)(u:Un (frs X.stack) ch H H' s.heap h')(hok:HOk X.prog X.w H' h')(hg:AllBare g')
  (hch:∀b∈ch,(b∈X.ex\/X.s₀.heap.objs.size<=b)/\b≠X.env.locals/\(∀x c,X.env.cells.lookup x=some c->c≠b)/\∀p∈X.pn++pins,p.1≠b) :
  Inv X pins σ H' { s with heap:=h',gens:=g',drawn:=d',toks:=t' }:=by
 obtain⟨m,⟨o,es,ep,ho,r⟩,_⟩:=id I.loc
 obtain⟨sl,hL⟩:=u.any ho I.free fun z=>(hch _ z).2.1 rfl
 exact I.step (ch:=ch) hch (fun b o hL hb hc e n=>u.keep b o e n (fun z=>(um.mp (I.stkSub b z)).elim hL hb) hc) (fun b o _ _ hc e n=>u.any e n hc) (fun b o hc e n=>u.free b o e n hc) (fun b o hc e=>u.there b o e hc) u.tups u.frzs u.tbls (fun m' hm=>by
  obtain⟨o',es',ep',ho',r'⟩:=hm
  rw[ho]at ho';cases ho'
  exact⟨_,es',ep',hL,r'⟩) hok hg
theorem Inv.turned{t':Nat}{it:Addr}(I:Inv X pins σ H s)(k:∀b o,b≠it->s.heap.get? b=some o->h'.get? b=some o)(hn:H it=none)(hL:it≠X.env.locals)
  (h1:it∈X.ex\/X.s₀.heap.objs.size<=it) (h2:∀x c,X.env.cells.lookup x=some c->c≠it) (h3:∀p∈X.pn++pins,p.1≠it):Inv X pins σ H { s with heap:=h',toks:=t' }:=by
 have nit:∀b u,H b=some u->b≠it:=fun b u e z=>by rw[z,hn]at e;cases e
 refine I.step (g':=s.gens) (d':=s.drawn) (ch:=[it]) (fun b hb=>?_) (fun b o _ _ hc e _=>k b o (fun z=>hc (by simp[z])) e) (fun b o _ _ hc e _=>⟨o.slots,k b o (fun z=>hc (by simp[z])) e⟩) (fun _ _ _ _ n=>n)
  (fun b o hc e=>⟨o,k b o (fun z=>hc (by simp[z])) e⟩) (fun _ _ e=>e) (fun _ _ _ e=>e) (fun b ps e=>⟨#[],by rw[e];simp⟩) (fun m hm=>?_) (fun b u e=>?_) I.bare
 ·have e:b=it:=by simpa using hb
  subst e
  exact⟨h1,hL,h2,h3⟩
 ·obtain⟨o,es,ep,ho,r⟩:=hm
  exact⟨o,es,ep,k _ o (Ne.symm hL) ho,r⟩
 ·refine(I.hok b u e).stay (fun c v hc q=>k c v ?_ q) (fun _ q=>q) fun _ _ q=>q
  rcases hc with z|z
  ·rw[z];exact nit b u e
  ·exact nit c _ z
theorem Inv.tok(I:Inv X pins σ H s)(t:Nat):Inv X pins σ H { s with toks:=t }:=I.un (h':=s.heap) (t':=t) Un.refl I.hok
theorem Inv.kept{t':Nat}(I:Inv X pins σ H s)(k:∀b u,s.heap.get? b=some u->h'.get? b=some u):Inv X pins σ H { s with heap:=h',toks:=t' }:=I.un (Un.kept k) (I.hok.kept k)
theorem Inv.laid{a:Addr}{o:HO}{t':Nat}(I:Inv X pins σ H s)(k:∀b u,s.heap.get? b=some u->h'.get? b=some u)(hp:s.heap.objs.size<=a)(new:ObjOk X.prog X.w (upd H a o) h' a o):
  Inv X pins σ (upd H a o) { s with heap:=h',toks:=t' }:=I.un (Un.laid k hp (I.hok.fresh hp)) (I.hok.laid k hp new)
theorem Inv.write{x e:Addr}{o:HO}{t':Nat}(I:Inv X pins σ H s)(mu:Mut (H x))(he:e=x\/H e=some (.own x))(k:∀b u,b≠e->s.heap.get? b=some u->h'.get? b=some u)(heo:∃u,h'.get? e=some u)
  (new:ObjOk X.prog X.w (upd H x o) h' x o):Inv X pins σ (upd H x o) { s with heap:=h',toks:=t' }:=I.un (Un.write mu he k heo) (I.hok.write mu he k heo new)
theorem Inv.pins_of{pins':List (Addr×Obj)}(I:Inv X pins σ H s)(h:∀p∈pins',s.heap.get? p.1=some p.2/\H p.1=none/\p.1≠X.env.locals/\p.1∉X.fs/\∀v,p.2.data≠.cell v):Inv X pins' σ H s :=
 ⟨I.ok,I.os,I.bare,I.base,I.loc,I.cell,I.free,I.freeC,fun p hp=>(uE.mp hp).elim (fun z=>I.pin p (uB _ z)) (h p),I.hok,I.len⟩
theorem Zv{N:List Str}(hN:N.Nodup){i j:Nat}{x:Str}(a:N[i]?=some x)(b:N[j]?=some x):i=j:=by
 obtain⟨h1,e1⟩:=uc.mp a
 obtain⟨h2,e2⟩:=uc.mp b
 exact(List.getElem_inj hN).mp (e1.trans e2.symm)
theorem je{M:Model}{A:Around}{E:Value->Shared->Prop}{i:Nat}{x:Str}{v:V}{u:Value}{Q:Unit->Shared->Prop}(I:Inv X pins σ H s)(hN:X.N.Nodup)(hi:X.N[i]?=some x)(hx:Loc X.env.scope x)(r:RelV v u)
  (h:∀s',Inv X pins (σ.set i (some v)) H s'->(∃a,Heap.SameBut a s.heap s'.heap/\(a=X.env.locals\/X.env.cells.lookup x=some a))->Q () s') (hf:X.fn x=true\/X.env.scope.names.lookup x=some .local:=by first|exact .inl rfl|exact .inr rfl|assumption):wpAny M A (storeName X.env x u) Q E s:=by
 obtain⟨m,hn,hl⟩:=id I.loc
 have hcls:(X.env.scope.kind == .class || (X.env.scope.kind == .module && X.env.locals != X.env.globals))=false:=by rw[I.ok.kind];rfl
 have hiσ:i < σ.length:=by rw[I.len];exact(uc.mp hi).1
 have cne:=I.cne
 have tracked:∀{a:Addr}{h':Heap},(∃o,s.heap.get? a=some o/\H a=none)->Heap.SameBut a s.heap h'->HOk X.prog X.w H h':=fun{a h'} ha hs b ob e=>by
  obtain⟨_,_,hfree⟩:=ha
  refine(I.hok b ob e).stay (fun c w' hc q=>(hs.2 c ?_).trans q) (fun _ q=>q) fun _ _ q=>q
  rintro rfl
  rcases hc with rfl|hc
  ·rw[hfree]at e;cases e
  ·rw[hfree]at hc;cases hc
 rcases hx with hk|hk
 ·refine wpAny_storeName_local hk hn (fun h' hn' hs=>?_) hcls
  obtain⟨oL,_,_,hoL,_⟩:=id hn
  refine h _ ⟨I.ok,I.os,I.bare,⟨fun b o e n hb hx=>?_,fun b o e n hb hx=>?_,I.base.free,fun b o e hx=>?_,I.base.tups,I.base.frzs,I.base.tbls⟩,⟨_,hn',fun j y v' e1 e2 e3=>?_⟩,fun y c e=>?_,I.free,I.freeC,fun p hp=>?_,tracked ⟨oL,hoL,I.free⟩ hs,by simpa using I.len⟩ ⟨_,hs,.inl rfl⟩
  ·exact(hs.2 b (uS (uP (uv e) I.ok.above))).trans (I.base.keep b o e n hb hx)
  ·obtain⟨sl,e1⟩:=I.base.slot b o e n hb hx
   exact⟨sl,(hs.2 b (uS (uP (uv e) I.ok.above))).trans e1⟩
  ·obtain⟨o',e1⟩:=I.base.there b o e hx
   exact⟨o',(hs.2 b (uS (uP (uv e) I.ok.above))).trans e1⟩
  ·by_cases hj:j=i
   ·subst hj
    rw[hi]at e1;cases e1
    rw[List.getElem?_set_self hiσ]at e2
    cases e2
    exact⟨u,r,.inl ⟨hk,by simp⟩⟩
   ·rw[List.getElem?_set_ne (Ne.symm hj)]at e2
    obtain⟨u',r',q⟩:=hl j y v' e1 e2 e3
    refine⟨u',r',?_⟩
    rcases q with⟨k,e⟩|⟨k,c,e,z⟩
    ·refine .inl ⟨k,?_⟩
     have:y≠x:=fun e=>hj (Zv hN e1 (e ▸ hi))
     simp[this,e]
    ·exact .inr ⟨k,c,e,z.sameBut hs (cne y c e)⟩
  ·obtain⟨w',z⟩:=I.cell y c e
   exact⟨w',z.sameBut hs (cne y c e)⟩
  ·obtain⟨e,n,ne,nf,d⟩:=I.pin p hp
   exact⟨(hs.2 p.1 ne).trans e,n,ne,nf,d⟩
 ·have hfn:X.fn x=true:=by
   rcases hf with z|z
   ·exact z
   ·rw[z]at hk;cases hk
  obtain⟨c,hc⟩:=I.ok.has x (.inl hk)
  obtain⟨w',z⟩:=I.cell x c hc
  refine wpAny_storeName_cell I.ok.kind hk hc z (fun h' hc' hs=>?_)
  obtain⟨oc,hoc,hocd⟩:=id z
  refine h { s with heap:=h' } ⟨I.ok,I.os,I.bare,⟨fun b o e n hb hx=>?_,fun b o e n hb hx=>?_,I.base.free,fun b o e hx=>?_,I.base.tups,I.base.frzs,I.base.tbls⟩,⟨m,hn.sameBut hs (Ne.symm (cne x c hc)),fun j y v' e1 e2 e3=>?_⟩,fun y c' e=>?_,I.free,I.freeC,fun p hp=>?_,tracked ⟨oc,hoc,I.freeC x c hc⟩ hs,by simpa using I.len⟩ ⟨c,hs,.inr hc⟩
  ·exact(hs.2 b (uS (uP (uv e) (I.ok.cab x c hfn hc)))).trans (I.base.keep b o e n hb hx)
  ·obtain⟨sl,e1⟩:=I.base.slot b o e n hb hx
   exact⟨sl,(hs.2 b (uS (uP (uv e) (I.ok.cab x c hfn hc)))).trans e1⟩
  ·obtain⟨o',e1⟩:=I.base.there b o e hx
   exact⟨o',(hs.2 b (uS (uP (uv e) (I.ok.cab x c hfn hc)))).trans e1⟩
  ·by_cases hj:j=i
   ·subst hj
    rw[hi]at e1;cases e1
    rw[List.getElem?_set_self hiσ]at e2
    cases e2
    exact⟨u,r,.inr ⟨.inl hk,c,hc,hc'⟩⟩
   ·rw[List.getElem?_set_ne (Ne.symm hj)]at e2
    obtain⟨u',r',q⟩:=hl j y v' e1 e2 e3
    refine⟨u',r',?_⟩
    rcases q with q|⟨k,c',e,z'⟩
    ·exact .inl q
    ·refine .inr ⟨k,c',e,z'.sameBut hs ?_⟩
     rintro rfl
     exact hj (Zv hN e1 (I.ok.inj _ _ _ e hc ▸ hi))
  ·by_cases hcc:c'=c
   ·subst hcc;exact⟨_,hc'⟩
   ·obtain⟨w2,z2⟩:=I.cell y c' e
    exact⟨w2,z2.sameBut hs hcc⟩
  ·obtain⟨e,n,ne,nf,d⟩:=I.pin p hp
   refine⟨(hs.2 p.1 ?_).trans e,n,ne,nf,d⟩
   intro q
   rw[q,hoc]at e
   have q':oc=p.2:=uO.inj e
   exact d w' (by rw[<- q'];exact hocd)
theorem xR{M:Model}{A:Around}{E:Value->Shared->Prop}{i:Nat}{x:Str}{v:V}{u:Value}{Q:Unit->Shared->Prop}(I:Inv X pins σ H s)(hN:X.N.Nodup)(hi:X.N[i]?=some x)(hx:Loc X.env.scope x)(r:RelV v u)
  (h:∀s',Inv X pins (σ.set i (some v)) H s'->Q () s') (hf:X.fn x=true\/X.env.scope.names.lookup x=some .local:=by first|exact .inl rfl|exact .inr rfl|assumption):wpAny M A (storeName X.env x u) Q E s :=
 je I hN hi hx r (fun s' I' _=>h s' I') hf
theorem Inv.call'{s':Shared}{ch:List Addr}(I:Inv X pins σ H s)(ho:s'.os=s.os)(u:Un (frs X.stack) ch H H' s.heap s'.heap)(hok:HOk X.prog X.w H' s'.heap)(hg:AllBare s'.gens)
  (hch:∀b∈ch,(b∈X.ex\/X.s₀.heap.objs.size<=b)/\b≠X.env.locals/\(∀x c,X.env.cells.lookup x=some c->c≠b)/\∀p∈X.pn++pins,p.1≠b):Inv X pins σ H' s':=by
 obtain⟨h',g',d',t',o'⟩:=s'
 have e:o'=s.os:=ho
 subst e
 exact I.call (g':=g') (t':=t') (d':=d') u hok hg hch
end
abbrev XK:=Value->Option Addr->Hp->Prop
abbrev St:=List (Option V)
abbrev VK:=V->Hp->Prop
abbrev TE:=St->Hp->VK->Prop
abbrev TT:=St->Hp->(Bool->Hp->Prop)->Prop
abbrev TA:=St->Hp->(List V->Hp->Prop)->Prop
structure Ends where
 nx:St->Hp->Prop
 rt:VK
 bk:St->Hp->Prop:=fun _ _=>False
 ct:St->Hp->Prop:=fun _ _=>False
abbrev TS:=Ends->St->Hp->Prop
def EP(X:Cx)(pins:List (Addr×Obj))(σ:St)(Q:VK)(u:Value)(s':Shared):Prop:=∃v H',Inv X pins σ H' s'/\RelV v u/\Q v H'
def TP(X:Cx)(pins:List (Addr×Obj))(σ:St)(Q:Bool->Hp->Prop)(b:Bool)(s':Shared):Prop:=∃H',Inv X pins σ H' s'/\Q b H'
def AP(X:Cx)(pins:List (Addr×Obj))(σ:St)(Q:List V->Hp->Prop)(us:List Value)(s':Shared):Prop:=∃vs H',Inv X pins σ H' s'/\Vals vs us/\Q vs H'
def SP(X:Cx)(pins:List (Addr×Obj))(D:Ends)(f:Flow)(s':Shared):Prop :=
 match f with
 |.next=>∃σ' H',Inv X pins σ' H' s'/\D.nx σ' H'
 |.brk=>∃σ' H',Inv X pins σ' H' s'/\D.bk σ' H'
 |.cont=>∃σ' H',Inv X pins σ' H' s'/\D.ct σ' H'
 |.ret u=>∃v σ' H',Inv X pins σ' H' s'/\RelV v u/\D.rt v H'
def PE(X:Cx)(e:Expr)(t:TE):Prop :=
 ∀(pins:List (Addr×Obj))(s:Shared)(σ:St)(H:Hp)(Q:VK),Inv X pins σ H s->t σ H Q->wpAny (model X.prog X.w) X.A (eval e X.env) (EP X pins σ Q) X.xe s
def PT(X:Cx)(e:Expr)(t:TT):Prop :=
 ∀(pins:List (Addr×Obj))(s:Shared)(σ:St)(H:Hp)(Q:Bool->Hp->Prop),Inv X pins σ H s->t σ H Q->wpAny (model X.prog X.w) X.A (isTrue e X.env (eval e X.env)) (TP X pins σ Q) X.xe s
def PW(X:Cx)(e:Expr)(t:TT):Prop :=
 ∀(whole:Sem Value)(pins:List (Addr×Obj))(s:Shared)(σ:St)(H:Hp)(Q:Bool->Hp->Prop),Inv X pins σ H s->t σ H Q->wpAny (model X.prog X.w) X.A (isTrue e X.env whole) (TP X pins σ Q) X.xe s
theorem PW.pt{X:Cx}{e:Expr}{t:TT}(h:PW X e t):PT X e t:=h _
def PA(X:Cx)(es:List Expr)(t:TA):Prop :=
 ∀(pos:Pos)(pins:List (Addr×Obj))(s:Shared)(σ:St)(H:Hp)(Q:List V->Hp->Prop),Inv X pins σ H s->t σ H Q->wpAny (model X.prog X.w) X.A (spliced (backTo pos (starEach es X.env))) (AP X pins σ Q) X.xe s
def PS(X:Cx)(st:Stmt)(t:TS):Prop :=
 ∀(pins:List (Addr×Obj))(s:Shared)(σ:St)(H:Hp)(D:Ends),Inv X pins σ H s->t D σ H->wpAny (model X.prog X.w) X.A (exec st X.env) (SP X pins D) X.xe s
def PSs(X:Cx)(st:List Stmt)(t:TS):Prop :=
 ∀(pins:List (Addr×Obj))(s:Shared)(σ:St)(H:Hp)(D:Ends),Inv X pins σ H s->t D σ H->wpAny (model X.prog X.w) X.A (execs st X.env) (SP X pins D) X.xe s
theorem thn{α:Type}{t:Sem α}{Q Q':α->Shared->Prop}{M:Model}{A:Around}{E:Value->Shared->Prop}{s:Shared}(h:wpAny M A t Q E s)(hQ:∀a s,Q a s->Q' a s):wpAny M A t Q' E s:=wpAny_mono h hQ fun _ _ x=>x
section
variable{X:Cx}
def tVar(i:Nat):TE:=fun σ H Q=>∃v,σ[i]?=some (some v)/\Q v H
def tC(v:V):TE:=fun _ H Q=>Q v H
theorem zbp{i:Nat}{x:Str}{pos:Pos}(hN:X.N[i]?=some x)(hv:Vis X.env.scope x)(hd:(x == ("__debug__":Str))=false:=by decide)(hcd:(x == ("__classdict__":Str))=false:=by decide):PE X (.Name x pos) (tVar i):=by
 intro pins s σ H Q I h
 obtain⟨v,e,h⟩:=h
 obtain⟨m,hn,hl⟩:=I.loc
 obtain⟨u,r,l⟩:=hl i x v hN e hv
 have fin:EP X pins σ Q u s:=⟨v,H,I,r,h⟩
 rcases l with⟨hk,hm⟩|⟨hk,c,hc,hcell⟩
 ·exact wpAny_Name (wpAny_loadName_local I.ok.kind hk hn hm fin) hd
 ·rcases hk with hk|hk
  ·exact wpAny_Name (wpAny_loadName_cell I.ok.kind hk hc hcell fin) hd
  ·exact wpAny_Name (wpAny_loadName_free I.ok.kind hk hc hcell fin hcd) hd
theorem zbq{i j pos}:PE X (.Constant (.int i) j pos) (tC (.int i)):=fun _ _ _ H _ I h=>wpAny_Constant_int ⟨.int i,H,I.tok _,⟨_,rfl⟩,h⟩
theorem zcR{b j pos}:PE X (.Constant (.bool b) j pos) (tC (.bl b)):=fun _ _ _ H _ I h=>Constant_bool ⟨.bl b,H,I,rfl,h⟩
theorem zbr{x j pos}:PE X (.Constant (.str x) j pos) (tC (.str x)):=fun _ _ _ H _ I h=>Calls.Constant_str ⟨.str x,H,I.tok _,⟨_,rfl⟩,h⟩
def Gl(X:Cx)(x:Str):Prop:=X.env.kindOf x=some .globalImplicit
theorem xS{E:Value->Shared->Prop}{pins:List (Addr×Obj)}{s:Shared}{σ:St}{H:Hp}{x:Str}{u:Value}{pos:Pos}{Q:Value->Shared->Prop}(I:Inv X pins σ H s)(hg:Gl X x)(hm:X.mg x=some u)(h:Q u s)
  (hd:(x == ("__debug__":Str))=false:=by decide):wpAny (model X.prog X.w) X.A (eval (.Name x pos) X.env) Q E s :=
 Calls.Name_function_global I.ok.kind hg (Calls.loadGlobal_global (by rw[I.ok.glob];exact I.mod.glob.keeps I.bk) hm h) hd
theorem yU{E:Value->Shared->Prop}{pins:List (Addr×Obj)}{s:Shared}{σ:St}{H:Hp}{x:Str}{u:Value}{pos:Pos}{Q:Value->Shared->Prop}(I:Inv X pins σ H s)(hg:Gl X x)(hm:X.mg x=none)(hv:bootBuiltins x=some u)(h:Q u s)
  (hn:x≠"__name__":=by decide) (hd:(x == ("__debug__":Str))=false:=by decide):wpAny (model X.prog X.w) X.A (eval (.Name x pos) X.env) Q E s:=by
 obtain⟨mb,h1,h2⟩:=I.mod.blt
 exact Calls.Name_function_global I.ok.kind hg (Calls.loadGlobal_builtin (by rw[I.ok.glob];exact I.mod.glob.keeps I.bk) hm (by rw[I.ok.blt];exact h1.keeps I.bk) ((h2 x hn).trans hv) h) hd
theorem J6{x:Str}{v:V}{u:Value}{pos:Pos}(hg:Gl X x)(hm:X.mg x=some u)(r:RelV v u)(hd:(x == ("__debug__":Str))=false:=by decide):PE X (.Name x pos) (tC v) :=
 fun _ _ _ H _ I h=>xS I hg hm ⟨v,H,I,r,h⟩ hd
theorem J7{x:Str}{v:V}{u:Value}{pos:Pos}(hg:Gl X x)(hm:X.mg x=none)(hv:bootBuiltins x=some u)(r:RelV v u)(hn:x≠"__name__":=by decide)(hd:(x == ("__debug__":Str))=false:=by decide):PE X (.Name x pos) (tC v) :=
 fun _ _ _ H _ I h=>yU I hg hm hv ⟨v,H,I,r,h⟩ hn hd
variable{a b:Expr}{ta tb:TE}{pos:Pos}
def PC(X:Cx)(op:CmpOp)(a b:Expr)(t:TE):Prop :=
 ∀(pins:List (Addr×Obj))(s:Shared)(σ:St)(H:Hp)(Q:VK),Inv X pins σ H s->t σ H Q ->
  wpAny (model X.prog X.w) X.A (eval a X.env) (fun v s₁=>wpAny (model X.prog X.w) X.A (eval b X.env) (fun u s₂=>wpAny (model X.prog X.w) X.A (compareOp op v u) (EP X pins σ Q) X.xe s₂) X.xe s₁) X.xe s
def tB(t:TE):TT:=fun σ H Q=>t σ H fun x H1=>∃c,x=.bl c/\Q c H1
theorem WP{op:CmpOp}{t:TE}(h:PC X op a b t)(h1:behindInMarks op b=false:=by first|exact nobehind _ (by decide) (by decide)|rfl):PT X (.Compare a [op] [b] pos) (tB t):=by
 intro pins s σ H Q I hw
 refine wpAny_isTrue_Compare1 (thn (h pins s σ H _ I hw) fun v s1 h1=>thn h1 fun u s2 h2=>thn h2 fun c s3 ⟨x,H1,I1,r1,q1⟩=>?_) h1
 obtain⟨d,rfl,q⟩:=q1
 cases r1
 exact wpAny_truthy_bool ⟨H1,I1,q⟩
theorem zbs{e:Expr}{t:TE}(h:PE X e t)(he:∀whole,isTrue e X.env whole=(do let v <- whole;standAt e.pos;holding [v] (truthy v)):=by intro _;rfl):PT X e (tB t):=by
 intro pins s σ H Q I hw
 refine isTrue_plain (thn (h pins s σ H _ I hw) fun v s1 ⟨x,H1,I1,r1,q1⟩=>?_) (he _)
 obtain⟨d,rfl,q⟩:=q1
 cases r1
 exact wpAny_truthy_bool ⟨H1,I1,q⟩
variable{tA tB':TT}{rest:List Expr}
def tAnd(t u:TT):TT:=fun σ H Q=>t σ H fun c H1=>if c=true then u σ H1 Q else Q false H1
def tOr(t u:TT):TT:=fun σ H Q=>t σ H fun c H1=>if c=true then Q true H1 else u σ H1 Q
def tNot(t:TT):TT:=fun σ H Q=>t σ H fun c H1=>Q (!c) H1
theorem pw_and1(ha:PT X a tA):PW X (.BoolOp .And [a] pos) tA:=by
 intro wh pins s σ H Q I h
 refine isTrue_and (thn (ha pins s σ H Q I h) fun c s1 e=>?_)
 cases c with
 |true=>exact isTrue_and_nil e
 |false=>exact e
theorem pw_or1(ha:PT X a tA):PW X (.BoolOp .Or [a] pos) tA:=by
 intro wh pins s σ H Q I h
 refine isTrue_or (thn (ha pins s σ H Q I h) fun c s1 e=>?_)
 cases c with
 |false=>exact isTrue_or_nil e
 |true=>exact e
theorem pw_and(ha:PT X a tA)(hb:PW X (.BoolOp .And (b::rest) pos) tB'):PW X (.BoolOp .And (a::b::rest) pos) (tAnd tA tB'):=by
 intro wh pins s σ H Q I h
 refine isTrue_and (thn (ha pins s σ H _ I h) fun c s1 ⟨H1,I1,q1⟩=>?_)
 cases c with
 |true=>exact hb wh pins s1 σ H1 Q I1 q1
 |false=>exact⟨H1,I1,q1⟩
theorem pw_or(ha:PT X a tA)(hb:PW X (.BoolOp .Or (b::rest) pos) tB'):PW X (.BoolOp .Or (a::b::rest) pos) (tOr tA tB'):=by
 intro wh pins s σ H Q I h
 refine isTrue_or (thn (ha pins s σ H _ I h) fun c s1 ⟨H1,I1,q1⟩=>?_)
 cases c with
 |true=>exact⟨H1,I1,q1⟩
 |false=>exact hb wh pins s1 σ H1 Q I1 q1
theorem zbt(ha:PT X a tA):PT X (.UnaryOp .Not a pos) (tNot tA):=by
 intro pins s σ H Q I h
 exact isTrue_not (ha pins s σ H (fun c H1=>Q (!c) H1) I h)
def zaT(ta tb:TE):TE:=fun σ H Q=>ta σ H fun x H1=>∃c,x=.bl c/\if c=true then tb σ H1 Q else Q (.bl false) H1
theorem zbu{op}{t:TE}(h:PE X a t):PE X (.BoolOp op [a] pos) t:=fun pins s σ H Q I hw=>BoolOp_one (h pins s σ H Q I hw)
theorem zbv(ha:PE X a ta)(hb:PE X (.BoolOp .And (b::rest) pos) tb):PE X (.BoolOp .And (a::b::rest) pos) (zaT ta tb):=by
 intro pins s σ H Q I h
 refine BoolOp_and (thn (ha pins s σ H _ I h) fun v s1 ⟨x,H1,I1,r1,q1⟩=>?_)
 obtain⟨c,rfl,q1⟩:=q1
 cases r1
 refine wpAny_truthy_bool ?_
 cases c with
 |true=>exact hb pins s1 σ H1 Q I1 q1
 |false=>exact⟨.bl false,H1,I1,rfl,q1⟩
def tIf(t:TT)(ta tb:TE):TE:=fun σ H Q=>t σ H fun c H1=>if c=true then ta σ H1 Q else tb σ H1 Q
theorem WQ{c:Expr}(hc:PT X c tA)(ha:PE X a ta)(hb:PE X b tb):PE X (.IfExp c a b pos) (tIf tA ta tb):=by
 intro pins s σ H Q I h
 refine wpAny_IfExp (thn (hc pins s σ H _ I h) fun d s1 ⟨H1,I1,q1⟩=>?_)
 cases d with
 |true=>exact ha pins s1 σ H1 Q I1 q1
 |false=>exact hb pins s1 σ H1 Q I1 q1
end
def SqL(K:ub)(H:Hp)(a:Addr)(xs:List V):Prop :=
 Rd H a (.lst xs) \/
  ∃(o:Obj)(its:Array Value)(n:Nat),K.lookup a=some o/\o.cls=.type "list"/\o.dict=none/\o.data=.seq its n/\its.size<=sizeLine/\Vals xs its.toList
def SqT(K:ub)(H:Hp)(a:Addr)(xs:List V):Prop :=
 Rd H a (.tup xs) \/
  ∃(o:Obj)(its:Array Value)(n:Nat),K.lookup a=some o/\o.cls=.type "tuple"/\o.data=.seq its n/\its.size<=sizeLine/\Vals xs its.toList
def absV:Value->Option V
 |.none=>some .non
 |.bool b=>some (.bl b)
 |.int i _=>some (.int i)
 |.str x _=>some (.str x)
 |.bytes b _=>some (.byt b)
 |.float b _=>some (.flt b)
 |.ref a=>some (.ref a)
 |.type n=>some (.ty n)
 |_=>none
theorem RelV.abs{x:V}{u:Value}(r:RelV x u):absV u=some x:=by
 cases x with
 |non=>cases r;rfl
 |bl _=>cases r;rfl
 |int _=>obtain⟨t,rfl⟩:=r;rfl
 |str _=>obtain⟨t,rfl⟩:=r;rfl
 |byt _=>obtain⟨t,rfl⟩:=r;rfl
 |flt _=>obtain⟨t,rfl⟩:=r;rfl
 |ref _=>cases r;rfl
 |ty _=>cases r;rfl
theorem RelV.inj{x y:V}{u:Value}(r:RelV x u)(q:RelV y u):x=y:=uO.inj (r.abs.symm.trans q.abs)
theorem Vals.inj:∀{xs ys:List V}{us:List Value},Vals xs us->Vals ys us->xs=ys
 |_,_,_,.nil,.nil=>rfl
 |_,_,_,.cons r t,.cons r' t'=>by rw[r.inj r',Vals.inj t t']
section
variable{X:Cx}{pins:List (Addr×Obj)}{σ:St}{H:Hp}{s:Shared}{a:Addr}{xs ys:List V}
theorem SqL.of{K:ub}(h:H a=some (.lst xs)):SqL K H a xs:=.inl (.inl h)
theorem SqT.of{K:ub}(h:H a=some (.tup xs)):SqT K H a xs:=.inl (.inl h)
theorem Inv.list(I:Inv X pins σ H s)(h:SqL X.K H a xs):∃its:List Value,Vals xs its/\PlainL s.heap a its.toArray/\xs.length<=sizeLine:=by
 rcases h with h|⟨o,its,n,hk,hc,hd,hs,hz,r⟩
 ·obtain⟨z,its,n,r,e⟩:=h.ok I.hok
  exact⟨its,r,⟨_,n,e,rfl,rfl,rfl⟩,z⟩
 ·refine⟨its.toList,r,⟨o,n,I.kIn a o hk,hc,hd,by simpa using hs⟩,?_⟩
  have e:=r.length
  simp only[Array.length_toList]at e
  lia
theorem Inv.tuple(I:Inv X pins σ H s)(h:SqT X.K H a xs):∃its:List Value,Vals xs its/\IsTup s.heap a its.toArray/\xs.length<=sizeLine:=by
 rcases h with h|⟨o,its,n,hk,hc,hs,hz,r⟩
 ·obtain⟨z,its,r,p⟩:=h.ok I.hok
  exact⟨its,r,p.is,z⟩
 ·refine⟨its.toList,r,⟨o,I.kIn a o hk,hc,n,by simpa using hs⟩,?_⟩
  have e:=r.length
  simp only[Array.length_toList]at e
  lia
theorem Inv.list_inj(I:Inv X pins σ H s)(h:SqL X.K H a xs)(h':SqL X.K H a ys):xs=ys:=by
 obtain⟨its,r,⟨o,n,e,_,_,d⟩,_⟩:=I.list h
 obtain⟨its',r',⟨o',n',e',_,_,d'⟩,_⟩:=I.list h'
 rw[e]at e';cases e'
 rw[d]at d'
 injection d' with d1 _
 have:its=its':=by simpa using congrArg Array.toList d1
 subst this
 exact r.inj r'
theorem Inv.tuple_inj(I:Inv X pins σ H s)(h:SqT X.K H a xs)(h':SqT X.K H a ys):xs=ys:=by
 obtain⟨its,r,⟨o,e,_,n,d⟩,_⟩:=I.tuple h
 obtain⟨its',r',⟨o',e',_,n',d'⟩,_⟩:=I.tuple h'
 rw[e]at e';cases e'
 rw[d]at d'
 injection d' with d1 _
 have:its=its':=by simpa using congrArg Array.toList d1
 subst this
 exact r.inj r'
end
abbrev Cx.wish(X:Cx)(E:Value->Shared->Prop):Cx:={ X with xe:=E }
abbrev Cx.nox(X:Cx):Cx:=X.wish fun _ _=>False
theorem Cx.Ok.wish{X:Cx}(ok:X.Ok)(E:Value->Shared->Prop):(X.wish E).Ok :=
 ⟨ok.mod,ok.kind,ok.glob,ok.blt,ok.above,ok.inj,ok.has,ok.cab,ok.hd,ok.frames,ok.stk,ok.exf,ok.bs,ok.bsz,ok.noex,ok.exfs,ok.funs,ok.frf⟩
theorem Cx.Ok.unwish{X:Cx}{E:Value->Shared->Prop}(ok:(X.wish E).Ok):X.Ok :=
 ⟨ok.mod,ok.kind,ok.glob,ok.blt,ok.above,ok.inj,ok.has,ok.cab,ok.hd,ok.frames,ok.stk,ok.exf,ok.bs,ok.bsz,ok.noex,ok.exfs,ok.funs,ok.frf⟩
section
variable{X:Cx}{pins:List (Addr×Obj)}{σ:St}{H:Hp}{s:Shared}{E:Value->Shared->Prop}
theorem Inv.wish(I:Inv X pins σ H s)(E:Value->Shared->Prop):Inv (X.wish E) pins σ H s:=⟨I.ok.wish E,I.os,I.bare,I.base,I.loc,I.cell,I.free,I.freeC,I.pin,I.hok,I.len⟩
theorem Inv.unwish(I:Inv (X.wish E) pins σ H s):Inv X pins σ H s:=⟨I.ok.unwish,I.os,I.bare,I.base,I.loc,I.cell,I.free,I.freeC,I.pin,I.hok,I.len⟩
theorem SP.unwish{D:Ends}{f:Flow}{s':Shared}(h:SP (X.wish E) pins D f s'):SP X pins D f s':=by
 cases f with
 |next=>obtain⟨σ',H',I,q⟩:=h;exact⟨σ',H',I.unwish,q⟩
 |brk=>obtain⟨σ',H',I,q⟩:=h;exact⟨σ',H',I.unwish,q⟩
 |cont=>obtain⟨σ',H',I,q⟩:=h;exact⟨σ',H',I.unwish,q⟩
 |ret u=>obtain⟨v,σ',H',I,r,q⟩:=h;exact⟨v,σ',H',I.unwish,r,q⟩
theorem PSs.nox{st:List Stmt}{t:TS}(h:PSs X.nox st t):PSs X st t:=fun pins s σ H D I hw =>
 wpAny_mono (h pins s σ H D (I.wish _) hw) (fun _ _ q=>q.unwish) fun _ _ z=>False.elim z
end
section
variable{X:Cx}{st:Stmt}{rest:List Stmt}{t u:TS}{e:Expr}{te:TE}{pos:Pos}
def wQ:TS:=fun D σ H=>D.nx σ H
def tSeq(t u:TS):TS:=fun D σ H=>t { D with nx:=u D } σ H
theorem J8:PSs X [] wQ:=fun _ _ σ H _ I h=>wpAny_execs_nil ⟨σ,H,I,h⟩
theorem WR(h1:PS X st t)(h2:PSs X rest u):PSs X (st::rest) (tSeq t u):=by
 intro pins s σ H D I h
 refine wpAny_execs_cons (thn (h1 pins s σ H { D with nx:=u D } I h) fun f s1 q=>?_)
 cases f with
 |next =>
  obtain⟨σ',H',I',q⟩:=q
  exact h2 pins s1 σ' H' D I' q
 |ret v=>exact q
 |brk=>exact q
 |cont=>exact q
theorem J9(h1:PS X st t):PSs X [st] t:=by
 intro pins s σ H D I h
 refine wpAny_execs_cons (thn (h1 pins s σ H D I h) fun f s1 q=>?_)
 cases f with
 |next=>exact wpAny_execs_nil q
 |ret v=>exact q
 |brk=>exact q
 |cont=>exact q
theorem Inv.quiet{pins:List (Addr×Obj)}{σ:St}{H:Hp}{s:Shared}(I:Inv X pins σ H s):interactive X.env=false:=by simp[interactive,I.ok.kind]
def zaU(te:TE):TS:=fun D σ H=>te σ H fun _ H1=>D.nx σ H1
theorem Qa(he:PE X e te)(hs:swapsWith e none pos.line X.env=pure false:=by rfl):PS X (.Expr e pos) (zaU te):=by
 intro pins s σ H D I h
 exact wpAny_Expr_any (thn (he pins s σ H _ I h) fun v s1 ⟨x,H1,I1,r1,q1⟩=>⟨σ,H1,I1,q1⟩) I.quiet hs
def tRet(te:TE):TS:=fun D σ H=>te σ H D.rt
theorem zbw(he:PE X e te):PS X (.Return (some e) pos) (tRet te):=by
 intro pins s σ H D I h
 exact wpAny_Return_some (thn (he pins s σ H _ I h) fun v s1 ⟨x,H1,I1,r1,q1⟩=>⟨x,σ,H1,I1,r1,q1⟩)
def tIfS(c:TT)(t u:TS):TS:=fun D σ H=>c σ H fun b H1=>if b=true then t D σ H1 else u D σ H1
theorem zcS{c:Expr}{a b:List Stmt}{tc:TT}(hc:PT X c tc)(ha:PSs X a t)(hb:PSs X b u):PS X (.If c a b pos) (tIfS tc t u):=by
 intro pins s σ H D I h
 refine wpAny_If (thn (hc pins s σ H _ I h) fun d s1 ⟨H1,I1,q1⟩=>?_)
 cases d with
 |true=>exact ha pins s1 σ H1 D I1 q1
 |false=>exact hb pins s1 σ H1 D I1 q1
end
abbrev TG:=V->St->Hp->(St->Hp->Prop)->Prop
abbrev TGs:=List V->St->Hp->(St->Hp->Prop)->Prop
def PG(X:Cx)(target:Expr)(t:TG):Prop :=
 ∀(pins:List (Addr×Obj))(s:Shared)(σ:St)(H:Hp)(v:V)(u:Value)(Q:St->Hp->Prop),Inv X pins σ H s->RelV v u->t v σ H Q ->
  wpAny (model X.prog X.w) X.A (assign target X.env u) (fun _ s'=>∃σ' H',Inv X pins σ' H' s'/\Q σ' H') X.xe s
def PGs(X:Cx)(ts:List Expr)(t:TGs):Prop :=
 ∀(pins:List (Addr×Obj))(s:Shared)(σ:St)(H:Hp)(vs:List V)(us:List Value)(Q:St->Hp->Prop),Inv X pins σ H s->Vals vs us->t vs σ H Q ->
  wpAny (model X.prog X.w) X.A (assignInOrder ((assignEach ts X.env).map (·.2)) us) (fun _ s'=>∃σ' H',Inv X pins σ' H' s'/\Q σ' H') X.xe s
abbrev TSet:=V->V->V->Hp->(Hp->Prop)->Prop
def PSet(X:Cx)(t:TSet):Prop :=
 ∀(pins:List (Addr×Obj))(s:Shared)(σ:St)(H:Hp)(o i v:V)(ov iv u:Value)(Q:Hp->Prop),Inv X pins σ H s->RelV o ov->RelV i iv->RelV v u->t o i v H Q ->
  wpAny (model X.prog X.w) X.A (setItem ov iv u) (fun _ s'=>∃H',Inv X pins σ H' s'/\Q H') X.xe s
section
variable{X:Cx}{pos:Pos}
def xl(i:Nat):TG:=fun v σ H Q=>Q (σ.set i (some v)) H
theorem Qb{i:Nat}{x:Str}(hN:X.N.Nodup)(hi:X.N[i]?=some x)(hx:Loc X.env.scope x)(hf:X.fn x=true\/X.env.scope.names.lookup x=some .local:=by first|exact .inl rfl|exact .inr rfl|assumption):PG X (.Name x pos) (xl i):=by
 intro pins s σ H v u Q I r h
 exact wpAny_assign_Name (xR I hN hi hx r (fun s' I'=>⟨_,H,I',h⟩) hf)
def gNil:TGs:=fun vs σ H Q=>vs=[]/\Q σ H
def zaV(t:TG)(u:TGs):TGs:=fun vs σ H Q=>∃v r,vs=v::r/\t v σ H fun σ' H'=>u r σ' H' Q
theorem Qc:PGs X [] gNil:=by
 intro pins s σ H vs us Q I r h
 obtain⟨e,h⟩:=h
 subst e
 cases r
 exact assignInOrder_nil ⟨σ,H,I,h⟩
theorem WS{e:Expr}{es:List Expr}{t:TG}{u:TGs}(h1:PG X e t)(h2:PGs X es u)
  (hs:(assignEach (e::es) X.env).map (·.2)=assign e X.env::(assignEach es X.env).map (·.2):=by rfl):PGs X (e::es) (zaV t u):=by
 intro pins s σ H vs us Q I r h
 obtain⟨v,vr,e1,h⟩:=h
 subst e1
 cases r with
 |cons r rr =>
  rw[hs]
  refine assignInOrder_cons (thn (h1 pins s σ H _ _ _ I r h) fun _ s1 ⟨σ1,H1,I1,q1⟩=>?_)
  exact h2 pins s1 σ1 H1 _ _ Q I1 rr q1
def gTup(K:ub)(n:Nat)(t:TGs):TG:=fun v σ H Q=>∃a xs,v=.ref a/\SqT K H a xs/\xs.length=n/\t xs σ H Q
theorem zbx{es:List Expr}{k:Nat}{t:TGs}{n:Nat}(hc:X.calm=true)(h:PGs X es t)
  (hn:(assignEach es X.env).length=n:=by rfl) (hst:(assignEach es X.env).findIdx? (·.1)=none:=by rfl):PG X (.Tuple es k pos) (gTup X.K n t):=by
 intro pins s σ H v u Q I r hw
 obtain⟨a,xs,e1,hq,hl,hw⟩:=hw
 subst e1
 cases r
 obtain⟨its,rv,ht,hz⟩:=I.tuple hq
 refine assign_Tuple_tuple (I.ok.hd hc) ht (by simp[hn,<- hl,rv.length]) hst fun h' hx=>?_
 have I1:Inv X pins σ H { s with heap:=h' }:=I.kept (t':=s.toks) fun b o e=>hx b o (uS (uv e)) e
 exact h pins _ σ H xs _ Q I1 (by simpa using rv) hw
def gSub(to ti:TE)(t:TSet):TG:=fun v σ H Q=>to σ H fun o H1=>ti σ H1 fun i H2=>t o i v H2 fun H3=>Q σ H3
theorem zby{o i:Expr}{to ti:TE}{t:TSet}(ho:PE X o to)(hi:PE X i ti)(hs:PSet X t)
  (ha:∀v,assign (.Subscript o i pos) X.env v=(do
   let ov <- holding [v] (eval o X.env)
   let iv <- holding [v,ov] (eval i X.env)
   standAt pos
   holding [v,ov,iv] (setItem ov iv v)
   release [v,ov,iv] []):=by intro _;rfl):PG X (.Subscript o i pos) (gSub to ti t):=by
 intro pins s σ H v u Q I r h
 rw[ha]
 refine wpAny_bind (wpAny_holding (thn (ho pins s σ H _ I h) fun ov s1 ⟨x,H1,I1,r1,q1⟩=>?_))
 refine wpAny_bind (wpAny_holding (thn (hi pins s1 σ H1 _ I1 q1) fun iv s2 ⟨y,H2,I2,r2,q2⟩=>?_))
 refine wpAny_bind (wpAny_standAt (wpAny_bind (wpAny_holding (thn (hs pins s2 σ H2 x y v ov iv u _ I2 r1 r2 r q2) fun _ s3 ⟨H3,I3,q3⟩=>?_))))
 exact wpAny_release ⟨σ,H3,I3,q3⟩
def tAsg(te:TE)(g:TG):TS:=fun D σ H=>te σ H fun x H1=>g x σ H1 D.nx
theorem zbz{tg e:Expr}{te:TE}{g:TG}(he:PE X e te)(hg:PG X tg g)(hs:swapsWithSole [tg] e pos.line X.env=pure false:=by rfl)(hw:swappedStores [tg] e X.env=pure none:=by rfl)
  (h1:(assignEach [tg] X.env).map (·.2)=[assign tg X.env]:=by rfl):PS X (.Assign [tg] e pos) (tAsg te g):=by
 intro pins s σ H D I h
 refine wpAny_Assign_stores (thn (he pins s σ H _ I h) fun v s1 ⟨x,H1,I1,r1,q1⟩=>?_) hs hw
 rw[h1]
 exact thn (hg pins s1 σ H1 x v _ I1 r1 q1) fun _ s2 q=>q
theorem zbA{i:Nat}{x:Str}{e:Expr}{te:TE}{pos':Pos}(hN:X.N.Nodup)(hi:X.N[i]?=some x)(hx:Loc X.env.scope x)(he:PE X e te)(hs:swapsWith e (some (.Name x pos')) pos.line X.env=pure false:=by rfl)(hf:X.fn x=true\/X.env.scope.names.lookup x=some .local:=by first|exact .inl rfl|exact .inr rfl|assumption):
  PS X (.Assign [.Name x pos'] e pos) (tAsg te (xl i)):=by
 intro pins s σ H D I h
 refine wpAny_Assign_Name (thn (he pins s σ H _ I h) fun v s1 ⟨y,H1,I1,r1,q1⟩=>?_) hs
 exact xR I1 hN hi hx r1 (fun s2 I2=>⟨_,H1,I2,q1⟩) hf
def tPar(i j:Nat)(ta:TA):TS:=fun D σ H=>ta σ H fun vs H1=>∃v w,vs=[v,w]/\D.nx ((σ.set i (some v)).set j (some w)) H1
theorem zbB{i j:Nat}{x y:Str}{a b:Expr}{ta:TA}{px py pt:Pos}{kt k2 pt2}(hc:X.calm=true)(hN:X.N.Nodup)(hi:X.N[i]?=some x)(hj:X.N[j]?=some y)(hij:i≠j)
  (hx:X.env.scope.names.lookup x=some .local) (hy:X.env.scope.names.lookup y=some .local) (ha:PA X [a,b] ta)
  (hw:swappedStores [.Tuple [.Name x px,.Name y py] kt pt] (.Tuple [a,b] k2 pt2) X.env=pure (some [x,y]))
  (hs:swapsWithSole [.Tuple [.Name x px,.Name y py] kt pt] (.Tuple [a,b] k2 pt2) pos.line X.env=pure false:=by rfl) :
  PS X (.Assign [.Tuple [.Name x px,.Name y py] kt pt] (.Tuple [a,b] k2 pt2) pos) (tPar i j ta):=by
 intro pins s σ H D I h
 rw[exec_Assign_arm]
 refine wpAny_bind (wpAny_standAt ?_)
 rw[hs]
 refine wpAny_bind (wpAny_pure ?_)
 rw[if_neg (by decide)]
 refine wpAny_bind (Tuple_ (thn (ha _ pins s σ H _ I h) fun us s1 ⟨vs,H1,I1,r1,q1⟩=>?_))
 obtain⟨v,w,e1,q1⟩:=q1
 subst e1
 obtain⟨u1,u2,rfl,rv,rw'⟩:∃u1 u2,us=[u1,u2]/\RelV v u1/\RelV w u2:=by
  cases r1 with
  |cons p q =>
   cases q with
   |cons p' q' =>
    cases q'
    exact⟨_,_,rfl,p,p'⟩
 refine wpAny_newObj_type ?_ sN2
 have I2:Inv X pins σ H1 { s1 with heap:=s1.heap.push { cls:=.type "tuple",data:=.seq [u1,u2].toArray } }:=I1.kept (t':=s1.toks) fun b o e=>ug _ e
 rw[hw]
 refine wpAny_bind (wpAny_pure ?_)
 show wpAny (model X.prog X.w) X.A (do rule "assign.swapped-stores";let items <- unpackItems (.ref s1.heap.objs.size) 2 none;assignInOrder [fun v=>bindName X.env y v,fun v=>bindName X.env x v] items.reverse;pure Flow.next) _ _ _
 refine wpAny_bind (wpAny_rule (wpAny_bind (unpackItems_tuple (items:=#[u1,u2]) (I.ok.hd hc) (IsTup.new s1.heap _) fun h' hx'=>?_)))
 have I3:=I2.kept (h':=h') (t':=s1.toks) fun b o e=>hx' b o (uS (uv e)) e
 show wpAny _ _ (assignInOrder [fun v=>bindName X.env y v,fun v=>bindName X.env x v] [u2,u1] >>= fun _=>pure Flow.next) _ _ _
 refine wpAny_bind (assignInOrder_cons (wpAny_bindName (xR I3 hN hj (.inl hy) rw' (fun s2 I4=>?_) (.inr hy))))
 refine assignInOrder_cons (wpAny_bindName (xR I4 hN hi (.inl hx) rv (fun s3 I5=>assignInOrder_nil (wpAny_pure ?_)) (.inr hx)))
 rw[List.set_comm _ _ (Ne.symm hij)]at I5
 exact⟨_,H1,I5,q1⟩
def WT(c:TT)(tb:TS):TS:=fun D σ H=>∃W:Nat->St->Hp->Prop,(∃m,W m σ H)/\∀m σ H,W m σ H ->
 c σ H fun b H1=>if b=true then ∃N:St->Hp->Prop,(∀σ' H',N σ' H'->∃m',m' < m/\W m' σ' H')/\tb { D with nx:=N,ct:=N,bk:=D.nx } σ H1 else D.nx σ H1
theorem WU{c:Expr}{body:List Stmt}{tc:TT}{tb:TS}(hp:PassesOwn (model X.prog X.w) X.A X.env X.xe)(hc:PT X c tc)(hb:PSs X body tb):PS X (.While c body [] pos) (WT tc tb):=by
 intro pins s σ H D I h
 obtain⟨W,⟨m0,w0⟩,turn⟩:=h
 refine wpAny_While (codeAny_whileLoop (fun n s'=>∃σ' H',Inv X pins σ' H' s'/\W n σ' H') ?_ m0 ⟨σ,H,I,w0⟩)
 rintro n s1 ⟨σ1,H1,I1,w1⟩
 refine wpAny_passesOwn hp (thn (hc pins s1 σ1 H1 _ I1 (turn n σ1 H1 w1)) fun b s2 ⟨H2,I2,q2⟩=>?_)
 cases b with
 |true =>
  obtain⟨N,hN,q2⟩:=q2
  rw[if_pos rfl]
  refine wpAny_passesOwn hp (thn (hb pins s2 σ1 H2 _ I2 q2) fun f s3 q3=>?_)
  cases f with
  |next =>
   obtain⟨σ3,H3,I3,n3⟩:=q3
   obtain⟨m',hm,w3⟩:=hN σ3 H3 n3
   exact⟨m',hm,σ3,H3,I3,w3⟩
  |cont =>
   obtain⟨σ3,H3,I3,n3⟩:=q3
   obtain⟨m',hm,w3⟩:=hN σ3 H3 n3
   exact⟨m',hm,σ3,H3,I3,w3⟩
  |brk=>exact q3
  |ret v=>exact q3
 |false =>
  rw[if_neg uu]
  exact wpAny_execs_nil ⟨σ1,H2,I2,q2⟩
end
structure It where
 go:Nat->Hp->Prop
 yld:Nat->Hp->V->Hp->Prop
 stop:Nat->Hp->Prop
def FpOk(X:Cx)(pins:List (Addr×Obj))(H:Hp)(b:Addr):Prop :=
 H b=none/\b≠X.env.locals/\b∉X.fs/\(b∈X.ex\/X.s₀.heap.objs.size<=b)/\(∀x c,X.env.cells.lookup x=some c->c≠b)/\∀p∈X.pn++pins,p.1≠b
theorem Inv.fpOk{X:Cx}{pins:List (Addr×Obj)}{σ:St}{H H':Hp}{s:Shared}{b:Addr}(I:Inv X pins σ H s)(hb:s.heap.objs.size<=b)(hn:H' b=none):FpOk X pins H' b:=by
 refine⟨hn,Nat.ne_of_gt (uP I.lt hb),I.nofs hb,.inr (Uc I.sz hb),fun x c e z=>?_,fun p hp z=>?_⟩
 ·obtain⟨v,q⟩:=I.cell x c e
  exact absurd (uP q.lt (by rw[z];exact hb)) (UG _)
 ·exact absurd (uP (uv (I.pin p hp).1) (by rw[z];exact hb)) (UG _)
structure Turn(P:Program)(w:World)(K:ub)(tg:Expr)(J:It)(fp:List Addr)(it:Addr)(tn:Nat->Heap->Prop):Prop where
 mem:it∈fp
 obj:∀i h,tn i h->∀b∈fp,∃o,h.get? b=some o/\∀v,o.data≠.cell v
 keep:∀i h h',tn i h->(∀b∈fp,∀o,h.get? b=some o->h'.get? b=some o)->tn i h'
 item:∀(X:Cx),X.prog=P->X.w=w->X.K=K->X.calm=true->∀(i:Nat)(pins:List (Addr×Obj))(s:Shared)(σ:St)(H:Hp)(E:Value->Shared->Prop),Inv X pins σ H s->(∀b∈fp,FpOk X pins H b)->tn i s.heap->J.go i H ->
  wpAny (model P w) X.A (pyNext (.ref it)) (fun r s1=>∃u,r=some u /\
   wpAny (model P w) X.A (letOwnedTupleGo tg (.ref it) u) (fun _ s2=>∃x H',Inv X pins σ H' s2/\RelV x u/\J.yld i H x H'/\tn (i+1) s2.heap/\∀b∈fp,H' b=none) E s1) E s
 done:∀(X:Cx),X.prog=P->X.w=w->X.K=K->X.calm=true->∀(i:Nat)(pins:List (Addr×Obj))(s:Shared)(σ:St)(H:Hp)(E:Value->Shared->Prop),Inv X pins σ H s->(∀b∈fp,FpOk X pins H b)->tn i s.heap->J.stop i H ->
  wpAny (model P w) X.A (pyNext (.ref it)) (fun r s1=>r=none/\Inv X pins σ H s1) E s
 self:∀(A:Around)(i:Nat)(s:Shared)(Q:Value->Shared->Prop)(E:Value->Shared->Prop),tn i s.heap->Q (.ref it) s->wpAny (model P w) A (pyIter (.ref it)) Q E s
abbrev TI:=St->Hp->(It->Hp->Prop)->Prop
def PIE(X:Cx)(pins:List (Addr×Obj))(σ:St)(tg:Expr)(R:It->Hp->Prop)(itv:Value)(s2:Shared):Prop :=
 ∃(it:Addr)(fp:List Addr)(tn:Nat->Heap->Prop)(J:It)(H':Hp),itv=.ref it/\Inv X pins σ H' s2/\Turn X.prog X.w X.K tg J fp it tn/\tn 0 s2.heap/\(∀b∈fp,FpOk X pins H' b)/\R J H'
def PI(X:Cx)(tg iter:Expr)(wi:TI):Prop :=
 ∀(pins:List (Addr×Obj))(s:Shared)(σ:St)(H:Hp)(R:It->Hp->Prop),Inv X pins σ H s->wi σ H R ->
  wpAny (model X.prog X.w) X.A (eval iter X.env) (fun v s1=>wpAny (model X.prog X.w) X.A (pyIter v) (PIE X pins σ tg R) X.xe s1) X.xe s
theorem Xd{M:Model}{A:Around}{E:Value->Shared->Prop}{s:Shared}{tg:Expr}{it:Addr}{u:Value}{o:Obj}{n:String}{vs:Array Value}{Q:Unit->Shared->Prop}(ho:s.heap.get? it=some o)(hc:o.cls=.type n)(hd:o.data=.fields vs)
  (hn:["enumerate","zip","dict_itemiterator","dict_reverseitemiterator","odict_iterator","itertools.zip_longest","itertools.pairwise"].contains n=false) (hQ:Q () s):wpAny M A (letOwnedTupleGo tg (.ref it) u) Q E s:=by
 unfold letOwnedTupleGo
 cases tg<;>first
  |exact wpAny_pure hQ
  | (cases u<;>first
    |exact wpAny_pure hQ
    | (refine wpAny_bind (wpAny_load ho ?_)
       rw[hc,hd]
       show wpAny M A (if(["enumerate","zip","dict_itemiterator","dict_reverseitemiterator","odict_iterator","itertools.zip_longest","itertools.pairwise"].contains n && vs[0]? == some (rawInt _))=true then _ else _) Q E s
       rw[if_neg (by intro h;rw[hn,Uy]at h;cases h)]
       exact wpAny_pure hQ))
def Itl(K:ub)(a:Addr):It :=
 ⟨fun i H=>∃xs x,SqL K H a xs/\xs[i]?=some x,fun i H x H'=>H'=H/\∀xs,SqL K H a xs->xs[i]?=some x,fun i H=>∃xs,SqL K H a xs/\xs.length<=i⟩
def Itt(K:ub)(a:Addr):It :=
 ⟨fun i H=>∃xs x,SqT K H a xs/\xs[i]?=some x,fun i H x H'=>H'=H/\∀xs,SqT K H a xs->xs[i]?=some x,fun i H=>∃xs,SqT K H a xs/\xs.length<=i⟩
def Itr(lo:Int)(n:Nat):It:=⟨fun i _=>i < n,fun i H x H'=>H'=H/\x=.int (lo+i),fun i _=>n<=i⟩
theorem X4{P:Program}{w:World}{K:ub}{tg:Expr}(a it:Addr):Turn P w K tg (Itl K a) [it] it (fun i h=>h.IsListIter it a i) where
 mem:=by simp
 obj:=fun i h st b hb=>by
  have e:b=it:=by simpa using hb
  subst e
  obtain⟨o,e,c,d⟩:=st
  exact⟨o,e,fun v z=>by rw[d]at z;cases z⟩
 keep:=fun i h h' st k=>st.at fun o e=>k it (by simp) o e
 item:=by
  intro X hP hw hK hc i pins s σ H E I hf st hg
  subst hP hw hK
  obtain⟨xs,x,hq,hx⟩:=hg
  obtain⟨its,rv,p,hz⟩:=I.list hq
  obtain⟨u,hu,ru⟩:=rv.get hx
  obtain⟨f0,f1,f2,f3,f4,f5⟩:=hf it (by simp)
  refine wpAny_pyNext_list_item st p.isList (x:=u) (by simpa using hu) fun h' st' sb=>?_
  have I1:Inv X pins σ H { s with heap:=h' }:=I.turned (t':=s.toks) (fun b o hb e=>(sb.2 b hb).trans e) f0 f1 f3 f4 f5
  obtain⟨o,e,c,d⟩:=id st'
  exact⟨u,rfl,Xd (s:={ s with heap:=h' }) e c d (by decide) ⟨x,H,I1,ru,⟨rfl,fun ys hy=>by rw[I.list_inj hy hq];exact hx⟩,st',fun b hb=>(hf b hb).1⟩⟩
 done:=by
  intro X hP hw hK hc i pins s σ H E I hf st hg
  subst hP hw hK
  obtain⟨xs,hq,hx⟩:=hg
  obtain⟨its,rv,p,hz⟩:=I.list hq
  obtain⟨f0,f1,f2,f3,f4,f5⟩:=hf it (by simp)
  have hl:=rv.length
  exact wpAny_pyNext_list_end (I.ok.hd hc) st p.isList (by simp;lia) fun h' eb=>⟨rfl,I.turned (t':=s.toks) (fun b o hb e=>eb b o hb e) f0 f1 f3 f4 f5⟩
 self:=fun _ _ _ _ _ st h=>wpAny_pyIter_listiter st h
theorem Yk{P:Program}{w:World}{K:ub}{tg:Expr}(a it:Addr):Turn P w K tg (Itt K a) [it] it (fun i h=>h.IsTupleIter it a i) where
 mem:=by simp
 obj:=fun i h st b hb=>by
  have e:b=it:=by simpa using hb
  subst e
  obtain⟨o,e,c,d⟩:=st
  exact⟨o,e,fun v z=>by rw[d]at z;cases z⟩
 keep:=fun i h h' st k=>st.at fun o e=>k it (by simp) o e
 item:=by
  intro X hP hw hK hc i pins s σ H E I hf st hg
  subst hP hw hK
  obtain⟨xs,x,hq,hx⟩:=hg
  obtain⟨its,rv,p,hz⟩:=I.tuple hq
  obtain⟨u,hu,ru⟩:=rv.get hx
  obtain⟨f0,f1,f2,f3,f4,f5⟩:=hf it (by simp)
  refine wpAny_pyNext_tuple_item st (show s.heap.IsTuple a its.toArray from p) (x:=u) (by simpa using hu) fun h' st' sb=>?_
  have I1:Inv X pins σ H { s with heap:=h' }:=I.turned (t':=s.toks) (fun b o hb e=>(sb.2 b hb).trans e) f0 f1 f3 f4 f5
  obtain⟨o,e,c,d⟩:=id st'
  exact⟨u,rfl,Xd (s:={ s with heap:=h' }) e c d (by decide) ⟨x,H,I1,ru,⟨rfl,fun ys hy=>by rw[I.tuple_inj hy hq];exact hx⟩,st',fun b hb=>(hf b hb).1⟩⟩
 done:=by
  intro X hP hw hK hc i pins s σ H E I hf st hg
  subst hP hw hK
  obtain⟨xs,hq,hx⟩:=hg
  obtain⟨its,rv,p,hz⟩:=I.tuple hq
  obtain⟨f0,f1,f2,f3,f4,f5⟩:=hf it (by simp)
  have hl:=rv.length
  exact wpAny_pyNext_tuple_end (I.ok.hd hc) st (show s.heap.IsTuple a its.toArray from p) (by simp;lia) fun h' eb=>⟨rfl,I.turned (t':=s.toks) (fun b o hb e=>eb b o hb e) f0 f1 f3 f4 f5⟩
 self:=fun _ _ _ _ _ st h=>wpAny_pyIter_tupleiter st h
theorem Yl{P:Program}{w:World}{K:ub}{tg:Expr}(it:Addr)(lo:Int)(n:Nat):Turn P w K tg (Itr lo n) [it] it (fun i h=>IsRangeIter h it (lo+(i:Nat)*1) ((n:Int)-(i:Nat)) 1) where
 mem:=by simp
 obj:=fun i h st b hb=>by
  have e:b=it:=by simpa using hb
  subst e
  exact⟨_,st,fun v z=>by
   have z':Data.fields _=Data.cell v:=z
   cases z'⟩
 keep:=fun i h h' st k=>k it (by simp) _ st
 item:=by
  intro X hP hw hK hc i pins s σ H E I hf st hg
  subst hP hw hK
  obtain⟨f0,f1,f2,f3,f4,f5⟩:=hf it (by simp)
  have W:=Walks.range (prog:=X.prog) (w:=X.w) (I.ok.hd hc) it lo 1 n
  refine W.item i s _ _ hg st fun v h' tk hv st' kk=>?_
  obtain⟨t,rfl⟩:=hv
  have I1:Inv X pins σ H { s with heap:=h',toks:=tk }:=I.turned (fun b o hb e=>kk b o (by simpa using hb) e) f0 f1 f3 f4 f5
  refine⟨_,rfl,Xd (s:={ s with heap:=h',toks:=tk }) (n:="range_iterator") st' rfl rfl (by decide) ⟨.int (lo+i),H,I1,⟨t,?_⟩,⟨rfl,rfl⟩,st',fun b hb=>(hf b hb).1⟩⟩
  rw[Int.mul_one]
 done:=by
  intro X hP hw hK hc i pins s σ H E I hf st hg
  subst hP hw hK
  obtain⟨f0,f1,f2,f3,f4,f5⟩:=hf it (by simp)
  exact wpAny_pyNext_range_end (I.ok.hd hc) st (by have:n<=i:=hg;lia) fun h' eb=>⟨rfl,I.turned (t':=s.toks) (fun b o hb e=>eb b o hb e) f0 f1 f3 f4 f5⟩
 self:=fun _ _ _ _ _ st h=>wpAny_pyIter_rangeiter st h
section
variable{X:Cx}{tg:Expr}
def zaW(K:ub)(tl:TE):TI:=fun σ H R=>tl σ H fun x H1=>∃a,x=.ref a/\(∃xs,SqL K H1 a xs)/\R (Itl K a) H1
def iTup(K:ub)(tl:TE):TI:=fun σ H R=>tl σ H fun x H1=>∃a,x=.ref a/\(∃xs,SqT K H1 a xs)/\R (Itt K a) H1
theorem Qd{l:Expr}{tl:TE}(hl:PE X l tl):PI X tg l (zaW X.K tl):=by
 intro pins s σ H R I h
 refine thn (hl pins s σ H _ I h) fun v s1 ⟨x,H1,I1,r1,q1⟩=>?_
 obtain⟨a,e,⟨xs,hq⟩,q⟩:=q1
 subst e
 cases r1
 obtain⟨its,rv,p,hz⟩:=I1.list hq
 refine wpAny_pyIter_list p.isList ?_
 refine⟨s1.heap.objs.size,[s1.heap.objs.size],_,_,H1,rfl,I1.kept (t':=s1.toks) fun b o e=>ug _ e,X4 a _,⟨_,uA _ rfl,rfl,rfl⟩,fun b hb=>?_,q⟩
 have e:b=s1.heap.objs.size:=by simpa using hb
 subst e
 exact I1.fpOk (ud _) (I1.hok.fresh (ud _))
theorem zbC{l:Expr}{tl:TE}(hl:PE X l tl):PI X tg l (iTup X.K tl):=by
 intro pins s σ H R I h
 refine thn (hl pins s σ H _ I h) fun v s1 ⟨x,H1,I1,r1,q1⟩=>?_
 obtain⟨a,e,⟨xs,hq⟩,q⟩:=q1
 subst e
 cases r1
 obtain⟨its,rv,p,hz⟩:=I1.tuple hq
 refine wpAny_pyIter_tuple (show s1.heap.IsTuple a its.toArray from p) ?_
 refine⟨s1.heap.objs.size,[s1.heap.objs.size],_,_,H1,rfl,I1.kept (t':=s1.toks) fun b o e=>ug _ e,Yk a _,⟨_,uA _ rfl,rfl,rfl⟩,fun b hb=>?_,q⟩
 have e:b=s1.heap.objs.size:=by simpa using hb
 subst e
 exact I1.fpOk (ud _) (I1.hok.fresh (ud _))
theorem WV{pins:List (Addr×Obj)}{σ:St}{H:Hp}{s:Shared}{R:It->Hp->Prop}{E:Value->Shared->Prop}{lo hi:Int}{t u v:Tok}{tk:Nat}(I:Inv X pins σ H s)(h1:-(2 ^ 62)<=lo)(h2:lo < 2 ^ 62)(h3:-(2 ^ 62)<=hi)(h4:hi < 2 ^ 62)
  (q:R (Itr lo (hi-lo).toNat) H):wpAny (model X.prog X.w) X.A (pyIter (.ref s.heap.objs.size)) (PIE X pins σ tg R) E { s with heap:=s.heap.push { cls:=.type "range",data:=.fields #[.int lo t,.int hi u,.int 1 v] },toks:=tk }:=by
 refine wpAny_pyIter_range (IsRange.new ..) (small_one h1 h2 h3 h4) ?_
 have I1:Inv X pins σ H { s with heap:=s.heap.push { cls:=.type "range",data:=.fields #[.int lo t,.int hi u,.int 1 v] },toks:=tk }:=I.kept fun b o e=>ug _ e
 refine⟨(s.heap.push { cls:=.type "range",data:=.fields #[.int lo t,.int hi u,.int 1 v] }).objs.size,[(s.heap.push { cls:=.type "range",data:=.fields #[.int lo t,.int hi u,.int 1 v] }).objs.size],_,_,H,rfl,
  I1.kept (t':=tk) fun b o e=>ug _ e,Yl _ lo (hi-lo).toNat,?_,fun b hb=>?_,q⟩
 ·have e1:lo+((0:Nat):Int)*1=lo:=by simp
  have e2:(((hi-lo).toNat:Nat):Int)-((0:Nat):Int)=Builtin.Range.rangeSize lo hi 1:=by rw[rangeSize_one];split<;>lia
  show IsRangeIter _ _ (lo+((0:Nat):Int)*1) ((((hi-lo).toNat:Nat):Int)-((0:Nat):Int)) 1
  rw[e1,e2]
  exact uA _ rfl
 ·have e:b=(s.heap.push { cls:=.type "range",data:=.fields #[.int lo t,.int hi u,.int 1 v] }).objs.size:=by simpa using hb
  subst e
  exact I1.fpOk (ud _) (I1.hok.fresh (ud _))
def zaX(ta:TA):TI:=fun σ H R=>ta σ H fun vs H1=>∃j:Int,vs=[.int j]/\-(2 ^ 62)<=j/\j < 2 ^ 62/\R (Itr 0 j.toNat) H1
theorem X5{a:Expr}{ta:TA}{p pos:Pos}(hg:Gl X "range")(hm:X.mg "range"=none)(ha:PA X [a] ta)(hs:starEach [a] X.env=[(false,eval a X.env)]:=by rfl):PI X tg (.Call (.Name "range" p) [a] [] pos) (zaX ta):=by
 intro pins s σ H R I h
 refine Call_ (yU I hg hm boot_range (Ue (thn (ha pos pins s σ H _ I h) fun us s1 ⟨vs,H1,I1,r1,q1⟩=>?_) hs rfl))
 obtain⟨j,e,q1,q2,q⟩:=q1
 subst e
 cases r1 with
 |cons r rr =>
  cases rr
  obtain⟨t,rfl⟩:=r
  exact call_range_1 (WV I1 (by lia) (by lia) q1 q2 (by simpa using q))
def tFor(wi:TI)(g:TG)(tb:TS):TS:=fun D σ H=>wi σ H fun J H1=>∃W:Nat->Nat->St->Hp->Prop,(∃m,W 0 m σ H1)/\∀i m σ H,W i m σ H ->
 (J.stop i H/\D.nx σ H)\/(J.go i H/\∃N:St->Hp->Prop,(∀σ' H',N σ' H'->∃m',m' < m/\W (i+1) m' σ' H')/\∀x H',J.yld i H x H'->g x σ H' fun σ2 H2=>tb { D with nx:=N,ct:=N,bk:=D.nx } σ2 H2)
def vm(fp:List Addr)(h:Heap):List (Addr×Obj):=fp.filterMap fun b=>(h.get? b).map fun o=>(b,o)
theorem xJ{fp:List Addr}{h:Heap}{b:Addr}{o:Obj}(hb:b∈fp)(e:h.get? b=some o):(b,o)∈vm fp h:=List.mem_filterMap.mpr ⟨b,hb,by rw[e];rfl⟩
theorem X6{fp:List Addr}{h:Heap}{p:Addr×Obj}(hp:p∈vm fp h):p.1∈fp/\h.get? p.1=some p.2:=by
 obtain⟨b,hb,e⟩:=List.mem_filterMap.mp hp
 cases q:h.get? b with
 |none=>rw[q]at e;cases e
 |some o =>
  rw[q]at e
  have e':(b,o)=p:=uO.inj e
  subst e'
  exact⟨hb,q⟩
theorem Inv.pinned{pins:List (Addr×Obj)}{σ:St}{H:Hp}{s:Shared}{fp:List Addr}(I:Inv X pins σ H s)(hf:∀b∈fp,FpOk X pins H b)(ho:∀b∈fp,∃o,s.heap.get? b=some o/\∀v,o.data≠.cell v):Inv X (pins++vm fp s.heap) σ H s :=
 I.pins_of fun p hp=>(uE.mp hp).elim (fun z=>I.pin p (uo _ z)) fun z=>by
  obtain⟨hb,e⟩:=X6 z
  obtain⟨f0,f1,f2,_⟩:=hf p.1 hb
  obtain⟨o,e',d⟩:=ho p.1 hb
  rw[e]at e';cases e'
  exact⟨e,f0,f1,f2,d⟩
theorem Inv.unpinned{pins pl:List (Addr×Obj)}{σ:St}{H:Hp}{s:Shared}(I:Inv X (pins++pl) σ H s):Inv X pins σ H s:=I.pins_of fun p hp=>I.pin p (uo _ (uB _ hp))
theorem zbD{iter:Expr}{body:List Stmt}{wi:TI}{g:TG}{tb:TS}{pos:Pos}(hp:PassesOwn (model X.prog X.w) X.A X.env X.xe)(hc:X.calm=true)(hi:PI X tg iter wi)(hg:PG X tg g)(hb:PSs X body tb)
  (hs:∀x,foldedSetIterable iter X.env x=pure x:=by intro _;rfl):PS X (.For tg iter body [] pos) (tFor wi g tb):=by
 intro pins s σ H D I h
 refine wpAny_For (thn (hi pins s σ H _ I h) fun v s1 h1=>thn h1 fun itv s2 h2=>?_) hs
 obtain⟨it,fp,tn,J,H2,e,I2,T,st2,f2,W,⟨m0,w0⟩,turn⟩:=h2
 subst e
 have stat:∀{H':Hp},(∀b∈fp,H' b=none)->∀b∈fp,FpOk X pins H' b:=fun hn b hb=>⟨hn b hb,(f2 b hb).2⟩
 refine codeAny_forLoop_any (fun n s'=>∃i σ' H',Inv X pins σ' H' s'/\tn i s'.heap/\(∀b∈fp,H' b=none)/\W i n σ' H') ?_ m0 ⟨0,σ,H2,I2,st2,fun b hb=>(f2 b hb).1,w0⟩
 rintro n s3 ⟨i,σ3,H3,I3,st3,fr3,w3⟩
 rcases turn i n σ3 H3 w3 with⟨stop,qn⟩|⟨go,N,hN,step⟩
 ·refine wpAny_passesOwn hp (thn (T.done X rfl rfl rfl hc i pins s3 σ3 H3 X.xe I3 (stat fr3) st3 stop) fun r s4 ⟨hr,I4⟩=>?_)
  subst hr
  exact wpAny_execs_nil ⟨σ3,H3,I4,qn⟩
 ·refine wpAny_passesOwn hp (thn (T.item X rfl rfl rfl hc i pins s3 σ3 H3 X.xe I3 (stat fr3) st3 go) fun r s4 ⟨u,hr,h4⟩=>?_)
  subst hr
  refine wpAny_passesOwn hp (thn h4 fun _ s5 ⟨x,H5,I5,r5,y5,st5,fr5⟩=>?_)
  have I5':=I5.pinned (stat fr5) (T.obj _ _ st5)
  refine wpAny_passesOwn hp (thn (hg _ s5 σ3 H5 x u _ I5' r5 (step x H5 y5)) fun _ s6 ⟨σ6,H6,I6,q6⟩=>?_)
  refine wpAny_passesOwn hp (thn (hb _ s6 σ6 H6 _ I6 q6) fun f s7 q7=>?_)
  have again:∀{σ7:St}{H7:Hp},Inv X (pins++vm fp s5.heap) σ7 H7 s7->N σ7 H7->∃m,m < n/\∃i σ' H',Inv X pins σ' H' s7/\tn i s7.heap/\(∀b∈fp,H' b=none)/\W i m σ' H':=fun{σ7 H7} I7 n7=>by
   obtain⟨m',hm,w7⟩:=hN σ7 H7 n7
   refine⟨m',hm,i+1,σ7,H7,I7.unpinned,T.keep _ _ _ st5 fun b hb o e=>(I7.pin (b,o) (uo _ (uo _ (xJ hb e)))).1,fun b hb=>?_,w7⟩
   obtain⟨o,e,d⟩:=T.obj _ _ st5 b hb
   exact(I7.pin (b,o) (uo _ (uo _ (xJ hb e)))).2.1
  cases f with
  |next=>obtain⟨σ7,H7,I7,n7⟩:=q7;exact again I7 n7
  |cont=>obtain⟨σ7,H7,I7,n7⟩:=q7;exact again I7 n7
  |brk=>obtain⟨σ7,H7,I7,q7⟩:=q7;exact⟨σ7,H7,I7.unpinned,q7⟩
  |ret v=>obtain⟨x7,σ7,H7,I7,r7,q7⟩:=q7;exact⟨x7,σ7,H7,I7.unpinned,r7,q7⟩
end
theorem ym{K:ub}{a:Addr}{xs:List V}{g:TG}{tb:TS}{D:Ends}{σ:St}{H:Hp}(Pv:Nat->St->Hp->Prop)(h0:Pv 0 σ H)(hl:∀i σ H,i<=xs.length->Pv i σ H->SqL K H a xs)
  (hs:∀i x σ H,xs[i]?=some x->Pv i σ H->g x σ H fun σ2 H2=>tb { D with nx:=Pv (i+1),ct:=Pv (i+1),bk:=D.nx } σ2 H2) (hd:∀σ H,Pv xs.length σ H->D.nx σ H) :
  ∃W:Nat->Nat->St->Hp->Prop,(∃m,W 0 m σ H)/\∀i m σ H,W i m σ H ->
   ((Itl K a).stop i H/\D.nx σ H)\/((Itl K a).go i H/\∃N:St->Hp->Prop,(∀σ' H',N σ' H'->∃m',m' < m/\W (i+1) m' σ' H')/\∀x H',(Itl K a).yld i H x H'->g x σ H' fun σ2 H2=>tb { D with nx:=N,ct:=N,bk:=D.nx } σ2 H2):=by
 refine⟨fun i m σ H=>m=xs.length-i/\i<=xs.length/\Pv i σ H,⟨xs.length,by simp,uW _,h0⟩,?_⟩
 rintro i m σ H ⟨rfl,hi,p⟩
 have q:=hl i σ H hi p
 by_cases hlt:i < xs.length
 ·refine .inr ⟨⟨xs,xs[i],q,by simp[hlt]⟩,Pv (i+1),fun σ' H' p'=>⟨xs.length-(i+1),by lia,rfl,hlt,p'⟩,fun x H' y=>?_⟩
  obtain⟨e,y⟩:=y
  subst e
  exact hs i x σ _ (y xs q) p
 ·have e:i=xs.length:=by lia
  subst e
  exact .inl ⟨⟨xs,q,ud _⟩,hd σ H p⟩
theorem yS{K:ub}{a:Addr}{xs:List V}{g:TG}{tb:TS}{D:Ends}{σ:St}{H:Hp}(Pv:Nat->St->Hp->Prop)(h0:Pv 0 σ H)(hl:∀i σ H,i<=xs.length->Pv i σ H->SqT K H a xs)
  (hs:∀i x σ H,xs[i]?=some x->Pv i σ H->g x σ H fun σ2 H2=>tb { D with nx:=Pv (i+1),ct:=Pv (i+1),bk:=D.nx } σ2 H2) (hd:∀σ H,Pv xs.length σ H->D.nx σ H) :
  ∃W:Nat->Nat->St->Hp->Prop,(∃m,W 0 m σ H)/\∀i m σ H,W i m σ H ->
   ((Itt K a).stop i H/\D.nx σ H)\/((Itt K a).go i H/\∃N:St->Hp->Prop,(∀σ' H',N σ' H'->∃m',m' < m/\W (i+1) m' σ' H')/\∀x H',(Itt K a).yld i H x H'->g x σ H' fun σ2 H2=>tb { D with nx:=N,ct:=N,bk:=D.nx } σ2 H2):=by
 refine⟨fun i m σ H=>m=xs.length-i/\i<=xs.length/\Pv i σ H,⟨xs.length,by simp,uW _,h0⟩,?_⟩
 rintro i m σ H ⟨rfl,hi,p⟩
 have q:=hl i σ H hi p
 by_cases hlt:i < xs.length
 ·refine .inr ⟨⟨xs,xs[i],q,by simp[hlt]⟩,Pv (i+1),fun σ' H' p'=>⟨xs.length-(i+1),by lia,rfl,hlt,p'⟩,fun x H' y=>?_⟩
  obtain⟨e,y⟩:=y
  subst e
  exact hs i x σ _ (y xs q) p
 ·have e:i=xs.length:=by lia
  subst e
  exact .inl ⟨⟨xs,q,ud _⟩,hd σ H p⟩
theorem wx{lo:Int}{n:Nat}{g:TG}{tb:TS}{D:Ends}{σ:St}{H:Hp}(Pv:Nat->St->Hp->Prop)(h0:Pv 0 σ H)
  (hs:∀i σ H,i < n->Pv i σ H->g (.int (lo+i)) σ H fun σ2 H2=>tb { D with nx:=Pv (i+1),ct:=Pv (i+1),bk:=D.nx } σ2 H2) (hd:∀σ H,Pv n σ H->D.nx σ H) :
  ∃W:Nat->Nat->St->Hp->Prop,(∃m,W 0 m σ H)/\∀i m σ H,W i m σ H ->
   ((Itr lo n).stop i H/\D.nx σ H)\/((Itr lo n).go i H/\∃N:St->Hp->Prop,(∀σ' H',N σ' H'->∃m',m' < m/\W (i+1) m' σ' H')/\∀x H',(Itr lo n).yld i H x H'->g x σ H' fun σ2 H2=>tb { D with nx:=N,ct:=N,bk:=D.nx } σ2 H2):=by
 refine⟨fun i m σ H=>m=n-i/\i<=n/\Pv i σ H,⟨n,by simp,uW _,h0⟩,?_⟩
 rintro i m σ H ⟨rfl,hi,p⟩
 by_cases hlt:i < n
 ·refine .inr ⟨hlt,Pv (i+1),fun σ' H' p'=>⟨n-(i+1),by lia,rfl,hlt,p'⟩,fun x H' y=>?_⟩
  obtain⟨e,y⟩:=y
  subst e y
  exact hs i σ _ hlt p
 ·have e:i=n:=by lia
  subst e
  exact .inl ⟨ud _,hd σ H p⟩
abbrev R2:=V->V->Hp->VK->Prop
def OpR(X:Cx)(f:Value->Value->Sem Value)(r:R2):Prop :=
 ∀(pins:List (Addr×Obj))(s:Shared)(σ:St)(H:Hp)(x y:V)(v u:Value)(Q:VK),Inv X pins σ H s->RelV x v->RelV y u->r x y H Q ->
  wpAny (model X.prog X.w) X.A (f v u) (EP X pins σ Q) X.xe s
def UnR(X:Cx)(f:Value->Sem Value)(r:V->Hp->VK->Prop):Prop :=
 ∀(pins:List (Addr×Obj))(s:Shared)(σ:St)(H:Hp)(x:V)(v:Value)(Q:VK),Inv X pins σ H s->RelV x v->r x H Q ->
  wpAny (model X.prog X.w) X.A (f v) (EP X pins σ Q) X.xe s
def xm(X:Cx)(f:Value)(r:List V->Hp->VK->Prop):Prop :=
 ∀(pins:List (Addr×Obj))(s:Shared)(σ:St)(H:Hp)(xs:List V)(us:List Value)(Q:VK),Inv X pins σ H s->Vals xs us->r xs H Q ->
  wpAny (model X.prog X.w) X.A (call f us) (EP X pins σ Q) X.xe s
def tOp(r:R2)(ta tb:TE):TE:=fun σ H Q=>ta σ H fun x H1=>tb σ H1 fun y H2=>r x y H2 Q
def tUn(r:V->Hp->VK->Prop)(ta:TE):TE:=fun σ H Q=>ta σ H fun x H1=>r x H1 Q
def rI(C:Int->Int->Prop)(g:Int->Int->V):R2:=fun x y H Q=>∃i j,x=.int i/\y=.int j/\C i j/\Q (g i j) H
def rI0(g:Int->Int->V):R2:=fun x y H Q=>∃i j,x=.int i/\y=.int j/\Q (g i j) H
def rU(g:Int->V):V->Hp->VK->Prop:=fun x H Q=>∃i,x=.int i/\Q (g i) H
section
variable{X:Cx}{a b c:Expr}{ta tb tc:TE}{pos:Pos}
theorem binT(ha:PE X a ta)(hb:PE X b tb){pins:List (Addr×Obj)}{s:Shared}{σ:St}{H:Hp}{R:V->V->Hp->Prop}(I:Inv X pins σ H s)
  (h:ta σ H fun x H1=>tb σ H1 fun y H2=>R x y H2) {Q:Value->Shared->Prop} {f:Value->Value->Sem Value}
  (hf:∀v u s2 x y H2,Inv X pins σ H2 s2->RelV x v->RelV y u->R x y H2->wpAny (model X.prog X.w) X.A (f v u) Q X.xe s2) :
  wpAny (model X.prog X.w) X.A (eval a X.env) (fun v s₁=>wpAny (model X.prog X.w) X.A (eval b X.env) (fun u s₂=>wpAny (model X.prog X.w) X.A (f v u) Q X.xe s₂) X.xe s₁) X.xe s:=by
 refine thn (ha pins s σ H _ I h) fun v s1 ⟨x,H1,I1,r1,q1⟩=>?_
 refine thn (hb pins s1 σ H1 _ I1 q1) fun u s2 ⟨y,H2,I2,r2,q2⟩=>?_
 exact hf v u s2 x y H2 I2 r1 r2 q2
theorem zcT{op:Operator}{r:R2}(ho:OpR X (binaryOp op) r)(ha:PE X a ta)(hb:PE X b tb):PE X (.BinOp a op b pos) (tOp r ta tb):=by
 intro pins s σ H Q I h
 exact wpAny_BinOp (binT ha hb I h fun v u s2 x y H2 I2 rx ry q=>ho pins s2 σ H2 x y v u Q I2 rx ry q)
theorem zaY{op:UnaryOp}{r:V->Hp->VK->Prop}(ho:UnR X (unaryOp op) r)(ha:PE X a ta):PE X (.UnaryOp op a pos) (tUn r ta):=by
 intro pins s σ H Q I h
 exact UnaryOp_ (thn (ha pins s σ H _ I h) fun v s1 ⟨x,H1,I1,r1,q1⟩=>ho pins s1 σ H1 x v Q I1 r1 q1)
theorem opI{f:Value->Value->Sem Value}{C:Int->Int->Prop}{g:Int->Int->Int}
  (rule:∀(i j:Int)(t u:Tok)(s:Shared)(Q:Value->Shared->Prop)(E:Value->Shared->Prop),C i j->Q (.int (g i j) s.toks) { s with toks:=s.toks+1 }->wpAny (model X.prog X.w) X.A (f (.int i t) (.int j u)) Q E s) :
  OpR X f (rI C fun i j=>.int (g i j)):=by
 intro pins s σ H x y v u Q I rx ry h
 obtain⟨i,j,rfl,rfl,hc,q⟩:=h
 obtain⟨t,rfl⟩:=rx
 obtain⟨t',rfl⟩:=ry
 exact rule i j t t' s _ _ hc ⟨.int (g i j),H,I.tok _,⟨_,rfl⟩,q⟩
theorem opI0{f:Value->Value->Sem Value}{g:Int->Int->Int}
  (rule:∀(i j:Int)(t u:Tok)(s:Shared)(Q:Value->Shared->Prop)(E:Value->Shared->Prop),Q (.int (g i j) s.toks) { s with toks:=s.toks+1 }->wpAny (model X.prog X.w) X.A (f (.int i t) (.int j u)) Q E s) :
  OpR X f (rI0 fun i j=>.int (g i j)):=by
 intro pins s σ H x y v u Q I rx ry h
 obtain⟨i,j,rfl,rfl,q⟩:=h
 obtain⟨t,rfl⟩:=rx
 obtain⟨t',rfl⟩:=ry
 exact rule i j t t' s _ _ ⟨.int (g i j),H,I.tok _,⟨_,rfl⟩,q⟩
theorem opB0{f:Value->Value->Sem Value}{g:Int->Int->Bool}
  (rule:∀(i j:Int)(t u:Tok)(s:Shared)(Q:Value->Shared->Prop)(E:Value->Shared->Prop),Q (.bool (g i j)) s->wpAny (model X.prog X.w) X.A (f (.int i t) (.int j u)) Q E s) :
  OpR X f (rI0 fun i j=>.bl (g i j)):=by
 intro pins s σ H x y v u Q I rx ry h
 obtain⟨i,j,rfl,rfl,q⟩:=h
 obtain⟨t,rfl⟩:=rx
 obtain⟨t',rfl⟩:=ry
 exact rule i j t t' s _ _ ⟨.bl (g i j),H,I,rfl,q⟩
def CDiv(i j:Int):Prop:=0 < j/\j < 1073741824
def CMul(i j:Int):Prop:=(-(2 ^ 64) < i/\i < 2 ^ 64)\/(-(2 ^ 64) < j/\j < 2 ^ 64)
theorem CMul.ok{i j:Int}(h:CMul i j):IntMulOk i j:=by
 rcases h with⟨h1,h2⟩|⟨h1,h2⟩
 ·exact .of_left (intBits_le_64 h1 h2)
 ·exact .of_right (intBits_le_64 h1 h2)
theorem zbE:OpR X (binaryOp .Add) (rI0 fun i j=>.int (i+j)):=opI0 fun _ _ _ _ _ _ _ q=>add_int q
theorem zbF:OpR X (binaryOp .Sub) (rI0 fun i j=>.int (i-j)):=opI0 fun _ _ _ _ _ _ _ q=>sub_int q
theorem zbG:OpR X (binaryOp .Mult) (rI CMul fun i j=>.int (i*j)):=opI fun _ _ _ _ _ _ _ hc q=>mul_int q hc.ok
theorem Qe:OpR X (binaryOp .FloorDiv) (rI CDiv fun i j=>.int (i / j)):=opI fun i j _ _ _ _ _ hc q=>by
 have h1:(0:Int) < j:=hc.1
 have h2:j < 1073741824:=hc.2
 exact floordiv_int (by lia) (by rw[Int.fdiv_eq_ediv_of_nonneg i (by lia)];exact q) (.inl (PyProof.noPylong_small (by lia)))
theorem zbH:OpR X (binaryOp .Mod) (rI (fun _ j=>0 < j) fun i j=>.int (i % j)):=opI fun i j _ _ _ _ _ hc q=>by
 have h1:(0:Int) < j:=hc
 exact mod_int' (by lia) (by rw[Int.fmod_eq_emod_of_nonneg i (by lia)];exact q)
theorem zbI:OpR X (binaryOp .BitAnd) (rI0 fun i j=>.int (Builtin.bitAnd i j)):=opI0 fun _ _ _ _ _ _ _ q=>and_int q
theorem zcU:OpR X (binaryOp .BitOr) (rI0 fun i j=>.int (Builtin.bitOr i j)):=opI0 fun _ _ _ _ _ _ _ q=>or_int q
theorem unI{f:Value->Sem Value}{g:Int->Int}
  (rule:∀(i:Int)(t:Tok)(s:Shared)(Q:Value->Shared->Prop)(E:Value->Shared->Prop),Q (.int (g i) s.toks) { s with toks:=s.toks+1 }->wpAny (model X.prog X.w) X.A (f (.int i t)) Q E s) :
  UnR X f (rU fun i=>.int (g i)):=by
 intro pins s σ H x v Q I rx h
 obtain⟨i,rfl,q⟩:=h
 obtain⟨t,rfl⟩:=rx
 exact rule i t s _ _ ⟨.int (g i),H,I.tok _,⟨_,rfl⟩,q⟩
theorem zbJ:UnR X (unaryOp .USub) (rU fun i=>.int (-i)):=unI fun _ _ _ _ _ q=>neg_int q
theorem zbK:UnR X (unaryOp .Invert) (rU fun i=>.int (Builtin.bitNot i)):=unI fun _ _ _ _ _ q=>invert_int q
def scal:V->V->Bool
 |.non,.non=>true|.non,.int _=>true|.int _,.non=>true|.non,.bl _=>true|.bl _,.non=>true|.non,.str _=>true|.str _,.non=>true
 |.int _,.int _=>true|.bl _,.bl _=>true|.str _,.str _=>true|.byt _,.byt _=>true
 |.int _,.str _=>true|.str _,.int _=>true|.bl _,.str _=>true|.str _,.bl _=>true
 |_,_=>false
def rEq:R2:=fun x y H Q=>scal x y=true/\Q (.bl (decide (x=y))) H
def rNe:R2:=fun x y H Q=>scal x y=true/\Q (.bl (!decide (x=y))) H
theorem Xe{i j:Int}:decide (V.int i=V.int j)=(i == j):=by
 rw[UH]
 simp
theorem WW{i j:Bool}:decide (V.bl i=V.bl j)=(i == j):=by
 rw[UH]
 simp
theorem Xf{i j:Str}:decide (V.str i=V.str j)=(i == j):=by
 rw[UH]
 simp
theorem Xg{i j:Array UInt8}:decide (V.byt i=V.byt j)=(i.toList == j.toList):=by
 rw[UH]
 cases i
 cases j
 simp
theorem zJ{pins:List (Addr×Obj)}{σ:St}{H:Hp}{s:Shared}{Q:VK}{k k':Bool}(I:Inv X pins σ H s)(q:Q (.bl k) H)(e:k=k'):EP X pins σ Q (.bool k') s:=by
 subst e
 exact⟨.bl k,H,I,rfl,q⟩
theorem zcV:OpR X (compareOp .Eq) rEq:=by
 intro pins s σ H x y v u Q I rx ry h
 obtain⟨hs,q⟩:=h
 cases x with
 |non =>
  cases rx
  cases y with
  |non=>cases ry;exact PySem.EqNone.eq_none_none (zJ I q (by simp))
  |bl j=>cases ry;exact PySem.EqNone.eq_none_bool (zJ I q (by simp))
  |int j=>obtain⟨t',rfl⟩:=ry;exact PySem.EqNone.eq_none_int (zJ I q (by simp))
  |str j=>obtain⟨t',rfl⟩:=ry;exact PySem.EqNone.eq_none_str (zJ I q (by simp))
  |_=>exact absurd (show false=true from hs) uu
 |bl i =>
  cases rx
  cases y with
  |non=>cases ry;exact PySem.EqNone.eq_bool_none (zJ I q (by simp))
  |bl j=>cases ry;exact eq_bool (zJ I q WW)
  |str j=>obtain⟨t',rfl⟩:=ry;exact PySem.EqMixed.eq_bool_str (zJ I q (by simp))
  |_=>exact absurd (show false=true from hs) uu
 |int i =>
  obtain⟨t,rfl⟩:=rx
  cases y with
  |non=>cases ry;exact PySem.EqNone.eq_int_none (zJ I q (by simp))
  |int j=>obtain⟨t',rfl⟩:=ry;exact eq_int (zJ I q Xe)
  |str j=>obtain⟨t',rfl⟩:=ry;exact PySem.EqMixed.eq_int_str (zJ I q (by simp))
  |_=>exact absurd (show false=true from hs) uu
 |str i =>
  obtain⟨t,rfl⟩:=rx
  cases y with
  |non=>cases ry;exact PySem.EqNone.eq_str_none (zJ I q (by simp))
  |bl j=>cases ry;exact PySem.EqMixed.eq_str_bool (zJ I q (by simp))
  |int j=>obtain⟨t',rfl⟩:=ry;exact PySem.EqMixed.eq_str_int (zJ I q (by simp))
  |str j=>obtain⟨t',rfl⟩:=ry;exact eq_str (zJ I q Xf)
  |_=>exact absurd (show false=true from hs) uu
 |byt i =>
  obtain⟨t,rfl⟩:=rx
  cases y with
  |byt j=>obtain⟨t',rfl⟩:=ry;exact PySem.W.eq_bytes (zJ I q Xg)
  |_=>exact absurd (show false=true from hs) uu
 |_=>cases y<;>exact absurd (show false=true from hs) uu
theorem zcW:OpR X (compareOp .NotEq) rNe:=by
 intro pins s σ H x y v u Q I rx ry h
 obtain⟨hs,q⟩:=h
 cases x with
 |non =>
  cases rx
  cases y with
  |non=>cases ry;exact PySem.EqNone.ne_none_none (zJ I q (by simp))
  |bl j=>cases ry;exact PySem.EqNone.ne_none_bool (zJ I q (by simp))
  |int j=>obtain⟨t',rfl⟩:=ry;exact PySem.EqNone.ne_none_int (zJ I q (by simp))
  |str j=>obtain⟨t',rfl⟩:=ry;exact PySem.EqNone.ne_none_str (zJ I q (by simp))
  |_=>exact absurd (show false=true from hs) uu
 |bl i =>
  cases rx
  cases y with
  |non=>cases ry;exact PySem.EqNone.ne_bool_none (zJ I q (by simp))
  |bl j=>cases ry;exact ne_bool (zJ I q (congrArg not WW))
  |str j=>obtain⟨t',rfl⟩:=ry;exact PySem.EqMixed.ne_bool_str (zJ I q (by simp))
  |_=>exact absurd (show false=true from hs) uu
 |int i =>
  obtain⟨t,rfl⟩:=rx
  cases y with
  |non=>cases ry;exact PySem.EqNone.ne_int_none (zJ I q (by simp))
  |int j=>obtain⟨t',rfl⟩:=ry;exact ne_int (zJ I q (congrArg not Xe))
  |str j=>obtain⟨t',rfl⟩:=ry;exact PySem.EqMixed.ne_int_str (zJ I q (by simp))
  |_=>exact absurd (show false=true from hs) uu
 |str i =>
  obtain⟨t,rfl⟩:=rx
  cases y with
  |non=>cases ry;exact PySem.EqNone.ne_str_none (zJ I q (by simp))
  |bl j=>cases ry;exact PySem.EqMixed.ne_str_bool (zJ I q (by simp))
  |int j=>obtain⟨t',rfl⟩:=ry;exact PySem.EqMixed.ne_str_int (zJ I q (by simp))
  |str j=>obtain⟨t',rfl⟩:=ry;exact ne_str (zJ I q (congrArg not Xf))
  |_=>exact absurd (show false=true from hs) uu
 |byt i =>
  obtain⟨t,rfl⟩:=rx
  cases y with
  |byt j=>obtain⟨t',rfl⟩:=ry;exact PySem.W.ne_bytes (zJ I q (congrArg not Xg))
  |_=>exact absurd (show false=true from hs) uu
 |_=>cases y<;>exact absurd (show false=true from hs) uu
theorem zcX:OpR X (compareOp .Lt) (rI0 fun i j=>.bl (decide (i < j))):=opB0 fun _ _ _ _ _ _ _ q=>lt_int q
theorem zcY:OpR X (compareOp .LtE) (rI0 fun i j=>.bl (decide (i<=j))):=opB0 fun _ _ _ _ _ _ _ q=>le_int q
theorem zcZ:OpR X (compareOp .Gt) (rI0 fun i j=>.bl (decide (j < i))):=opB0 fun _ _ _ _ _ _ _ q=>gt_int q
theorem zc0:OpR X (compareOp .GtE) (rI0 fun i j=>.bl (decide (j<=i))):=opB0 fun _ _ _ _ _ _ _ q=>ge_int q
theorem wy(b:Expr){op:CmpOp}(h:op≠.In:=by decide)(h2:op≠.NotIn:=by decide):behindInMarks op b=false:=by
 have e1:(op == CmpOp.In)=false:=by cases op<;>first|rfl|exact absurd rfl h
 have e2:(op == CmpOp.NotIn)=false:=by cases op<;>first|rfl|exact absurd rfl h2
 cases b<;>simp[behindInMarks,e1,e2]
theorem Qf{op:CmpOp}{r:R2}(ho:OpR X (compareOp op) r)(ha:PE X a ta)(hb:PE X b tb)(hm:behindInMarks op b=false):PE X (.Compare a [op] [b] pos) (tOp r ta tb):=by
 intro pins s σ H Q I h
 exact wpAny_Compare1 (binT ha hb I h fun v u s2 x y H2 I2 rx ry q=>ho pins s2 σ H2 x y v u Q I2 rx ry q) hm
def Zw(t:TE):TT:=fun σ H Q=>t σ H fun x H'=>∃k,x=.bl k/\Q k H'
theorem Qg{op:CmpOp}{r:R2}(ho:OpR X (compareOp op) r)(ha:PE X a ta)(hb:PE X b tb)(hm:behindInMarks op b=false):PT X (.Compare a [op] [b] pos) (Zw (tOp r ta tb)):=by
 intro pins s σ H Q I h
 refine wpAny_isTrue_Compare1 (thn (ha pins s σ H _ I h) fun v s1 ⟨x,H1,I1,r1,q1⟩=>thn (hb pins s1 σ H1 _ I1 q1) fun u s2 ⟨y,H2,I2,r2,q2⟩ =>
  thn (ho pins s2 σ H2 x y v u _ I2 r1 r2 q2) fun c s3 ⟨z,H3,I3,r3,k,e,q3⟩=>?_) hm
 subst e
 cases r3
 exact wpAny_truthy_bool ⟨H3,I3,q3⟩
def WX(r r':R2)(ta tb tc:TE):TE:=fun σ H Q=>ta σ H fun x H1=>tb σ H1 fun y H2=>r x y H2 fun z H3=>∃k,z=.bl k /\
 (if k=true then tc σ H3 fun w' H4=>r' y w' H4 Q else Q (.bl false) H3)
theorem WY{op op':CmpOp}{r r':R2}(ho:OpR X (compareOp op) r)(ho':OpR X (compareOp op') r')(ha:PE X a ta)(hb:PE X b tb)(hc:PE X c tc)
  (hm:lastMarks [op,op'] [b,c]=false:=by with_unfolding_all rfl):PT X (.Compare a [op,op'] [b,c] pos) (Zw (WX r r' ta tb tc)):=by
 intro pins s σ H Q I h
 refine isTrue_chain (thn (ha pins s σ H _ I h) fun v s1 ⟨x,H1,I1,r1,q1⟩=>test_link (thn (hb pins s1 σ H1 _ I1 q1) fun u s2 ⟨y,H2,I2,r2,q2⟩ =>
  thn (ho pins s2 σ H2 x y v u _ I2 r1 r2 q2) fun d s3 ⟨z,H3,I3,r3,k,e,q3⟩=>?_)) hm
 subst e
 cases r3
 refine wpAny_truthy_bool ?_
 cases k with
 |false =>
  obtain⟨k',e',q'⟩:=q3
  cases e'
  exact ite_ff ⟨H3,I3,q'⟩
 |true =>
  refine ite_tt (test_last (thn (hc pins s3 σ H3 _ I3 q3) fun w' s4 ⟨z',H4,I4,r4,q4⟩=>thn (ho' pins s4 σ H4 y z' u w' _ I4 r2 r4 q4) fun d' s5 ⟨z2,H5,I5,r5,k2,e2,q5⟩=>?_))
  subst e2
  cases r5
  exact wpAny_truthy_bool ⟨H5,I5,q5⟩
theorem vn:(sizeLine:Nat) < 2 ^ 63:=by rw[sizeLine_eq];decide
theorem Ym:OpR X (binaryOp .Add) (fun x y H Q=>∃i j,x=.str i/\y=.str j/\i.length+j.length<=sizeLine/\Q (.str (i++j)) H):=by
 intro pins s σ H x y v u Q I rx ry h
 obtain⟨i,j,rfl,rfl,hz,q⟩:=h
 obtain⟨t,rfl⟩:=rx
 obtain⟨t',rfl⟩:=ry
 exact add_str (fun t' tk=>⟨.str (i++j),H,I.tok _,⟨_,rfl⟩,q⟩) hz
theorem vo{x:V}{us:List Value}(r:Vals [x] us):∃u,us=[u]/\RelV x u:=by
 cases r with
 |cons r1 r2=>cases r2;exact⟨_,rfl,r1⟩
theorem Xh{x y:V}{us:List Value}(r:Vals [x,y] us):∃u w',us=[u,w']/\RelV x u/\RelV y w':=by
 cases r with
 |cons r1 r2 =>
  cases r2 with
  |cons r3 r4=>cases r4;exact⟨_,_,rfl,r1,r3⟩
theorem X7(hc:X.calm=true):xm X (.builtin "max") (fun xs H Q=>∃i j,xs=[.int i,.int j]/\Q (.int (if j > i then j else i)) H):=by
 intro pins s σ H xs us Q I r h
 obtain⟨i,j,rfl,q⟩:=h
 obtain⟨u,w',rfl,⟨t,rfl⟩,⟨t',rfl⟩⟩:=Xh r
 refine max_two_ints (I.ok.hd hc) fun h' tk k=>⟨_,H,I.kept k,?_,q⟩
 by_cases hj:j > i
 ·rw[if_pos hj,if_pos hj];exact⟨_,rfl⟩
 ·rw[if_neg hj,if_neg hj];exact⟨_,rfl⟩
end
structure ObjM(h:Heap)(x dx C:Addr)(mA:Str->Option Value):Prop where
 obj:h.get? x=some (UV C dx)
 ns:h.Ns1 dx mA
 ne:dx≠x
theorem X8{h:Heap}{dx:Addr}{mA:Str->Option Value}(n:h.Ns1 dx mA):∃od,h.get? dx=some od/\∀name,PySem.W.lookIn name od=some (mA name):=by
 obtain⟨o,es,ep,ho,hd,hk,_,hm⟩:=n
 refine⟨o,ho,fun name=>?_⟩
 have e:=hm name
 unfold nsFind findBy at e
 rw[<- Array.find?_toList]at e
 unfold PySem.W.lookIn
 rw[hd]
 dsimp only
 split
 ·rename_i y q
  rw[q]at e
  exact congrArg some e
 ·rename_i q
  rw[q]at e
  have a:es.toList.any (·.refKey)=false:=by
   rw[List.any_eq_false]
   intro y hy
   obtain⟨z,t,hkey⟩:=hk y (Array.mem_toList_iff.mp hy)
   simp[DictEntry.refKey,hkey]
  have a':¬ es.toList.any (·.refKey)=true:=by rw[a];exact uu
  rw[if_neg a']
  exact congrArg some e
theorem ObjM.look{h:Heap}{x dx C:Addr}{mA:Str->Option Value}(I:ObjM h x dx C mA):∃od,PySem.W.InstAt h x (UV C dx) C (some od)/\∀name,PySem.W.lookIn name od=some (mA name) :=
 let ⟨od,ho,hl⟩:=X8 I.ns
 ⟨od,⟨I.obj,rfl,rfl,ho⟩,hl⟩
section
variable{prog:Program}{w:World}{A:Around}{E:Value->Shared->Prop}{s:Shared}{K:ub}{x dx C f:Addr}{mA:Str->Option Value}{name:Str}{v:Value}
theorem Qh{expr:Bool}{Q:Value->Shared->Prop}(X:K.In s.heap)(I:ObjM s.heap x dx C mA)(hg:tQ K C name=true)(hh:Tc K C=true)
  (ha:u9 K (.ref C) name=some none) (hv:mA name=some v) (hv':PySem.W.handedIn v=true) (h:Q v { s with toks:=s.toks+1 }) :
  wpAny (model prog w) A (getAttr (.ref x) name expr) Q E s:=by
 obtain⟨od,J,hl⟩:=I.look
 exact PySem.W.get_value X J (PySem.W.plainGet_of hg).1 (PySem.W.findObj_own hh ha rfl (by rw[hl,hv])) hv' h
theorem WZ{pl:Sem Bool}{Q:Value×List Value->Shared->Prop}(X:K.In s.heap)(I:ObjM s.heap x dx C mA)(hg:tQ K C name=true)
  (hf:u9 K (.ref C) name=some (some (.ref f))) (ht:PySem.W.isFn K (.ref f)=true) (hv:mA name=none) (h:Q (.ref f,[.ref x]) s) :
  wpAny (model prog w) A (getMethod (.ref x) name pl) Q E s:=by
 obtain⟨od,J,hl⟩:=I.look
 exact PySem.W.method_fn X J (PySem.W.plainGet_of hg).1 (PySem.W.plainGet_of hg).2 hf (beq_iff_eq.mp ht) (by show(PySem.W.lookIn name od).map (·.isSome)=some false;rw[hl,hv];rfl) h
theorem Qi{ns:List Str}{Q:Unit->Shared->Prop}(X:K.In s.heap)(I:ObjM s.heap x dx C mA)
  (hs:u9 K (.ref C) "__setattr__"=some (some (.builtin "object.__setattr__"))) (hp:PySem.W.plainOver K C=true) (ht:PySem.W.takerIn K C name=some none) (hh:Tc K C=true)
  (hw:PySem.Within mA ns) (hsz:ns.length<=sizeLine)
  (h:∀h',ObjM h' x dx C (fun y=>if y=name then some v else mA y)->Heap.SameBut dx s.heap h'->Q () { s with heap:=h',toks:=s.toks+2 }) :
  wpAny (model prog w) A (setAttr (.ref x) name v) Q E s:=by
 obtain⟨od,J,hl⟩:=I.look
 refine PySem.W.set_plain X J hs (PySem.W.osa_open (s:={ s with toks:=s.toks+1 }) (r:=none) X J hp ht fun b=>?_)
 obtain⟨cd,hc,hd'⟩:=PySem.W.any_some hh
 have hx:s.heap.get? x=some ⟨.ref C,some dx,.plain,#[]⟩:=I.obj
 refine wpAny_bind (wpAny_pure (wpAny_bind (wpAny_bind (wpAny_loadPart hx (wpAny_bind (PySem.W.Looks.here (s:={ s with toks:=s.toks+1 }) (PySem.W.looks_clsIn X hc) ?_))))))
 rw[hd']
 refine wpAny_pure (a:=some dx) (wpAny_bind (wpAny_pure (wpAny_bind ?_)))
 refine wpAny_nsSet1 (s:={ s with toks:=s.toks+1 }) I.ns fun h' hn2 hs2=>?_
 obtain⟨oD,esD,epD,hoD,hdD,hcD⟩:=hn2.count (PySem.Within.cons name v hw)
 refine wpAny_bind (wpAny_lookBehind hoD (by rw[hdD];exact pastItsLine_dict (Uc hcD (by rw[ul];lia))) ?_)
 exact wpAny_pure (h _ ⟨(hs2.2 _ (Ne.symm I.ne)).trans I.obj,hn2,I.ne⟩ hs2)
theorem W0{R:Result->Shared->Prop}{vs:List Value}{kw:List (Str×Value)}(X:K.In s.heap)(hm:PySem.W.makesIn K C=true)
  (hi:u9 K (.ref C) "__init__"=some (some (.ref f))) (hf:PySem.W.typeIn K (.ref f)=some (.type "function"))
  (h:codeAny (model prog w) (A.under (.builtin "type.__call__" ⟨.ref C::vs,kw⟩)) (.call (.ref f) ⟨.ref (s.heap.objs.size+1)::vs,kw⟩) (PySem.W.InitBack (s.heap.objs.size+1) R)
   { s with heap:=(s.heap.push UD).push (UV C s.heap.objs.size) }) :
  codeAny (model prog w) A (.call (.ref C) ⟨vs,kw⟩) R s:=by
 obtain⟨hh,g,d,t,os⟩:=s
 exact PySem.W.make_core (PySem.W.makes_of X hm) (PySem.W.looks_findIn X hi) (fun self=>PySem.W.bind_fn X self hf) (.inl rfl) h
end
def putF(f:Str)(v:V):List (Str×V)->List (Str×V)
 |[]=>[(f,v)]
 | (g,x)::r=>if g=f then(g,v)::r else(g,x)::putF f v r
theorem wR(f g:Str)(v:V):∀fs:List (Str×V),(putF f v fs).lookup g=if g=f then some v else fs.lookup g
 |[]=>by
  show U0 g [(f,v)]=_
  by_cases h:g=f
  ·have hb:(g == f)=true:=beq_iff_eq.mpr h
   simp only[U0,hb,if_pos h]
  ·have hb:(g == f)=false:=beq_eq_false_iff_ne.mpr h
   simp only[U0,hb,if_neg h]
 | (k,x)::r=>by
  have ih:=wR f g v r
  rw[show putF f v ((k,x)::r)=(if k=f then(k,v)::r else(k,x)::putF f v r)from rfl]
  by_cases hk:k=f
  ·rw[if_pos hk]
   by_cases h:g=k
   ·have hb:(g == k)=true:=beq_iff_eq.mpr h
    simp only[U0,hb,if_pos (h.trans hk)]
   ·have hb:(g == k)=false:=beq_eq_false_iff_ne.mpr h
    simp only[U0,hb,if_neg (fun e:g=f=>h (e.trans hk.symm))]
  ·rw[if_neg hk]
   by_cases h:g=k
   ·have hb:(g == k)=true:=beq_iff_eq.mpr h
    simp only[U0,hb,if_neg (fun e:g=f=>hk (h.symm.trans e))]
   ·have hb:(g == k)=false:=beq_eq_false_iff_ne.mpr h
    simp only[U0,hb]
    exact ih
theorem wz(f:Str)(v:V):∀fs:List (Str×V),f∈(putF f v fs).map (·.1)/\∀g,g∈fs.map (·.1)->g∈(putF f v fs).map (·.1)
 |[]=>⟨by simp[putF],fun g h=>by simp at h⟩
 | (k,x)::r=>by
  obtain⟨i1,i2⟩:=wz f v r
  rw[show putF f v ((k,x)::r)=(if k=f then(k,v)::r else(k,x)::putF f v r)from rfl]
  by_cases hk:k=f
  ·rw[if_pos hk]
   subst hk
   exact⟨by simp,fun g h=>by simpa using h⟩
  ·rw[if_neg hk]
   refine⟨?_,fun g h=>?_⟩
   ·rw[uH]
    exact uD _ i1
   ·rw[uH]at h ⊢
    rcases um.mp h with e|e
    ·exact um.mpr (.inl e)
    ·exact uD _ (i2 g e)
theorem wS(f:Str)(v:V):∀fs:List (Str×V),(putF f v fs).length<=fs.length+1
 |[]=>by simp[putF]
 | (k,x)::r=>by
  have ih:=wS f v r
  rw[show putF f v ((k,x)::r)=(if k=f then(k,v)::r else(k,x)::putF f v r)from rfl]
  by_cases hk:k=f
  ·rw[if_pos hk,ul,ul];lia
  ·rw[if_neg hk,ul,ul];lia
theorem RelO.some_of{v:V}{o:Option Value}(r:RelO (some v) o):∃u,o=some u/\RelV v u:=by
 cases o with
 |none=>exact(show False from r).elim
 |some u=>exact⟨u,rfl,r⟩
theorem RelO.none_of{o:Option Value}(r:RelO none o):o=none:=by
 cases o with
 |none=>rfl
 |some u=>exact(show False from r).elim
theorem X9{v:V}{u:Value}(r:RelV v u):PySem.W.handedIn u=true:=by
 cases v with
 |non=>cases(show u=Value.none from r);rfl
 |bl b=>cases(show u=Value.bool b from r);rfl
 |int i=>obtain⟨t,e⟩:=(show ∃t,u=Value.int i t from r);cases e;rfl
 |str x=>obtain⟨t,e⟩:=(show ∃t,u=Value.str x t from r);cases e;rfl
 |byt b=>obtain⟨t,e⟩:=(show ∃t,u=Value.bytes b t from r);cases e;rfl
 |flt b=>obtain⟨t,e⟩:=(show ∃t,u=Value.float b t from r);cases e;rfl
 |ref a=>cases(show u=Value.ref a from r);rfl
 |ty n=>cases(show u=Value.type n from r);rfl
section
variable{P:Program}{w:World}{H H':Hp}{h h':Heap}{a C dx:Addr}{fs fs':List (Str×V)}
theorem wY(hok:HOk P w H h)(e:H a=some (.ins C dx fs)):∃mA,ObjM h a dx C mA/\(∀f,RelO (fs.lookup f) (mA f))/\PySem.Within mA (fs.map (·.1))/\fs.length<=1000/\H dx=some (.own a):=by
 obtain⟨d,z,ne,ob,mA,n,r,q⟩:=(show ObjOk P w H h a (.ins C dx fs)from hok a _ e)
 exact⟨mA,⟨ob,n,ne⟩,r,q,z,d⟩
end
structure Cls(K:ub)(C:Addr):Prop where
 pg:tQ K C Str.empty=true
 hd:Tc K C=true
 po:PySem.W.plainOver K C=true
 sa:u9 K (.ref C) "__setattr__"=some (some (.builtin "object.__setattr__"))
theorem Cls.get{K:ub}{C:Addr}(c:Cls K C)(f:Str):tQ K C f=true:=c.pg
def NoAttr(K:ub)(C:Addr)(f:Str):Prop:=u9 K (.ref C) f=some none
theorem NoAttr.taker{K:ub}{C:Addr}{f:Str}(n:NoAttr K C f):PySem.W.takerIn K C f=some none:=by
 unfold PySem.W.takerIn
 rw[show u9 K (.ref C) f=some none from n]
 rfl
structure Meth(K:ub)(C:Addr)(m:Str)(f:Addr):Prop where
 at_:u9 K (.ref C) m=some (some (.ref f))
 fn:PySem.W.isFn K (.ref f)=true
 kp:u0 K (.ref f)=true
section
variable{X:Cx}{pins:List (Addr×Obj)}{σ:St}{H:Hp}{s:Shared}{a C dx:Addr}{fs:List (Str×V)}{f:Str}{v:V}{A:Around}{E:Value->Shared->Prop}
theorem Yn{b:Bool}{Q:Value->Shared->Prop}(I:Inv X pins σ H s)(e:H a=some (.ins C dx fs))(c:Cls X.K C)(n:NoAttr X.K C f)(l:fs.lookup f=some v)
  (h:∀u s',Inv X pins σ H s'->RelV v u->Q u s'):wpAny (model X.prog X.w) A (getAttr (.ref a) f b) Q E s:=by
 obtain⟨mA,O,r,_,_,_⟩:=wY I.hok e
 obtain⟨u,hu,ru⟩:=RelO.some_of (v:=v) (o:=mA f) (by rw[<- l];exact r f)
 exact Qh I.kIn O (c.get f) c.hd n hu (X9 ru) (h u _ (I.tok _) ru)
theorem Yo{m:Str}{g:Addr}{pl:Sem Bool}{Q:Value×List Value->Shared->Prop}(I:Inv X pins σ H s)(e:H a=some (.ins C dx fs))(c:Cls X.K C)(k:Meth X.K C m g)(l:fs.lookup m=none)
  (h:Q (.ref g,[.ref a]) s):wpAny (model X.prog X.w) A (getMethod (.ref a) m pl) Q E s:=by
 obtain⟨mA,O,r,_,_,_⟩:=wY I.hok e
 have hn:mA m=none:=RelO.none_of (by rw[<- l];exact r m)
 exact WZ I.kIn O (c.get m) k.at_ k.fn hn h
theorem Yp{y:V}{u:Value}{Q:Unit->Shared->Prop}(I:Inv X pins σ H s)(e:H a=some (.ins C dx fs))(c:Cls X.K C)(n:NoAttr X.K C f)(hl:fs.length < 1000)(ry:RelV y u)
  (h:∀s',Inv X pins σ (upd H a (.ins C dx (putF f y fs))) s'->Q () s'):wpAny (model X.prog X.w) A (setAttr (.ref a) f u) Q E s:=by
 obtain⟨mA,O,r,wi,_,ho⟩:=wY I.hok e
 have hz:(fs.map (·.1)).length<=sizeLine:=by rw[ua,sizeLine_eq];lia
 refine Qi I.kIn O c.sa c.po n.taker c.hd wi hz fun h' O' sb=>h _ ?_
 have hd:∃o,h'.get? dx=some o:=let ⟨o,_,_,e',_⟩:=O'.ns;⟨o,e'⟩
 refine I.write (x:=a) (e:=dx) (by rw[e];exact True.intro) (.inr ho) (fun b q hb z=>(sb.2 b hb).trans z) hd ?_
 refine⟨by rw[zi O.ne];exact ho,?_,O.ne,O'.obj,_,O'.ns,fun g=>?_,fun g hg=>?_⟩
 ·have:=wS f y fs;lia
 ·show RelO ((putF f y fs).lookup g) (if g=f then some u else mA g)
  rw[wR]
  by_cases q:g=f
  ·rw[if_pos q,if_pos q];exact ry
  ·rw[if_neg q,if_neg q];exact r g
 ·by_cases q:g=f
  ·rw[q];exact(wz f y fs).1
  ·refine(wz f y fs).2 g (wi g fun z=>hg ?_)
   show(if g=f then some u else mA g)=none
   rw[if_neg q];exact z
theorem Inv.made(I:Inv X pins σ H s):Inv X pins σ (upd (upd H s.heap.objs.size (.own (s.heap.objs.size+1))) (s.heap.objs.size+1) (.ins C s.heap.objs.size []))
  { s with heap:=(s.heap.push UD).push (UV C s.heap.objs.size) }:=by
 have e1:(s.heap.push UD).get? s.heap.objs.size=some UD:=uA s.heap rfl
 have e2:((s.heap.push UD).push (UV C s.heap.objs.size)).get? (s.heap.objs.size+1)=some (UV C s.heap.objs.size):=by
  have:=uA (s.heap.push UD) (o:=UV C s.heap.objs.size) rfl
  rwa [Ut]at this
 have e3:(s.heap.push UD).Ns s.heap.objs.size (fun _=>none):=⟨UD,#[],_,e1,rfl,(fun e he=>absurd he (by simp)),fun _=>rfl⟩
 have I1:=I.laid (a:=s.heap.objs.size) (o:=.own (s.heap.objs.size+1)) (h':=s.heap.push UD) (t':=s.toks) (fun b u q=>ug _ q) (ud _) ⟨_,e1⟩
 refine I1.laid (a:=s.heap.objs.size+1) (o:=.ins C s.heap.objs.size []) (t':=s.toks) (fun b u q=>ug _ q) (Nat.le_of_eq (Ut _ _)) ?_
 have ne:s.heap.objs.size≠s.heap.objs.size+1:=uS (tR _)
 refine⟨by rw[zi ne,upd_same],uW _,ne,e2,fun _=>none,(Heap.Ns1.of_empty e3).at fun o q=>ug _ q,fun _=>True.intro,fun y hy=>absurd rfl hy⟩
theorem Qj{prog:Program}{w:World}{env:Env}{e:Expr}{f:Str}{pos:Pos}{s:Shared}{Q:Value->Shared->Prop}(hb:attributeBase e f env (eval e env)=eval e env)
  (h:wpAny (model prog w) A (eval e env) (fun o s₁=>wpAny (model prog w) A (getAttr o f true) Q E s₁) E s):wpAny (model prog w) A (eval (.Attribute e f pos) env) Q E s :=
 Attribute_any_ h (by rw[arm_eval_Attribute,hb])
end
def tFld(K:ub)(ta:TE)(f:Str):TE:=fun σ H Q=>ta σ H fun x H1=>∃a C dx fs v,x=.ref a/\H1 a=some (.ins C dx fs)/\Cls K C/\NoAttr K C f/\fs.lookup f=some v/\Q v H1
def sFld(K:ub)(ta tv:TE)(f:Str):TS:=fun D σ H=>tv σ H fun y H1=>ta σ H1 fun x H2=>∃a C dx fs,x=.ref a/\H2 a=some (.ins C dx fs)/\Cls K C/\NoAttr K C f/\fs.length < 1000 /\
 D.nx σ (upd H2 a (.ins C dx (putF f y fs)))
section
variable{X:Cx}{o e value:Expr}{f:Str}{pos pos' tpos:Pos}{ta tv:TE}
theorem zbL(he:PE X e ta)(hb:attributeBase e f X.env (eval e X.env)=eval e X.env):PE X (.Attribute e f pos) (tFld X.K ta f):=by
 intro pins s σ H Q I h
 refine Qj hb (thn (he pins s σ H _ I h) fun u s1 ⟨x,H1,I1,rx,a,C,dx,fs,v,ex,ea,c,n,l,q⟩=>?_)
 subst ex
 obtain rfl:u=Value.ref a:=rx
 exact Yn I1 ea c n l fun u' s2 I2 ru=>⟨v,H1,I2,ru,q⟩
theorem zbM(ha:PE X o ta)(hv:PE X value tv)(hs:swapsWith value (some (.Attribute o f pos')) pos.line X.env=pure false):PS X (.Assign [.Attribute o f pos'] value pos) (sFld X.K ta tv f):=by
 intro pins s σ H D I h
 refine plainObj_wpAny_Assign_Attribute (thn (hv pins s σ H _ I h) fun u s1 ⟨y,H1,I1,ry,q⟩=>thn (ha pins s1 σ H1 _ I1 q) fun ov s2 ⟨x,H2,I2,rx,a,C,dx,fs,ex,ea,c,n,l,q2⟩=>?_) hs
 subst ex
 obtain rfl:ov=Value.ref a:=rx
 exact Yp I2 ea c n l ry fun s3 I3=>⟨σ,_,I3,q2⟩
end
section
variable{X:Cx}{pins:List (Addr×Obj)}{σ:St}{H:Hp}{s:Shared}{A:Around}{E:Value->Shared->Prop}{Q:Value->Shared->Prop}{c:Value}{b:Bool}
inductive TyOf(K:ub)(H:Hp):V->Value->Prop where
 |non:TyOf K H .non (.type "NoneType")
 |bl (x:Bool):TyOf K H (.bl x) (.type "bool")
 |int (i:Int):TyOf K H (.int i) (.type "int")
 |str (x:Str):TyOf K H (.str x) (.type "str")
 |flt (x:UInt64):TyOf K H (.flt x) (.type "float")
 |lst {a:Addr} {xs:List V} (e:H a=some (.lst xs)):TyOf K H (.ref a) (.type "list")
 |frz {a:Addr} {o:Obj} {xs:List V} (e:H a=some (.frz o (.lst xs))):TyOf K H (.ref a) (.type "list")
 |tup {a:Addr} {xs:List V} (e:H a=some (.tup xs)):TyOf K H (.ref a) (.type "tuple")
 |dK {a:Addr} {kvs:List (Key×V)} (e:H a=some (.dK kvs)):TyOf K H (.ref a) (.type "dict")
 |dT {a:Addr} {kvs:List (List Key×V)} (e:H a=some (.dT kvs)):TyOf K H (.ref a) (.type "dict")
 |ins {a C dx:Addr} {fs:List (Str×V)} (e:H a=some (.ins C dx fs)) (cl:Cls K C) (ha:u9 K (.ref C) "__class__"=some (some (.builtin "object.__class__")))
   (hn:PySem.W.specialIn K (.builtin "object.__class__") "__get__"=some (some (.builtin "getset_descriptor.__get__"))) (htk:PySem.W.takesIn K (.builtin "object.__class__")=some true)
   (hm:PySem.W.mroIn K C (.type "object")=some true):TyOf K H (.ref a) (.ref C)
theorem Wa{x:V}{u t:Value}(I:Inv X pins σ H s)(rx:RelV x u)(ty:TyOf X.K H x t)(e:PySem.W.kitOne X.K t c=some b)(h:∀tk,Q (.bool b) { s with toks:=tk }):
  wpAny (model X.prog X.w) A (call (.builtin "isinstance") [u,c]) Q E s:=by
 cases ty with
 |non=>cases(show u=Value.none from rx);exact Uz PySem.W.kitx_none I.kIn True.intro e (fun z=>nomatch z) h
 |bl y=>cases(show u=Value.bool y from rx);exact Uz PySem.W.kitx_bool I.kIn True.intro e (fun z=>nomatch z) h
 |int i=>obtain⟨t,q⟩:=(show ∃t,u=Value.int i t from rx);cases q;exact Uz PySem.W.kitx_int I.kIn True.intro e (fun z=>nomatch z) h
 |str y=>obtain⟨t,q⟩:=(show ∃t,u=Value.str y t from rx);cases q;exact Uz PySem.W.kitx_str I.kIn True.intro e (fun z=>nomatch z) h
 |flt y=>obtain⟨t,q⟩:=(show ∃t,u=Value.float y t from rx);cases q;exact Uz PySem.W.kitx_float I.kIn True.intro e (fun z=>nomatch z) h
 |@lst a xs ea =>
  cases(show u=Value.ref a from rx)
  obtain⟨_,_,n,_,h1⟩:=(show ObjOk X.prog X.w H s.heap a (.lst xs)from I.hok a _ ea)
  exact Uz PySem.W.kitx_list I.kIn ⟨_,h1,rfl⟩ e (fun z=>nomatch z) h
 |@frz a ob xs ea =>
  cases(show u=Value.ref a from rx)
  obtain⟨_,_,_,n,_,h1⟩:=(show ObjOk X.prog X.w H s.heap a (.frz ob (.lst xs))from I.hok a _ ea)
  exact Uz PySem.W.kitx_list I.kIn ⟨_,h1,rfl⟩ e (fun z=>nomatch z) h
 |@tup a xs ea =>
  cases(show u=Value.ref a from rx)
  obtain⟨_,_,_,p⟩:=(show ObjOk X.prog X.w H s.heap a (.tup xs)from I.hok a _ ea)
  obtain⟨o,h1,h2,_⟩:=p
  exact Uz PySem.W.kitx_tuple I.kIn ⟨o,h1,h2⟩ e (fun z=>nomatch z) h
 |@dK a kvs ea =>
  cases(show u=Value.ref a from rx)
  obtain⟨_,_,vs,_,p⟩:=(show ObjOk X.prog X.w H s.heap a (.dK kvs)from I.hok a _ ea)
  obtain⟨o,es,ep,h1,h2,_⟩:=p
  exact Uz PySem.W.kitx_dict I.kIn ⟨o,h1,h2.1⟩ e (fun z=>nomatch z) h
 |@dT a kvs ea =>
  cases(show u=Value.ref a from rx)
  obtain⟨_,_,xs,_,o,es,ep,h1,h2,_⟩:=(show ObjOk X.prog X.w H s.heap a (.dT kvs)from I.hok a _ ea)
  exact Uz PySem.W.kitx_dict I.kIn ⟨o,h1,h2.1⟩ e (fun z=>nomatch z) h
 |@ins a C dx fs ea cl ha hn htk hm =>
  cases(show u=Value.ref a from rx)
  obtain⟨mA,O,_⟩:=wY I.hok ea
  obtain⟨od,J,_⟩:=O.look
  exact Uz (PySem.W.kitx_own (cl.get _) cl.hd ha hn htk hm) I.kIn J e (fun z=>nomatch z) h
end
structure Room(k:Nat)(A:Around):Prop where
 hd:A.handled=none
 dp:A.depth+3*k+5 < recursionLimit
 un:A.units+16*k+200 < cLine
theorem Room.mono{j k:Nat}{A:Around}(r:Room k A)(h:j<=k):Room j A:=⟨r.hd,by have:=r.dp;lia,by have:=r.un;lia⟩
theorem Room.deeper{k:Nat}{A:Around}(r:Room (k+1) A)(env:Env):Room k (A.deeper env) :=
 ⟨r.hd,by have:=r.dp;show A.depth+1+3*k+5 < _;lia,by have:=r.un;show A.units+3+16*k+200 < _;lia⟩
theorem Yq{A:Around}{C:Addr}{us:List Value}{kw:List (Str×Value)}:(A.under (.builtin "type.__call__" ⟨.ref C::us,kw⟩)).depth=A.depth+1:=by
 first|rfl|simp[Around.under,Code.weight,Code.isCreation,Code.isGuard,Code.isCaller,Code.frames,Code.isFrame,guardIds]
theorem Yr{A:Around}{C:Addr}{us:List Value}{kw:List (Str×Value)}:(A.under (.builtin "type.__call__" ⟨.ref C::us,kw⟩)).units=A.units+1:=by
 first|rfl|simp[Around.under,Code.cUnits,Code.frames,Code.isFrame]
theorem Room.make{k:Nat}{A:Around}(r:Room (k+1) A)(C:Addr)(us:List Value)(kw:List (Str×Value)):Room k (A.under (.builtin "type.__call__" ⟨.ref C::us,kw⟩)) :=
 ⟨r.hd,by have:=r.dp;rw[Yq];lia,by have:=r.un;rw[Yr];lia⟩
theorem Room.depth{k:Nat}{A:Around}(r:Room k A):A.depth < recursionLimit:=by have:=r.dp;lia
theorem Room.units{k:Nat}{A:Around}(r:Room k A):A.units+64 < cLine:=by have:=r.un;lia
theorem Room.units0{k:Nat}{A:Around}(r:Room k A):A.units < cLine:=by have:=r.un;lia
def tNil:TA:=fun _ H Q=>Q [] H
def zQ(ta:TE)(tr:TA):TA:=fun σ H Q=>ta σ H fun x H1=>tr σ H1 fun xs H2=>Q (x::xs) H2
section
variable{X:Cx}{e:Expr}{es:List Expr}{te:TE}{t:TA}{pos:Pos}
theorem zbN:PA X [] tNil:=fun _ _ _ _ H Q I h=>Calls.spliced_nil ⟨[],H,I,.nil,h⟩
theorem Qk(ha:PE X e te)(hr:PA X es t)(hs:starEach (e::es) X.env=(false,eval e X.env)::starEach es X.env:=by rfl):PA X (e::es) (zQ te t):=by
 intro pos pins s σ H Q I h
 rw[hs]
 show wpAny _ _ (spliced ((false,eval e X.env)::backTo pos (starEach es X.env))) _ _ s
 refine Calls.spliced_cons (thn (ha pins s σ H _ I h) fun u s1 ⟨x,H1,I1,r1,q1⟩=>?_)
 exact thn (hr pos pins s1 σ H1 _ I1 q1) fun us s2 ⟨xs,H2,I2,r2,q2⟩=>⟨x::xs,H2,I2,.cons r1 r2,q2⟩
def tTup(t:TA):TE:=fun σ H Q=>t σ H fun xs H1=>xs.length<=sizeLine/\∀p,H1 p=none->Q (.ref p) (upd H1 p (.tup xs))
def tLst(t:TA):TE:=fun σ H Q=>t σ H fun xs H1=>xs.length<=sizeLine/\∀p,H1 p=none->Q (.ref p) (upd H1 p (.lst xs))
theorem zbO{x1}(h:PA X es t):PE X (.Tuple es x1 pos) (tTup t):=by
 intro pins s σ H Q I hq
 refine wpAny_Tuple_spliced (thn (h pos pins s σ H _ I hq) fun us s1 ⟨xs,H1,I1,r,z,q⟩=>⟨by rw[<- r.length];exact z,?_⟩)
 have hf:H1 s1.heap.objs.size=none:=I1.hok.fresh (ud _)
 refine⟨.ref s1.heap.objs.size,upd H1 s1.heap.objs.size (.tup xs),I1.laid (t':=s1.toks) (fun b u e=>ug _ e) (ud _) ?_,rfl,q _ hf⟩
 exact⟨z,us,r,⟨_,uA _ rfl,rfl,rfl,_,rfl⟩⟩
theorem zbP(h:PA X es t):PE X (.List es pos) (tLst t):=by
 intro pins s σ H Q I hq
 refine wpAny_List_spliced (thn (h pos pins s σ H _ I hq) fun us s1 ⟨xs,H1,I1,r,z,q⟩=>⟨by rw[<- r.length];exact z,?_⟩)
 have hf:H1 s1.heap.objs.size=none:=I1.hok.fresh (ud _)
 refine⟨.ref s1.heap.objs.size,upd H1 s1.heap.objs.size (.lst xs),I1.laid (t':=s1.toks) (fun b u e=>ug _ e) (ud _) ?_,rfl,q _ hf⟩
 exact⟨z,us,0,r,uA _ rfl⟩
end
abbrev Sp:=List V->Hp->VK->XK->Prop
abbrev CXT:=List Env->Hp->Shared->XK->Value->Shared->Prop
structure Env0(P:Program)(w:World)(K:ub)(mg:Str->Option Value)(base:Heap)(A:Around)(outer:List Env)(s:Shared)(H:Hp):Prop where
 frames:A.frames=some outer
 mod:Mod K mg base
 bs:∀b o,base.get? b=some o->s.heap.get? b=some o/\H b=none
 bsz:base.objs.size<=s.heap.objs.size
 funs:s.heap.FunFrames base outer
 frf:∀b∈frs outer,H b=none
 hok:HOk P w H s.heap
 bare:AllBare s.gens
def CE(outer:List Env)(P:Program)(w:World)(H:Hp)(s:Shared)(Q:VK)(u:Value)(s':Shared):Prop :=
 ∃v H',s'.os=s.os/\AllBare s'.gens/\Un (frs outer) [] H H' s.heap s'.heap/\HOk P w H' s'.heap/\RelV v u/\Q v H'
def CR(CX:CXT)(outer:List Env)(P:Program)(w:World)(H:Hp)(s:Shared)(Q:VK)(E:XK)(r:Result)(s':Shared):Prop :=
 match r with
 |.ok (.ret u)=>CE outer P w H s Q u s'
 |.ok _=>False
 |.error e=>CX outer H s E e s'
structure FnOk(P:Program)(w:World)(K:ub)(mg:Str->Option Value)(base:Heap)(CX:CXT)(k:Nat)(f:Addr)(fd:FuncData)(ps:List Str)(sp:Sp):Prop where
 len:∀vs H Q E,sp vs H Q E->vs.length=ps.length
 run:∀(A:Around)(outer:List Env)(s:Shared)(H:Hp)(args:Args)(us:List Value)(vs:List V)(Q:VK)(E:XK),Room k A->Env0 P w K mg base A outer s H->BindsTo s fd args (ps.zip us)->Vals vs us->sp vs H Q E ->
  codeAny (model P w) A (.call (.ref f) args) (CR CX outer P w H s Q E) s
theorem FnOk.mono{P:Program}{w:World}{K:ub}{mg:Str->Option Value}{base:Heap}{CX:CXT}{j k:Nat}{f:Addr}{fd:FuncData}{ps:List Str}{sp:Sp}(F:FnOk P w K mg base CX j f fd ps sp)(h:j<=k):
  FnOk P w K mg base CX k f fd ps sp:=⟨F.len,fun A outer s H args us vs Q E hr=>F.run A outer s H args us vs Q E (hr.mono h)⟩
theorem Env0.make{P:Program}{w:World}{K:ub}{mg:Str->Option Value}{base:Heap}{A:Around}{outer:List Env}{s:Shared}{H:Hp}(e:Env0 P w K mg base A outer s H)(C:Addr)(us:List Value)(kw:List (Str×Value)):
  Env0 P w K mg base (A.under (.builtin "type.__call__" ⟨.ref C::us,kw⟩)) outer s H:=⟨by first|exact e.frames|(simpa[Around.under,Code.envs,Code.isFrame,pushEnvs]using e.frames),e.mod,e.bs,e.bsz,e.funs,e.frf,e.hok,e.bare⟩
section
variable{X:Cx}{pins:List (Addr×Obj)}{σ:St}{H:Hp}{s s':Shared}
theorem Inv.env0(I:Inv X pins σ H s):Env0 X.prog X.w X.K X.mg X.base X.A X.stack s H :=
 ⟨I.ok.frames,I.ok.mod,I.bs,Uc I.ok.bsz I.sz,I.stack,I.stkFree,I.hok,I.bare⟩
theorem Inv.after{Q:VK}{u:Value}(I:Inv X pins σ H s)(h:CE X.stack X.prog X.w H s Q u s'):EP X pins σ Q u s':=by
 obtain⟨v,H',os,bare,un,hok,r,q⟩:=h
 obtain⟨hh,g,d,t,os'⟩:=s'
 obtain rfl:os'=s.os:=os
 exact⟨v,H',I.call (h':=hh) (g':=g) (d':=d) (t':=t) (ch:=[]) un hok bare (fun b z=>absurd z (by simp)),r,q⟩
end
def Zx(sp:Sp)(dvs:List V)(E:XK)(t:TA):TE:=fun σ H Q=>t σ H fun vs H1=>sp (vs++dvs) H1 Q E
def zaZ(C:Addr)(m:Str)(sp:Sp)(dvs:List V)(E:XK)(ta:TE)(t:TA):TE:=fun σ H Q=>ta σ H fun x H1=>∃a dx fs,x=.ref a/\H1 a=some (.ins C dx fs)/\fs.lookup m=none /\
 t σ H1 fun vs H2=>sp (x::(vs++dvs)) H2 Q E
def Xi(C:Addr)(sp:Sp)(dvs:List V)(E:XK)(t:TA):TE:=fun σ H Q=>t σ H fun vs H1=>∀x dx,H1 x=none->H1 dx=none->dx≠x ->
 sp (.ref x::(vs++dvs)) (upd (upd H1 dx (.own x)) x (.ins C dx [])) (fun v H2=>v=.non/\Q (.ref x) H2) E
def Binds(K:ub)(fd:FuncData)(ps:List Str)(ds:List Value):Prop :=
 ∀(s:Shared)(us:List Value),K.In s.heap->(us++ds).length=ps.length->BindsTo s fd ⟨us,[]⟩ (ps.zip (us++ds))
theorem Binds.all{K:ub}{fd:FuncData}{ps:List Str}(h:∀us:List Value,us.length=ps.length->bindArgs fd ⟨us,[]⟩=pure (ps.zip us)):Binds K fd ps []:=fun s us _ hl=>by
 rw[ux]at hl ⊢
 exact .of_eq (h us hl)
def yw(CX:CXT)(X:Cx)(E:XK):Prop:=∀(pins:List (Addr×Obj))(σ:St)(H:Hp)(s:Shared)(e:Value)(s':Shared),Inv X pins σ H s->CX X.stack H s E e s'->X.xe e s'
section
variable{X:Cx}{CX:CXT}{k:Nat}{f C:Addr}{fd:FuncData}{ps:List Str}{sp:Sp}{dvs:List V}{ds:List Value}{E:XK}{x m:Str}{p pos apos:Pos}{e o:Expr}{es:List Expr}{ta:TE}{t:TA}
theorem jQ{pins:List (Addr×Obj)}{σ:St}{H:Hp}{s:Shared}{Q:VK}{us:List Value}{vs:List V}(F:FnOk X.prog X.w X.K X.mg X.base CX k f fd ps sp)(hr:Room k X.A)(hb:Binds X.K fd ps ds)(hd:Vals dvs ds)(hx:yw CX X E)
  (I:Inv X pins σ H s) (r:Vals vs us) (h:sp (vs++dvs) H Q E):wpAny (model X.prog X.w) X.A (call (.ref f) us) (EP X pins σ Q) X.xe s:=by
 have r2:Vals (vs++dvs) (us++ds):=r.append hd
 have hl:(us++ds).length=ps.length:=by rw[<- r2.length];exact F.len _ _ _ _ h
 refine wpAny_call (codeAny_mono (F.run X.A X.stack s H ⟨us,[]⟩ (us++ds) (vs++dvs) Q E hr I.env0 (hb s us I.kIn hl) r2 h) fun r s' hq=>?_)
 cases r with
 |error e=>exact hx pins σ H s e s' I hq
 |ok fl =>
  cases fl with
  |ret u=>exact I.after hq
  |next=>exact False.elim hq
  |brk=>exact False.elim hq
  |cont=>exact False.elim hq
theorem Ql(F:FnOk X.prog X.w X.K X.mg X.base CX k f fd ps sp)(hr:Room k X.A)(hg:Gl X x)(hm:X.mg x=some (.ref f))(hk:u0 X.K (.ref f)=true)(hb:Binds X.K fd ps ds)(hd:Vals dvs ds)(hx:yw CX X E)
  (ha:PA X (e::es) t) (hdb:(x == ("__debug__":Str))=false:=by decide) (he:starEach (e::es) X.env=(false,eval e X.env)::starEach es X.env:=by rfl) (hpl:(backTo pos (starEach es X.env)).any (·.1)=false:=by rfl) :
  PE X (.Call (.Name x p) (e::es) [] pos) (Zx sp dvs E t):=by
 intro pins s σ H Q I h
 refine wpAny_Call_Name_kw (xS I hg hm ?_ hdb)
 refine tJ (h₀:=X.base) I.ok.mod.kin hk (thn (ha pos pins s σ H _ I h) fun us s1 ⟨vs,H1,I1,r,q⟩=>⟨I1.kIn,?_⟩) he hpl
 exact jQ F hr hb hd hx I1 r q
theorem Qm{pl:Sem Bool}(he:PE X o ta)(c:Cls X.K C)(hm:Meth X.K C m f)(F:FnOk X.prog X.w X.K X.mg X.base CX k f fd ps sp)(hr:Room k X.A)(hb:Binds X.K fd ps ds)(hd:Vals dvs ds)(hx:yw CX X E)(ha:PA X (e::es) t)
  (hst:starEach (e::es) X.env=(false,eval e X.env)::starEach es X.env:=by rfl) (hpl:(backTo pos (starEach es X.env)).any (·.1)=false:=by rfl)
  (ht:eval (.Call (.Attribute o m apos) (e::es) [] pos) X.env=(do
   let ov <- eval o X.env
   standAt apos.atName
   let (f,first) <- holding [ov] (getMethod ov m pl)
   callWith pos f first (backTo pos (starEach (e::es) X.env)) (backToKw pos (keywordEach [] X.env))):=by rfl) :
  PE X (.Call (.Attribute o m apos) (e::es) [] pos) (zaZ C m sp dvs E ta t):=by
 intro pins s σ H Q I h
 refine PySem.W.methodCall_KW (pl:=pl) (thn (he pins s σ H _ I h) fun u s1 ⟨x,H1,I1,rx,a,dx,fs,ex,ea,l,q⟩=>?_) ht
 subst ex
 obtain rfl:u=Value.ref a:=rx
 refine Yo I1 ea c hm l ?_
 refine tJ (first:=[.ref a]) (h₀:=X.base) I.ok.mod.kin hm.kp (thn (ha pos pins s1 σ H1 _ I1 q) fun us s2 ⟨vs,H2,I2,r,q2⟩=>⟨I2.kIn,?_⟩) hst hpl
 exact jQ (us:=.ref a::us) (vs:=.ref a::vs) F hr hb hd hx I2 (.cons rfl r) q2
structure Mk(K:ub)(C f:Addr):Prop where
 makes:PySem.W.makesIn K C=true
 init:u9 K (.ref C) "__init__"=some (some (.ref f))
 fn:PySem.W.isFn K (.ref f)=true
 kp:u0 K (.ref C)=true
theorem Zy{pins:List (Addr×Obj)}{σ:St}{H:Hp}{s:Shared}{Q:VK}{us:List Value}{vs:List V}(M:Mk X.K C f)(F:FnOk X.prog X.w X.K X.mg X.base CX k f fd ps sp)(hr:Room (k+1) X.A)(hb:Binds X.K fd ps ds)(hd:Vals dvs ds)
  (hx:yw CX X E) (I:Inv X pins σ H s) (r:Vals vs us)
  (h:∀x dx,H x=none->H dx=none->dx≠x->sp (.ref x::(vs++dvs)) (upd (upd H dx (.own x)) x (.ins C dx [])) (fun v H2=>v=.non/\Q (.ref x) H2) E) :
  wpAny (model X.prog X.w) X.A (call (.ref C) us) (EP X pins σ Q) X.xe s:=by
 have hq:=h (s.heap.objs.size+1) s.heap.objs.size (I.hok.fresh (tj _)) (I.hok.fresh (ud _)) (uS (tR _))
 have I2:=Inv.made (C:=C) I
 have r2:Vals (V.ref (s.heap.objs.size+1)::(vs++dvs)) (Value.ref (s.heap.objs.size+1)::(us++ds)):=.cons rfl (r.append hd)
 have hl:(Value.ref (s.heap.objs.size+1)::us++ds).length=ps.length:=by
  have e:=r2.length
  rw[F.len _ _ _ _ hq]at e
  exact e.symm
 refine wpAny_call (W0 (f:=f) I.kIn M.makes M.init (beq_iff_eq.mp M.fn) (codeAny_mono (F.run _ X.stack _ _ ⟨Value.ref (s.heap.objs.size+1)::us,[]⟩ (Value.ref (s.heap.objs.size+1)::(us++ds)) _ _ E (hr.make C us [])
  (I2.env0.make C us []) (hb _ (Value.ref (s.heap.objs.size+1)::us) I2.kIn hl) r2 hq) fun r s' hq'=>?_))
 cases r with
 |error e=>exact hx pins σ _ _ e s' I2 hq'
 |ok fl =>
  cases fl with
  |ret u =>
   obtain⟨v,H',I3,rv,ev,q3⟩:=I2.after hq'
   subst ev
   exact⟨rv,⟨V.ref (s.heap.objs.size+1),H',I3,rfl,q3⟩⟩
  |next=>exact False.elim hq'
  |brk=>exact False.elim hq'
  |cont=>exact False.elim hq'
theorem Qn(M:Mk X.K C f)(F:FnOk X.prog X.w X.K X.mg X.base CX k f fd ps sp)(hr:Room (k+1) X.A)(hg:Gl X x)(hm:X.mg x=some (.ref C))(hb:Binds X.K fd ps ds)(hd:Vals dvs ds)(hx:yw CX X E)
  (ha:PA X (e::es) t) (hdb:(x == ("__debug__":Str))=false:=by decide) (he:starEach (e::es) X.env=(false,eval e X.env)::starEach es X.env:=by rfl) (hpl:(backTo pos (starEach es X.env)).any (·.1)=false:=by rfl) :
  PE X (.Call (.Name x p) (e::es) [] pos) (Xi C sp dvs E t):=by
 intro pins s σ H Q I h
 refine wpAny_Call_Name_kw (xS I hg hm ?_ hdb)
 refine tJ (h₀:=X.base) I.ok.mod.kin M.kp (thn (ha pos pins s σ H _ I h) fun us s1 ⟨vs,H1,I1,r,q⟩=>⟨I1.kIn,?_⟩) he hpl
 exact Zy M F hr hb hd hx I1 r q
theorem W1(M:Mk X.K C f)(F:FnOk X.prog X.w X.K X.mg X.base CX k f fd ps sp)(hr:Room (k+1) X.A)(hg:Gl X x)(hm:X.mg x=some (.ref C))(hb:Binds X.K fd ps ds)(hd:Vals dvs ds)(hx:yw CX X E)
  (hdb:(x == ("__debug__":Str))=false:=by decide):PE X (.Call (.Name x p) [] [] pos) (Xi C sp dvs E tNil):=by
 intro pins s σ H Q I h
 refine wpAny_Call_Name_kw (xS I hg hm ?_ hdb)
 exact PySem.W.callWith_K0 I.kIn M.kp (Zy (us:=[]) M F hr hb hd hx I .nil h)
end
section
variable{X:Cx}{CX:CXT}{k:Nat}{f C:Addr}{fd:FuncData}{ps ks:List Str}{sp:Sp}{E:XK}{x m:Str}{p pos apos kpos:Pos}{e o:Expr}{es:List Expr}{kws:List Keyword}{te ta:TE}{t tk:TA}{nm:Option Str}
variable{g:List Value->List Value->List Value}{gV:List V->List V->List V}
end
structure FnScope(N P:List Str)(sc:Scope):Prop where
 kind:sc.kind=.function
 co:sc.isCoroutine=false
 gen:sc.isGenerator=false
 nd:N.Nodup
 pre:N.take P.length=P
 par:∀x∈P,sc.names.lookup x=some .local\/sc.names.lookup x=some .cell
 nofree:∀y∈sc.names,y.2≠.free
theorem FnScope.ok{N P:List Str}{sc:Scope}(a:N.Nodup:=by decide +kernel)(b:∀x∈P,sc.names.lookup x=some .local\/sc.names.lookup x=some .cell:=by decide +kernel)(c:∀y∈sc.names,y.2≠.free:=by decide +kernel)(d:sc.kind=.function:=by rfl)(e:sc.isCoroutine=false:=by rfl)(f:sc.isGenerator=false:=by rfl)(g:N.take P.length=P:=by rfl):FnScope N P sc:=⟨d,e,f,a,g,b,c⟩
theorem jf{kindOf:Str->Option NameKind}{x:Str}:∀{binds:List (Str×Value)}{m:Str->Option Value},(∀v,(x,v)∉binds)->bindL kindOf binds m x=m x
 |[],_,_=>rfl
 | (n,v)::r,m,h=>by
  unfold bindL
  rw[jf fun w hw=>h w (uD _ hw)]
  split
  ·have:x≠n:=by rintro rfl;exact h v uK
   simp[this]
  ·rfl
theorem jg{kindOf:Str->Option NameKind}{x:Str}:∀{binds:List (Str×Value)}{m:Str->Option Value},(∀v,(x,v)∉binds)->bindC kindOf binds m x=m x
 |[],_,_=>rfl
 | (n,v)::r,m,h=>by
  unfold bindC
  rw[jg fun w hw=>h w (uD _ hw)]
  split
  ·rfl
  ·have:x≠n:=by rintro rfl;exact h v uK
   simp[this]
theorem jh{kindOf:Str->Option NameKind}{x:Str}{v:Value}:∀{P:List Str}{vs:List Value}{i:Nat}{m:Str->Option Value},P.Nodup->P[i]?=some x->vs[i]?=some v->kindOf x=some .local ->
  bindL kindOf (P.zip vs) m x=some v
 |[],_,_,_,_,h,_,_=>by simp at h
 |_::_,[],_,_,_,_,h,_=>by simp at h
 |p::P,w::vs,0,m,nd,h1,h2,hk=>by
  simp at h1 h2;subst h1;subst h2
  show bindL kindOf ((p,w)::P.zip vs) m p=_
  unfold bindL
  rw[jf fun v hv=>(Ub.mp nd).1 (UI hv).1,if_pos hk]
  simp
 |p::P,w::vs,i+1,m,nd,h1,h2,hk=>by
  show bindL kindOf ((p,w)::P.zip vs) m x=_
  unfold bindL
  exact jh (i:=i) (Ub.mp nd).2 (by simpa using h1) (by simpa using h2) hk
theorem ji{kindOf:Str->Option NameKind}{x:Str}{v:Value}:∀{P:List Str}{vs:List Value}{i:Nat}{m:Str->Option Value},P.Nodup->P[i]?=some x->vs[i]?=some v->kindOf x≠some .local ->
  bindC kindOf (P.zip vs) m x=some v
 |[],_,_,_,_,h,_,_=>by simp at h
 |_::_,[],_,_,_,_,h,_=>by simp at h
 |p::P,w::vs,0,m,nd,h1,h2,hk=>by
  simp at h1 h2;subst h1;subst h2
  show bindC kindOf ((p,w)::P.zip vs) m p=_
  unfold bindC
  rw[jg fun v hv=>(Ub.mp nd).1 (UI hv).1,if_neg hk]
  simp
 |p::P,w::vs,i+1,m,nd,h1,h2,hk=>by
  show bindC kindOf ((p,w)::P.zip vs) m x=_
  unfold bindC
  exact ji (i:=i) (Ub.mp nd).2 (by simpa using h1) (by simpa using h2) hk
def start(N:List Str)(vs:List V):St:=vs.map some++uT (N.length-vs.length) none
def cxOf(CX:CXT)(P:Program)(w:World)(K:ub)(mg:Str->Option Value)(base:Heap)(N:List Str)(qual:Str)(scope:Scope)(f:Addr)(cd:Value)(A:Around)(outer:List Env)(s:Shared)(H:Hp)(E:XK):Cx where
 prog:=P
 w:=w
 K:=K
 mg:=mg
 base:=base
 A:=A.deeper (envOfC qual scope s.heap.objs.size f cd)
 N:=N
 s₀:=s
 H₀:=H
 env:=envOfC qual scope s.heap.objs.size f cd
 outer:=outer
 stack:=envOfC qual scope s.heap.objs.size f cd::outer
 ex:=[]
 calm:=true
 fn:=fun _=>true
 pn:=[]
 xe:=fun e s'=>wpAny (model P w) (A.deeper (envOfC qual scope s.heap.objs.size f cd)) (leaving (envOfC qual scope s.heap.objs.size f cd) e) (fun _ s''=>CX outer H s E e s'') (fun e' s''=>CX outer H s E e' s'') s'
theorem Zz{sc:Scope}{n:Nat}{x:Str}(h:sc.names.lookup x=some .cell):∃c,(cellsFrom n sc.names []).lookup x=some c:=by
 have q:=Td sc.names n [] (.inl h)
 exact tX.mp q
theorem jj{CX:CXT}{P:Program}{w:World}{K:ub}{mg:Str->Option Value}{base:Heap}{N ps:List Str}{qual:Str}{scope:Scope}{f:Addr}{cd:Value}{A:Around}{outer:List Env}{s s1:Shared}{H:Hp}{E:XK}{us:List Value}{vs:List V}
  (S:FnScope N ps scope) (hd:A.handled=none) (e0:Env0 P w K mg base A outer s H) (hl:vs.length=ps.length) (r:Vals vs us)
  (x:InCallC s s.heap.objs.size (bindL (envOfC qual scope s.heap.objs.size f cd).kindOf (ps.zip us) fun _=>none) (cellsFrom (s.heap.objs.size+1) scope.names []) (bindC (envOfC qual scope s.heap.objs.size f cd).kindOf (ps.zip us) fun _=>none) s1) :
  Inv (cxOf CX P w K mg base N qual scope f cd A outer s H E) [] (start N vs) H s1:=by
 have hpl:ps.length<=N.length:=by have:=congrArg Tb S.pre;rw[uN]at this;lia
 obtain⟨h1,tk,rfl,hk⟩:=x.done
 have noA:∀b:Addr,b∉(cxOf CX P w K mg base N qual scope f cd A outer s H E).ex:=fun b z=>absurd (show b∈([]:List Addr)from z) (by simp)
 refine⟨⟨e0.mod,S.kind,rfl,rfl,ud _,fun y z c h1 h2=>?_,fun y hy=>?_,fun y c _ h=>?_,fun _=>hd,Around.frames_deeper e0.frames,.inr ⟨rfl,rfl⟩,fun b z=>absurd z (noA b),e0.bs,e0.bsz,fun b _ _=>noA b,fun b z=>absurd z (noA b),e0.funs,e0.frf⟩,
  rfl,e0.bare,Un.kept hk,⟨_,x.toInCall.ns,fun i y v h1 h2 h3=>?_⟩,fun y c h=>⟨_,x.cell y c h⟩,e0.hok.fresh (ud _),fun y c h=>?_,fun p hp=>absurd (show p∈([]:List (Addr×Obj))from hp) (by simp),e0.hok.kept hk,?_⟩
 ·exact name_of_addr x.apart (u6 h1) (u6 h2)
 ·have hy:scope.names.lookup y=some .cell\/scope.names.lookup y=some .free:=hy
  rcases hy with hy|hy
  ·exact Zz hy
  ·exact absurd rfl (S.nofree _ (u6 hy))
 ·exact Nat.le_of_lt (x.above y c (u6 h))
 ·have hi:i < vs.length:=by
   unfold start at h2
   by_cases hi:i < vs.length
   ·exact hi
   ·rw[Ug (by simpa using hi)]at h2
    rw[List.getElem?_replicate]at h2
    split at h2<;>cases h2
  have ha:vs[i]?=some v:=by
   unfold start at h2
   rw[uX (by simpa using hi),ue]at h2
   cases e:vs[i]? with
   |none=>rw[e]at h2;cases h2
   |some a=>rw[e]at h2;cases h2;rfl
  obtain⟨u,hu,rv⟩:=r.get ha
  have hp:ps[i]?=some y:=by
   rw[<- S.pre,List.getElem?_take_of_lt (by lia)];exact h1
  have ndP:ps.Nodup:=by rw[<- S.pre];exact S.nd.sublist (List.take_sublist _ _)
  refine⟨u,rv,?_⟩
  rcases S.par y (uq hp)with k|k
  ·exact .inl ⟨k,jh ndP hp hu k⟩
  ·obtain⟨c,e⟩:=Zz (n:=s.heap.objs.size+1) k
   refine .inr ⟨.inl k,c,e,?_⟩
   have q:=x.cell y c e
   rw[ji ndP hp hu (by show scope.names.lookup y≠_;rw[k];decide)]at q
   exact q
 ·exact e0.hok.fresh (Nat.le_of_lt (x.above y c (u6 h)))
 ·unfold start
  show _=N.length
  rw[uf,ua,UE]
  lia
theorem za0{CX:CXT}{P:Program}{w:World}{K:ub}{mg:Str->Option Value}{base:Heap}{k:Nat}{f:Addr}{name qual:Str}{params:Arguments}{body:List Stmt}{scope:Scope}{dV kV doc pm cdv ct oc:Value}{an od:Option Addr}
  {osl:Array (Option Value)} {N ps:List Str} {sp:Sp} (lk:K.lookup f=some ⟨oc,od,.func (Ui name qual params body scope dV kV doc pm an cdv ct),osl⟩) (hcd:UM K cdv qual=true) (S:FnScope N ps scope)
  (len:∀vs H Q E,sp vs H Q E->vs.length=ps.length)
  (hbody:∀(A:Around)(outer:List Env)(s:Shared)(H:Hp)(vs:List V)(Q:VK)(E:XK),Room k (A.deeper (envOfC qual scope s.heap.objs.size f cdv))->sp vs H Q E ->
   ∃t,PSs (cxOf CX P w K mg base N qual scope f cdv A outer s H E) body t/\t { nx:=fun _ H'=>Q .non H',rt:=Q } (start N vs) H) :
  FnOk P w K mg base CX (k+1) f (Ui name qual params body scope dV kV doc pm an cdv ct) ps sp:=by
 refine⟨len,fun A outer s H args us vs Q E hr e0 hb r hsp=>?_⟩
 have hl:=len _ _ _ _ hsp
 have KX:K.In s.heap:=e0.mod.kin.keeps fun b o e=>(e0.bs b o e).1
 have lim:s.heap.NoLimit:=e0.mod.nolimit.keeps fun b o e=>(e0.bs b o e).1
 have hkind:∀y∈ps.zip us,scope.names.lookup y.1=some .local\/(scope.names.lookup y.1=some .cell/\((cellsFrom (s.heap.objs.size+1) scope.names []).lookup y.1).isSome=true):=fun⟨n,v⟩ hy=>by
  rcases S.par n (UI hy).1 with q|q
  ·exact .inl q
  ·exact .inr ⟨q,Td _ _ _ (.inl q)⟩
 refine codeAny_call_function hr.depth (KX _ _ lk) rfl S.co S.gen rfl (PySem.W.codeRec_of KX hcd) (hb _ _ _ _ ?_)
 refine wpAny_newFunctionEnv_cells S.kind hkind fun env he s1 x=>?_
 subst he
 refine⟨lim.keeps x.toInCall.keep,codeAny_func ?_⟩
 obtain⟨t,ht,hq⟩:=hbody A outer s H vs Q E (hr.deeper _) hsp
 have I:Inv (cxOf CX P w K mg base N qual scope f cdv A outer s H E) [] (start N vs) H s1:=jj S hr.hd e0 hl r x
 refine wpAny_mono (ht [] s1 (start N vs) H _ I hq) (fun fl s' hs=>?_) fun e s' hs=>hs
 have fin:∀{σ':St}{H':Hp}{v:V}{u:Value},Inv (cxOf CX P w K mg base N qual scope f cdv A outer s H E) [] σ' H' s'->RelV v u->Q v H'->CE outer P w H s Q u s' :=
  fun{σ' H' v u} J rv q=>⟨v,H',J.os,J.bare,J.base,J.hok,rv,q⟩
 cases fl with
 |ret u =>
  obtain⟨v,σ',H',J,rv,q⟩:=hs
  exact fin J rv q
 |next =>
  obtain⟨σ',H',J,q⟩:=hs
  exact fin (v:=V.non) (u:=Value.none) J rfl q
 |brk =>
  obtain⟨_,_,_,q⟩:=hs
  exact False.elim q
 |cont =>
  obtain⟨_,_,_,q⟩:=hs
  exact False.elim q
section
variable{X:Cx}{x:Str}{p pos:Pos}{e:Expr}{es:List Expr}{t:TA}{id T:String}{r:List V->Hp->VK->Prop}
def tCB(r:List V->Hp->VK->Prop)(t:TA):TE:=fun σ H Q=>t σ H fun vs H1=>r vs H1 Q
theorem W3(hc:xm X (.builtin id) r)(hg:Gl X x)(hm:X.mg x=none)(hv:bootBuiltins x=some (.builtin id))(ha:PA X (e::es) t)(hn:x≠"__name__":=by decide)(hdb:(x == ("__debug__":Str))=false:=by decide)
  (he:starEach (e::es) X.env=(false,eval e X.env)::starEach es X.env:=by rfl) (hpl:(backTo pos (starEach es X.env)).any (·.1)=false:=by rfl):PE X (.Call (.Name x p) (e::es) [] pos) (tCB r t):=by
 intro pins s σ H Q I h
 refine wpAny_Call_Name_kw (yU I hg hm hv ?_ hn hdb)
 exact PyProof.Rows.callWith_builtin1 (thn (ha pos pins s σ H _ I h) fun us s1 ⟨vs,H1,I1,r1,q1⟩=>hc pins s1 σ H1 vs us Q I1 r1 q1) he hpl
theorem Wb(hc:xm X (.type T) r)(hg:Gl X x)(hm:X.mg x=none)(hv:bootBuiltins x=some (.type T))(ha:PA X (e::es) t)(hn:x≠"__name__":=by decide)(hdb:(x == ("__debug__":Str))=false:=by decide)
  (he:starEach (e::es) X.env=(false,eval e X.env)::starEach es X.env:=by rfl) (hpl:(backTo pos (starEach es X.env)).any (·.1)=false:=by rfl):PE X (.Call (.Name x p) (e::es) [] pos) (tCB r t):=by
 intro pins s σ H Q I h
 refine wpAny_Call_Name_kw (yU I hg hm hv ?_ hn hdb)
 exact Ue (thn (ha pos pins s σ H _ I h) fun us s1 ⟨vs,H1,I1,r1,q1⟩=>hc pins s1 σ H1 vs us Q I1 r1 q1) he hpl
end
end L2
namespace HT
open PySem PyProof.Rows
section
open PySem.SeqAt
open PySem.AutoSeq1 (wpAny_loadPart')
open PySem.MeetsSeq PySem.MeetsSeq2 PySem.MeetsSeq3
end
section
variable{prog:Program}{w:World}{A:Around}{E:Value->Shared->Prop}{s:Shared}
theorem cat_tup{t b:Addr}{vs ws:List Value}{Q:Value->Shared->Prop}(ht:IsTup s.heap t vs.toArray)(hb:IsTup s.heap b ws.toArray)(hv:vs≠[])
  (h1:ws=[]->Q (.ref t) s) (h2:ws≠[]->Q (.ref s.heap.objs.size) { s with heap:=s.heap.push { cls:=.type "tuple",data:=.seq (vs++ws).toArray } })
  (hsz:vs.length+ws.length<=sizeLine):wpAny (model prog w) A (binaryOp .Add (.ref t) (.ref b)) Q E s:=by
 obtain⟨⟨cls,dd,data,sl⟩,ho,hc,n,hd⟩:=id ht
 obtain⟨⟨cls2,dd2,data2,sl2⟩,ho2,hc2,n2,hd2⟩:=id hb
 simp only at hc hd hc2 hd2
 subst hc hd hc2 hd2
 have e:vs.toArray++ws.toArray=(vs++ws).toArray:=by simp
 by_cases hw:ws=[]
 ·exact concat_meets ⟨_,ho,rfl⟩ ⟨_,ho2,rfl⟩ noFill_tuple_add seq_tuple_add PySem.F.slot_tuple_add PySem.F.entry_tuple_add (PySem.F.args_tuple_add_2 _ _)
   (tuple_addW1 t b vs.toArray ws.toArray n n2 dd dd2 sl sl2 (by simpa using hv) (by simp[hw])) ⟨ho,ho2,h1 hw⟩
 ·refine concat_meets ⟨_,ho,rfl⟩ ⟨_,ho2,rfl⟩ noFill_tuple_add seq_tuple_add PySem.F.slot_tuple_add PySem.F.entry_tuple_add (PySem.F.args_tuple_add_2 _ _)
   (tuple_addW2 t b vs.toArray ws.toArray n n2 dd dd2 sl sl2 (by simpa using hv) (by simpa using hw) (by rw[ur,ur];exact hsz)) ⟨ho,ho2,?_⟩
  rw[e]
  exact h2 hw
def sIx(n d:Nat):Option Int->Nat
 |none=>d
 |some v=>if v < 0 then(v+(n:Int)).toNat else min v.toNat n
theorem zbQ(n d:Nat)(hd:d<=n)(o:Option Int):sIx n d o<=n:=by
 cases o with
 |none=>exact hd
 |some v =>
  show(if v < 0 then(v+(n:Int)).toNat else min v.toNat n)<=n
  by_cases hv:v < 0
  ·rw[if_pos hv];lia
  ·rw[if_neg hv];exact Nat.min_le_right _ _
theorem Xj(v:Int)(n d:Nat):(if v < 0 then max (v+(n:Int)) 0 else min v (n:Int))=((sIx n d (some v):Nat):Int):=by
 show(if v < 0 then max (v+(n:Int)) 0 else min v (n:Int))=(((if v < 0 then(v+(n:Int)).toNat else min v.toNat n):Nat):Int)
 by_cases hv:v < 0
 ·simp only[if_pos hv];lia
 ·simp only[if_neg hv];lia
theorem Ys(lo hi:Option Int)(n:Nat):Builtin.Slice.sliceAdjust lo hi 1 (n:Int)=(((sIx n 0 lo:Nat):Int),((sIx n n hi:Nat):Int)):=by
 have h1:¬ ((1:Int) < 0):=by lia
 unfold Builtin.Slice.sliceAdjust
 simp only[h1,if_false]
 refine Prod.ext ?_ ?_
 ·cases lo with
  |none=>rfl
  |some v=>exact Xj v n 0
 ·cases hi with
  |none=>rfl
  |some v=>exact Xj v n n
theorem Yt(i j:Nat):Builtin.Slice.slicePlaces (i:Int) (j:Int) 1=j-i:=by
 unfold Builtin.Slice.slicePlaces
 have h1:(1:Int) > 0:=by lia
 simp only[h1,if_true,Int.ediv_one]
 split<;>lia
theorem vq{v:Value}{o:Option Int}{Q:Option Int->Shared->Prop}(p:IsPart v o)(h:Q o s):wpAny (model prog w) A (Builtin.Slice.slicePartIndex v) Q E s:=by
 cases p with
 |none=>exact slicePart_none h
 |int i t=>exact slicePart_int h
theorem yY{sl:Addr}{vl vu:Value}{lo hi:Option Int}{n:Nat}{Q:Int×Int×Nat->Shared->Prop}(hs:s.heap.IsSliceOf sl vl vu .none)(pl:IsPart vl lo)(pu:IsPart vu hi)
  (h:Q (((sIx n 0 lo:Nat):Int),1,sIx n n hi-sIx n 0 lo) s):wpAny (model prog w) A (Builtin.Slice.sliceApplied (.ref sl) (pure (n:Int))) Q E s:=by
 obtain⟨os,hos,hcs,hds⟩:=id hs
 unfold Builtin.Slice.sliceApplied Builtin.Slice.sliceFields
 refine wpAny_bind (wpAny_bind (wpAny_field hos hds (x:=vl) rfl (wpAny_bind (wpAny_field hos hds (x:=vu) rfl (wpAny_bind (wpAny_field hos hds (x:=.none) rfl (wpAny_pure ?_)))))))
 refine wpAny_bind (slicePart_none ?_)
 show wpAny _ _ (if((1:Int) == 0)=true then _ else _) _ _ s
 rw[if_neg (by decide)]
 refine wpAny_bind (vq pl (wpAny_bind (vq pu (wpAny_bind (wpAny_pure ?_)))))
 show wpAny _ _ (match Builtin.Slice.sliceAdjust lo hi 1 (n:Int)with|(lo,hi)=>pure (lo,(1:Int),Builtin.Slice.slicePlaces lo hi 1)) _ _ s
 rw[Ys lo hi n]
 show wpAny _ _ (pure (((sIx n 0 lo:Nat):Int),(1:Int),Builtin.Slice.slicePlaces ((sIx n 0 lo:Nat):Int) ((sIx n n hi:Nat):Int) 1)) _ _ s
 rw[Yt]
 exact wpAny_pure h
theorem W4(xs:Array Value)(i k:Nat):((uC k).filterMap fun(m:Nat)=>xs[((i:Int)+(m:Int)*1).toNat]?).toArray=((xs.toList.drop i).take k).toArray:=by
 have e:(fun(m:Nat)=>xs[((i:Int)+(m:Int)*1).toNat]?)=fun m=>xs[i+m]?:=by
  funext m
  have:((i:Int)+(m:Int)*1).toNat=i+m:=by lia
  rw[this]
 rw[e]
 have:=pick_run xs i k
 rw[List.filterMap_map]at this
 have e2:((fun x=>xs[x]?) ∘ fun x=>i+x)=fun m=>xs[i+m]?:=rfl
 rw[e2]at this
 rw[this]
theorem getItem_tuple_cut{t sl:Addr}{items:Array Value}{vl vu:Value}{lo hi:Option Int}{Q:Value->Shared->Prop}(ht:IsTup s.heap t items)(hs:s.heap.IsSliceOf sl vl vu .none)(pl:IsPart vl lo)(pu:IsPart vu hi)
  (hw:¬ (sIx items.size 0 lo=0/\sIx items.size items.size hi=items.size))
  (h:Q (.ref s.heap.objs.size) { s with heap:=s.heap.push { cls:=.type "tuple",data:=.seq ((items.toList.drop (sIx items.size 0 lo)).take (sIx items.size items.size hi-sIx items.size 0 lo)).toArray } })
  (hsz:items.size<=sizeLine):wpAny (model prog w) A (getItem (.ref t) (.ref sl)) Q E s:=by
 have htake:sizeOk (.seq ((items.toList.drop (sIx items.size 0 lo)).take (sIx items.size items.size hi-sIx items.size 0 lo)).toArray):=by
  show((items.toList.drop (sIx items.size 0 lo)).take (sIx items.size items.size hi-sIx items.size 0 lo)).toArray.size<=sizeLine
  rw[ur,uN,List.length_drop,Array.length_toList]
  lia
 have hj:sIx items.size items.size hi<=items.size:=zbQ _ _ (ud _) hi
 obtain⟨os,hos,hcs,hds⟩:=id hs
 have hTs:s.TypeIs (.ref sl) "slice":=⟨os,hos,hcs⟩
 unfold getItem
 try with_reducible refine wpAny_holding ?_
 first|refine wpAny_bind (wpAny_pure ?_)|skip
 refine wpAny_bind (wpAny_sequenceKey ht.typeIs (by decide) ?_)
 refine wpAny_bind (wpAny_callSpecial?_slot (name:=Str.ofString "__getitem__") ht.typeIs Uo
  (wpAny_call_entry Uo ht.typeIs entry_tuple_getitem ?_ (args_tuple_getitem _ _)))
 show wpAny _ _ (Builtin.Tuple.tupleItemsOf (.ref t) >>= _) _ _ s
 refine wpAny_bind (tupleItemsOf_ ht ?_)
 refine wpAny_bind (wpAny_typeOf hTs ?_)
 rw[if_pos (by decide)]
 refine wpAny_bind (yY hs pl pu ?_)
 have hno:¬ ((((sIx items.size 0 lo:Nat):Int) == 0 && (1:Int) == 1 && (sIx items.size items.size hi-sIx items.size 0 lo) == items.size)=true):=by
  intro q
  rw[Uk,Uk]at q
  have q1:((sIx items.size 0 lo:Nat):Int)=0:=eq_of_beq q.1.1
  have q2:sIx items.size items.size hi-sIx items.size 0 lo=items.size:=eq_of_beq q.2
  exact hw ⟨by lia,by lia⟩
 show wpAny _ _ (if(((sIx items.size 0 lo:Nat):Int) == 0 && (1:Int) == 1 && (sIx items.size items.size hi-sIx items.size 0 lo) == items.size)=true then _ else _) _ _ s
 rw[if_neg hno,W4]
 first
  |exact wpAny_bind (m:=Builtin.Tuple.tupleExact _) (wpAny_newObj_type (wpAny_pure ⟨_,rfl,wpAny_pure h⟩) htake)
  |exact wpAny_bind (m:=Builtin.Tuple.tupleExact _) (wpAny_newObj_type (wpAny_bind (wpAny_pure (wpAny_pure ⟨_,rfl,wpAny_pure h⟩))) htake)
  |exact wpAny_bind (wpAny_bind (m:=Builtin.Tuple.tupleExact _) (wpAny_newObj_type (wpAny_pure (wpAny_pure ⟨_,rfl,wpAny_pure h⟩)) htake))
  |exact wpAny_bind (wpAny_bind (m:=Builtin.Tuple.tupleExact _) (wpAny_newObj_type (wpAny_pure ⟨_,rfl,wpAny_pure h⟩) htake))
end
end HT
namespace L2
open PySem PySem.Spec PyProof.Rows
abbrev TO:=St->Hp->(Option Int->Hp->Prop)->Prop
def PO(X:Cx)(e:Option Expr)(t:TO):Prop :=
 ∀(pins:List (Addr×Obj))(s:Shared)(σ:St)(H:Hp)(Q:Option Int->Hp->Prop),Inv X pins σ H s->t σ H Q ->
  wpAny (model X.prog X.w) X.A (evalPart e X.env) (fun u s'=>∃o H',Inv X pins σ H' s'/\IsPart u o/\Q o H') X.xe s
def Xk:TO:=fun _ H Q=>Q none H
def za1(t:TE):TO:=fun σ H Q=>t σ H fun x H1=>∃i,x=.int i/\Q (some i) H1
section
variable{X:Cx}{e:Expr}{te:TE}{lo hi:Option Expr}{tl th:TO}{pos p2:Pos}
theorem Qo:PO X none Xk:=by
 intro pins s σ H Q I h
 rw[evalPart_none]
 exact wpAny_pure ⟨none,H,I,.none,h⟩
theorem Qp(h:PE X e te):PO X (some e) (za1 te):=by
 intro pins s σ H Q I hw
 rw[evalPart_some]
 refine thn (h pins s σ H _ I hw) fun u s1 ⟨x,H1,I1,r1,q1⟩=>?_
 obtain⟨i,rfl,q⟩:=q1
 obtain⟨t,rfl⟩:=r1
 exact⟨some i,H1,I1,.int i t,q⟩
def SlR(X:Cx)(r:V->Option Int->Option Int->Hp->VK->Prop):Prop :=
 ∀(pins:List (Addr×Obj))(s:Shared)(σ:St)(H:Hp)(x:V)(v vl vu:Value)(lo hi:Option Int)(sl:Addr)(Q:VK),Inv X pins σ H s->RelV x v->s.heap.IsSliceOf sl vl vu .none->IsPart vl lo->IsPart vu hi->r x lo hi H Q ->
  ∃T id,typeLookup (.type T) "__getitem__"=pure (some (.builtin id))/\s.TypeIs v T/\wpAny (model X.prog X.w) X.A (getItem v (.ref sl)) (EP X pins σ Q) X.xe s
def tSl(r:V->Option Int->Option Int->Hp->VK->Prop)(te:TE)(tl th:TO):TE:=fun σ H Q=>te σ H fun x H1=>tl σ H1 fun l H2=>th σ H2 fun u H3=>r x l u H3 Q
theorem W5{r:V->Option Int->Option Int->Hp->VK->Prop}(hr:SlR X r)(he:PE X e te)(hl:PO X lo tl)(hu:PO X hi th):PE X (.Subscript e (.Slice lo hi none p2) pos) (tSl r te tl th):=by
 intro pins s σ H Q I h
 refine Subscript_ (thn (he pins s σ H _ I h) fun v s1 ⟨x,H1,I1,r1,q1⟩=>?_)
 refine wpAny_Slice (thn (hl pins s1 σ H1 _ I1 q1) fun vl s2 ⟨l,H2,I2,pl,q2⟩=>thn (hu pins s2 σ H2 _ I2 q2) fun vu s3 ⟨u,H3,I3,pu,q3⟩=>?_)
 rw[evalPart_none]
 refine wpAny_pure ?_
 have I4:Inv X pins σ H3 { s3 with heap:=s3.heap.push { cls:=.type "slice",data:=.fields #[vl,vu,.none] } }:=I3.kept (t':=s3.toks) fun b ob q=>ug _ q
 obtain⟨T,id,hT,ht,hg⟩:=hr pins { s3 with heap:=s3.heap.push { cls:=.type "slice",data:=.fields #[vl,vu,.none] } } σ H3 x v vl vu l u s3.heap.objs.size Q I4 r1 (Heap.IsSliceOf.new ..) pl pu q3
 show wpAny (model X.prog X.w) X.A (subscriptTail e (.Slice lo hi none p2) v (.ref s3.heap.objs.size)) (EP X pins σ Q) X.xe { s3 with heap:=s3.heap.push { cls:=.type "slice",data:=.fields #[vl,vu,.none] } }
 exact tail_any (ops:=[.ref s3.heap.objs.size,v]) ht hT hg (by with_unfolding_all rfl)
def cutV(xs:List V)(lo hi:Option Int):List V:=(xs.drop (HT.sIx xs.length 0 lo)).take (HT.sIx xs.length xs.length hi-HT.sIx xs.length 0 lo)
theorem wT(xs:List V)(lo hi:Option Int):(cutV xs lo hi).length<=xs.length:=by
 unfold cutV
 rw[uN,List.length_drop]
 lia
def rSlT(K:ub):V->Option Int->Option Int->Hp->VK->Prop:=fun x lo hi H Q=>∃a xs,x=.ref a/\SqT K H a xs /\
 ¬ (HT.sIx xs.length 0 lo=0/\HT.sIx xs.length xs.length hi=xs.length)/\∀p,H p=none->Q (.ref p) (upd H p (.tup (cutV xs lo hi)))
theorem zbR:SlR X (rSlT X.K):=by
 intro pins s σ H x v vl vu lo hi sl Q I rx hs pl pu h
 obtain⟨a,xs,rfl,hx,hw,q⟩:=h
 cases rx
 obtain⟨its,r,ht,hz⟩:=I.tuple hx
 have hlen:its.toArray.size=xs.length:=by rw[ur];exact r.length.symm
 refine⟨"tuple",_,Uo.lookup,ht.typeIs,?_⟩
 refine HT.getItem_tuple_cut ht hs pl pu (by rw[hlen];exact hw) ?_ (by rw[hlen];exact hz)
 rw[hlen]
 refine⟨.ref s.heap.objs.size,_,I.laid (t':=s.toks) (o:=.tup (cutV xs lo hi)) (fun b ob q=>ug _ q) (ud _) ?_,rfl,q _ (I.hok.fresh (ud _))⟩
 exact⟨Uc (wT xs lo hi) hz,_,(r.drop (HT.sIx xs.length 0 lo)).take (HT.sIx xs.length xs.length hi-HT.sIx xs.length 0 lo),IsTupN.new _ _⟩
def za2(K:ub):R2:=fun x y H Q=>∃a b xs ys,x=.ref a/\y=.ref b/\SqT K H a xs/\SqT K H b ys/\xs≠[]/\xs.length+ys.length<=sizeLine /\
 (ys=[]->Q (.ref a) H)/\(ys≠[]->∀p,H p=none->Q (.ref p) (upd H p (.tup (xs++ys))))
theorem Vals.nil_iff{xs:List V}{us:List Value}(r:Vals xs us):us=[]↔xs=[]:=by
 cases r with
 |nil=>simp
 |cons _ _=>simp
theorem Qq:OpR X (binaryOp .Add) (za2 X.K):=by
 intro pins s σ H x y v u Q I rx ry h
 obtain⟨a,b,xs,ys,rfl,rfl,ha,hb,hx,hz,q1,q2⟩:=h
 cases rx
 cases ry
 obtain⟨its,r1,p1,_⟩:=I.tuple ha
 obtain⟨its2,r2,p2,_⟩:=I.tuple hb
 refine HT.cat_tup p1 p2 (fun z=>hx (r1.nil_iff.mp z)) (fun z=>⟨.ref a,H,I,rfl,q1 (r2.nil_iff.mp z)⟩) (fun z=>?_) (by rw[<- r1.length,<- r2.length];exact hz)
 refine⟨.ref s.heap.objs.size,_,I.laid (t':=s.toks) (o:=.tup (xs++ys)) (fun b ob q=>ug _ q) (ud _) ?_,rfl,q2 (fun w=>z (r2.nil_iff.mpr w)) _ (I.hok.fresh (ud _))⟩
 exact⟨by rw[uf];exact hz,_,r1.append r2,IsTupN.new _ _⟩
end
def ixN(n:Nat)(i:Int):Option Nat:=if 0<=i then(if i < n then some i.toNat else none)else if -(n:Int)<=i then some (i+n).toNat else none
def atI{α:Type}(xs:List α)(i:Int):Option α:=(ixN xs.length i).bind fun j=>xs[j]?
theorem Xl{n:Nat}{i:Int}{j:Nat}(h:ixN n i=some j):seqIndex? i n=some j/\j < n/\-(n:Int)<=i/\i < n:=by
 unfold ixN at h
 by_cases h0:0<=i
 ·rw[if_pos h0]at h
  by_cases h1:i < n
  ·rw[if_pos h1]at h
   have e:i.toNat=j:=uO.inj h
   exact⟨by rw[seqIndex_of h0 h1,e],by lia,by lia,h1⟩
  ·rw[if_neg h1]at h;cases h
 ·rw[if_neg h0]at h
  by_cases h1:-(n:Int)<=i
  ·rw[if_pos h1]at h
   have e:(i+n).toNat=j:=uO.inj h
   exact⟨by rw[seqIndex_neg (by lia) h1,e],by lia,h1,by lia⟩
  ·rw[if_neg h1]at h;cases h
theorem jU{α:Type}{xs:List α}{i:Int}{v:α}(h:atI xs i=some v):∃j,seqIndex? i xs.length=some j/\xs[j]?=some v/\j < xs.length/\-(xs.length:Int)<=i/\i < xs.length:=by
 unfold atI at h
 cases e:ixN xs.length i with
 |none=>rw[e]at h;cases h
 |some j =>
  rw[e]at h
  obtain⟨h1,h2,h3,h4⟩:=Xl e
  exact⟨j,h1,h,h2,h3,h4⟩
theorem zN{α:Type}{xs:List α}{j:Nat}{v:α}(h:xs[j]?=some v):atI xs (j:Int)=some v:=by
 have hj:j < xs.length:=(uc.mp h).1
 have e:ixN xs.length (j:Int)=some j:=by
  unfold ixN
  rw[if_pos (by lia),if_pos (by lia)];simp
 unfold atI;rw[e];exact h
theorem aI0{α:Type}{a:α}{r:List α}:atI (a::r) 0=some a:=zN (j:=0) rfl
theorem aI1{α:Type}{a b:α}{r:List α}:atI (a::b::r) 1=some b:=zN (j:=1) rfl
theorem aI2{α:Type}{a b c:α}{r:List α}:atI (a::b::c::r) 2=some c:=zN (j:=2) rfl
theorem aI3{α:Type}{a b c d:α}{r:List α}:atI (a::b::c::d::r) 3=some d:=zN (j:=3) rfl
theorem ZA{α:Type}(xs:List α)(v:α):atI (xs++[v]) (-1)=some v:=by
 have hl:(xs++[v]).length=xs.length+1:=by simp
 have e:ixN (xs++[v]).length (-1)=some xs.length:=by
  unfold ixN
  rw[hl,if_neg (by decide),if_pos (by lia)]
  congr 1
  lia
 unfold atI
 rw[e]
 show(xs++[v])[xs.length]?=some v
 simp
def jV(b:Expr):Prop:=∀o i,subscripted b false o i=operate [o,i] (getItem o i)
def IxR(X:Cx)(r:R2):Prop :=
 ∀(value slice:Expr)(pins:List (Addr×Obj))(s:Shared)(σ:St)(H:Hp)(x y:V)(v u:Value)(Q:VK),Inv X pins σ H s->RelV x v->RelV y u->r x y H Q ->
  subscripted slice false v u=operate [v,u] (getItem v u)->wpAny (model X.prog X.w) X.A (subscriptTail value slice v u) (EP X pins σ Q) X.xe s
def MtR(X:Cx)(id:String)(r:V->List V->Hp->VK->Prop):Prop :=
 ∀(pins:List (Addr×Obj))(s:Shared)(σ:St)(H:Hp)(x:V)(xs:List V)(v:Value)(us:List Value)(Q:VK),Inv X pins σ H s->RelV x v->Vals xs us->r x xs H Q ->
  wpAny (model X.prog X.w) X.A (call (.builtin id) (v::us)) (EP X pins σ Q) X.xe s
section
variable{X:Cx}{a b:Expr}{ta tb:TE}{pos:Pos}
theorem zc1{r:R2}(hr:IxR X r)(ha:PE X a ta)(hb:PE X b tb)(hs:jV b):PE X (.Subscript a b pos) (tOp r ta tb):=by
 intro pins s σ H Q I h
 exact Subscript_ (binT ha hb I h fun v u s2 x y H2 I2 rx ry q=>hr a b pins s2 σ H2 x y v u Q I2 rx ry q (hs _ _))
def rIxL(K:ub):R2:=fun x y H Q=>∃p xs i v,x=.ref p/\y=.int i/\SqL K H p xs/\atI xs i=some v/\Q v H
def rIxT(K:ub):R2:=fun x y H Q=>∃p xs i v,x=.ref p/\y=.int i/\SqT K H p xs/\atI xs i=some v/\Q v H
def rIxS:R2:=fun x y H Q=>∃z i c,x=.str z/\y=.int i/\z.length<=sizeLine/\atI z.cps.toList i=some c/\Q (.str ⟨#[c]⟩) H
theorem Qr:IxR X (rIxL X.K):=by
 intro value slice pins s σ H x y v u Q I rx ry h hs
 obtain⟨p,xs,i,z,rfl,rfl,hq,he,q⟩:=h
 cases rx
 obtain⟨t,rfl⟩:=ry
 obtain⟨its,r,pl,hz⟩:=I.list hq
 obtain⟨j,h1,h2,h3,h4,h5⟩:=jU he
 obtain⟨w,ew,rw'⟩:=r.get h2
 have hl:=r.length
 have hn:=vn
 have fin:EP X pins σ Q w s:=⟨z,H,I,rw',q⟩
 by_cases h0:0<=i
 ·have hj:i.toNat=j:=by
   rw[seqIndex_of h0 h5]at h1
   exact uO.inj h1
  exact item_listR pl.isList h0 (by lia) (by rw[hj];simpa using ew) fin hs
 ·have hj:(i+(its.toArray.size:Int)).toNat=j:=by
   rw[seqIndex_neg (by lia) h4]at h1
   rw[ur,<- hl]
   exact uO.inj h1
  exact subscriptTail_builtinR (x:=w) pl.isList.typeIs slot_list_getitem.lookup
   (wpAny_getItem_list_neg (Q:=fun r s'=>r=w/\EP X pins σ Q r s') pl.isList (by lia) (by rw[ur]<;>lia) (by lia) (by rw[hj];simpa using ew) ⟨rfl,fin⟩) hs
theorem zbS:IxR X (rIxT X.K):=by
 intro value slice pins s σ H x y v u Q I rx ry h hs
 obtain⟨p,xs,i,z,rfl,rfl,hq,he,q⟩:=h
 cases rx
 obtain⟨t,rfl⟩:=ry
 obtain⟨its,r,pl,hz⟩:=I.tuple hq
 obtain⟨j,h1,h2,h3,h4,h5⟩:=jU he
 obtain⟨w,ew,rw'⟩:=r.get h2
 have hl:=r.length
 have hn:=vn
 have fin:EP X pins σ Q w s:=⟨z,H,I,rw',q⟩
 exact subscriptTail_builtinR (x:=w) pl.typeIs slot_tuple_getitem.lookup
  (getItem_tuple (j:=j) (Q:=fun r s'=>r=w/\EP X pins σ Q r s') pl (by lia) (by lia) (by rw[ur,<- hl];exact h1) (by simpa using ew) ⟨rfl,fin⟩) hs
theorem zbT:IxR X rIxS:=by
 intro value slice pins s σ H x y v u Q I rx ry h hs
 obtain⟨z,i,c,rfl,rfl,hz,he,q⟩:=h
 obtain⟨t,rfl⟩:=rx
 obtain⟨t',rfl⟩:=ry
 obtain⟨j,h1,h2,h3,h4,h5⟩:=jU he
 have hl:z.cps.toList.length=z.length:=by simp[Str.length]
 rw[hl]at h1 h4 h5
 have hn:=vn
 exact tail_any (typeIs_str s z t) slot_str_getitem.lookup (getItem_str (c:=c) (by
  have e1:decide (i < -(2 ^ 63:Int))=false:=decide_eq_false (by lia)
  have e2:decide (i ≥ 2 ^ 63)=false:=decide_eq_false (by lia)
  rw[e1,e2,Bool.or_false]) (by rw[h1];simpa using h2) ⟨.str ⟨#[c]⟩,H,I.tok _,⟨_,rfl⟩,q⟩) hs
theorem Yu(its:List Value)(n j:Nat)(u:Value):Obj.mapSeq (·.setIfInBounds j u) { cls:=.type "list",data:=.seq its.toArray n }={ cls:=.type "list",data:=.seq (its.set j u).toArray n }:=by
 simp[Obj.mapSeq]
theorem Inv.lst{pins:List (Addr×Obj)}{σ:St}{H:Hp}{s:Shared}{p:Addr}{xs:List V}(I:Inv X pins σ H s)(h:H p=some (.lst xs)):
  ∃(its:List Value)(n:Nat),Vals xs its/\s.heap.get? p=some { cls:=.type "list",data:=.seq its.toArray n }/\xs.length<=sizeLine:=by
 obtain⟨z,its,n,r,e⟩:=I.hok p _ h
 exact⟨its,n,r,e,z⟩
theorem Inv.lstUpd{pins:List (Addr×Obj)}{σ:St}{H:Hp}{s:Shared}{p:Addr}{xs ys:List V}{its its':List Value}{n n':Nat}{f:Obj->Obj}(I:Inv X pins σ H s)(h:H p=some (.lst xs))
  (ho:s.heap.get? p=some { cls:=.type "list",data:=.seq its.toArray n }) (hf:f { cls:=.type "list",data:=.seq its.toArray n }={ cls:=.type "list",data:=.seq its'.toArray n' }) (r:Vals ys its') (hz:ys.length<=sizeLine) (t:Nat) :
  Inv X pins σ (upd H p (.lst ys)) { s with heap:=s.heap.update p f,toks:=t }:=by
 have e:(s.heap.update p f).get? p=some { cls:=.type "list",data:=.seq its'.toArray n' }:=by
  rw[UF f ho (by rw[hf]<;>rfl),hf]
 refine I.write (x:=p) (e:=p) (by rw[h];trivial) (.inl rfl) (fun b u hb q=>(UP _ _ (Ne.symm hb)).trans q) ⟨_,e⟩ ?_
 exact⟨hz,its',n',r,e⟩
def za3:V->V->V->Hp->(Hp->Prop)->Prop:=fun o i v H Q=>∃p xs k j,o=.ref p/\i=.int k/\H p=some (.lst xs)/\ixN xs.length k=some j/\Q (upd H p (.lst (xs.set j v)))
theorem W6:PSet X za3:=by
 intro pins s σ H o i v ov iv u Q I ro ri rv h
 obtain⟨p,xs,k,j,rfl,rfl,hp,hj,q⟩:=h
 cases ro
 obtain⟨t,rfl⟩:=ri
 obtain⟨its,n,r,ho,hz⟩:=I.lst hp
 obtain⟨h1,h2,h3,h4⟩:=Xl hj
 have hl:=r.length
 have hn:=vn
 have I':Inv X pins σ (upd H p (.lst (xs.set j v))) { s with heap:=s.heap.update p (Obj.mapSeq (·.setIfInBounds j u)) } :=
  I.lstUpd hp ho (Yu its n j u) (r.set rv j) (by rw[List.length_set];exact hz) s.toks
 by_cases h0:0<=k
 ·have hk:k.toNat=j:=by
   rw[seqIndex_of h0 h4]at h1
   exact uO.inj h1
  exact PySem.W.ki_setAt ho h0 (by lia) (by rw[ur,<- hl];exact h4) (by rw[hk];exact⟨_,I',q⟩)
 ·have hk:(k+(its.toArray.size:Int)).toNat=j:=by
   rw[seqIndex_neg (by lia) h3]at h1
   rw[ur,<- hl]
   exact uO.inj h1
  exact PySem.W.ki_setBack ho (by lia) (by rw[ur,<- hl];exact h3) (by lia) (by rw[hk];exact⟨_,I',q⟩)
theorem jX(lo hi:Option Int)(n:Nat):(sliceBounds lo hi none n).1=((HT.sIx n 0 lo:Nat):Int)/\(sliceBounds lo hi none n).2.1=((HT.sIx n n hi:Nat):Int)/\(sliceBounds lo hi none n).2.2=1:=by
 refine⟨?_,?_,rfl⟩
 ·cases lo with
  |none=>simp[sliceBounds,HT.sIx]
  |some i =>
   simp only[sliceBounds,HT.sIx,Option.getD_none,show(1:Int) > 0 by decide,if_true]
   by_cases h:i < 0
   ·simp only[h,if_true]<;>lia
   ·simp only[h,if_false]<;>lia
 ·cases hi with
  |none=>simp[sliceBounds,HT.sIx]
  |some i =>
   simp only[sliceBounds,HT.sIx,Option.getD_none,show(1:Int) > 0 by decide,if_true]
   by_cases h:i < 0
   ·simp only[h,if_true]<;>lia
   ·simp only[h,if_false]<;>lia
theorem jb(its:List Value)(lo hi:Option Int):slicePick its.toArray lo hi none=((its.drop (HT.sIx its.length 0 lo)).take (HT.sIx its.length its.length hi-HT.sIx its.length 0 lo)).toArray:=by
 obtain⟨h1,h2,h3⟩:=jX lo hi its.toArray.size
 unfold slicePick
 rw[h1,h2,h3]
 simp only[sliceRange_one,pick_run,ur]<;>rfl
def rSlL(K:ub):V->Option Int->Option Int->Hp->VK->Prop:=fun x lo hi H Q=>∃a xs,x=.ref a/\SqL K H a xs/\∀p,H p=none->Q (.ref p) (upd H p (.lst (cutV xs lo hi)))
theorem Qs:SlR X (rSlL X.K):=by
 intro pins s σ H x v vl vu lo hi sl Q I rx hs pl pu h
 obtain⟨a,xs,rfl,hx,q⟩:=h
 cases rx
 obtain⟨its,r,ht,hz⟩:=I.list hx
 have hlen:=r.length
 refine⟨"list",_,slot_list_getitem.lookup,ht.isList.typeIs,?_⟩
 refine wpAny_getItem_list_slice ht.isList hs pl pu .none (by simp) ?_ (by rw[ur]<;>lia)
 rw[jb,<- hlen]
 refine⟨.ref s.heap.objs.size,_,I.laid (t':=s.toks) (o:=.lst (cutV xs lo hi)) (fun b ob q=>ug _ q) (ud _) ?_,rfl,q _ (I.hok.fresh (ud _))⟩
 exact⟨Uc (wT xs lo hi) hz,_,0,(r.drop (HT.sIx xs.length 0 lo)).take (HT.sIx xs.length xs.length hi-HT.sIx xs.length 0 lo),uA _ rfl⟩
def yh:V->Bool
 |.non=>true
 |.bl _=>true
 |.int _=>true
 |.str _=>true
 |_=>false
def eqV:V->V->Bool
 |.non,.non=>true
 |.bl a,.bl b=>a == b
 |.bl a,.int b=>(if a then 1 else 0) == b
 |.int a,.bl b=>a == (if b then 1 else 0)
 |.int a,.int b=>a == b
 |.str a,.str b=>a == b
 |_,_=>false
theorem Yv{A:Around}{s:Shared}{y x:V}{u v:Value}(ry:RelV y u)(rx:RelV x v)(fy:yh y=true)(fx:yh x=true):SeqAt.EqAt A s u v (eqV y x):=by
 cases y with
 |non =>
  cases ry
  cases x with
  |non=>cases rx;exact SeqAt.EqAt.same _
  |bl b=>cases rx;exact SeqAt.EqAt.none_bool b
  |int b=>obtain⟨t,rfl⟩:=rx;exact SeqAt.EqAt.none_int b t
  |str b=>obtain⟨t,rfl⟩:=rx;exact SeqAt.EqAt.none_str b t
  |_=>exact absurd (show false=true from fx) uu
 |bl a =>
  cases ry
  cases x with
  |non=>cases rx;exact SeqAt.EqAt.bool_none a
  |bl b=>cases rx;exact SeqAt.EqAt.bool_bool a b
  |int b=>obtain⟨t,rfl⟩:=rx;exact SeqAt.EqAt.bool_int a b t
  |str b=>obtain⟨t,rfl⟩:=rx;exact SeqAt.EqAt.bool_str a b t
  |_=>exact absurd (show false=true from fx) uu
 |int a =>
  obtain⟨t',rfl⟩:=ry
  cases x with
  |non=>cases rx;exact SeqAt.EqAt.int_none a t'
  |bl b=>cases rx;exact SeqAt.EqAt.int_bool a t' b
  |int b=>obtain⟨t,rfl⟩:=rx;exact SeqAt.EqAt.int_int a t' b t
  |str b=>obtain⟨t,rfl⟩:=rx;exact SeqAt.EqAt.int_str a t' b t
  |_=>exact absurd (show false=true from fx) uu
 |str a =>
  obtain⟨t',rfl⟩:=ry
  cases x with
  |non=>cases rx;exact SeqAt.EqAt.str_none a t'
  |bl b=>cases rx;exact SeqAt.EqAt.str_bool a t' b
  |int b=>obtain⟨t,rfl⟩:=rx;exact SeqAt.EqAt.str_int a t' b t
  |str b=>obtain⟨t,rfl⟩:=rx;exact SeqAt.EqAt.str_str a t' b t
  |_=>exact absurd (show false=true from fx) uu
 |_=>exact absurd (show false=true from fy) uu
def eqU(x:V)(u:Value):Bool:=match u with
 |.none=>eqV .non x
 |.bool b=>eqV (.bl b) x
 |.int i _=>eqV (.int i) x
 |.str z _=>eqV (.str z) x
 |_=>false
theorem W7{x y:V}{u:Value}(r:RelV y u)(f:yh y=true):eqU x u=eqV y x:=by
 cases y with
 |non=>cases r;rfl
 |bl b=>cases r;rfl
 |int i=>obtain⟨t,rfl⟩:=r;rfl
 |str z=>obtain⟨t,rfl⟩:=r;rfl
 |_=>exact absurd (show false=true from f) uu
theorem xU{x:V}:∀{xs:List V}{us:List Value},Vals xs us->xs.all yh=true->us.any (eqU x)=xs.any fun y=>eqV y x
 |_,_,.nil,_=>rfl
 |y::xs,u::us,.cons r t,f=>by
  rw[List.all_cons,Uk]at f
  rw[tF,tF,W7 r f.1,xU t f.2]
theorem xn{A:Around}{s:Shared}{x:V}{v:Value}(rx:RelV x v)(fx:yh x=true):∀{xs:List V}{us:List Value},Vals xs us->xs.all yh=true->∀u∈us,SeqAt.EqAt A s u v (eqU x u)
 |_,_,.nil,_=>fun u hu=>by cases hu
 |y::xs,u::us,.cons r t,f=>fun u' hu=>by
  rw[List.all_cons,Uk]at f
  rcases um.mp hu with rfl|hu
  ·rw[W7 r f.1];exact Yv r rx f.1 fx
  ·exact xn rx fx t f.2 u' hu
def inV(x:V)(xs:List V):Bool:=xs.any fun y=>eqV y x
def rIn(K:ub)(neg:Bool):R2:=fun x y H Q=>∃p xs,y=.ref p/\(SqL K H p xs\/SqT K H p xs)/\yh x=true/\xs.all yh=true/\Q (.bl (if neg then !inV x xs else inV x xs)) H
theorem Wc:OpR X (compareOp .In) (rIn X.K false):=by
 intro pins s σ H x y v u Q I rx ry h
 obtain⟨p,xs,rfl,hq,fx,fs,q⟩:=h
 cases ry
 rcases hq with hq|hq
 ·obtain⟨its,r,pl,hz⟩:=I.list hq
  refine SeqAt.in_listAt (eqU x) pl.isList (fun w hw=>xn rx fx r fs w (by simpa using hw)) ⟨.bl _,H,I,rfl,?_⟩
  rw[show its.toArray.any (eqU x)=its.any (eqU x) by simp,xU r fs]
  exact q
 ·obtain⟨its,r,pl,hz⟩:=I.tuple hq
  refine SeqAt.in_tupleAt (eqU x) pl (fun w hw=>xn rx fx r fs w (by simpa using hw)) ⟨.bl _,H,I,rfl,?_⟩
  rw[show its.toArray.any (eqU x)=its.any (eqU x) by simp,xU r fs]
  exact q
theorem jY:OpR X (compareOp .NotIn) (rIn X.K true):=by
 intro pins s σ H x y v u Q I rx ry h
 obtain⟨p,xs,rfl,hq,fx,fs,q⟩:=h
 cases ry
 rcases hq with hq|hq
 ·obtain⟨its,r,pl,hz⟩:=I.list hq
  refine SeqAt.notIn_listAt (eqU x) pl.isList (fun w hw=>xn rx fx r fs w (by simpa using hw)) ⟨.bl _,H,I,rfl,?_⟩
  rw[show its.toArray.any (eqU x)=its.any (eqU x) by simp,xU r fs]
  exact q
 ·obtain⟨its,r,pl,hz⟩:=I.tuple hq
  refine SeqAt.notIn_tupleAt (eqU x) pl (fun w hw=>xn rx fx r fs w (by simpa using hw)) ⟨.bl _,H,I,rfl,?_⟩
  rw[show its.toArray.any (eqU x)=its.any (eqU x) by simp,xU r fs]
  exact q
theorem jZ:xm X (.builtin "len") (fun xs H Q=>∃p ys,xs=[.ref p]/\(SqL X.K H p ys\/SqT X.K H p ys)/\Q (.int ys.length) H):=by
 intro pins s σ H xs us Q I r h
 obtain⟨p,ys,rfl,hq,q⟩:=h
 obtain⟨u,rfl,rx⟩:=vo r
 cases rx
 have hn:=vn
 rcases hq with hq|hq
 ·obtain⟨its,r',pl,hz⟩:=I.list hq
  have hlen:=r'.length
  exact Calls.call_len_list pl.isList (by simp only[ur]<;>lia) ⟨.int ys.length,H,I.tok _,⟨s.toks+1,by rw[ur,hlen]⟩,q⟩
 ·obtain⟨its,r',pl,hz⟩:=I.tuple hq
  have hlen:=r'.length
  exact len_tuple pl (by simp only[ur]<;>lia) ⟨.int ys.length,H,I.tok _,⟨s.toks+1,by rw[ur,hlen]⟩,q⟩
theorem j0:xm X (.type "list") (fun xs H Q=>∃p ys,xs=[.ref p]/\(SqL X.K H p ys\/SqT X.K H p ys)/\∀l,H l=none->Q (.ref l) (upd H l (.lst ys))):=by
 intro pins s σ H xs us Q I r h
 obtain⟨p,ys,rfl,hq,q⟩:=h
 obtain⟨u,rfl,rx⟩:=vo r
 cases rx
 have fin:∀(its:List Value),Vals ys its->ys.length<=sizeLine->∀(h':Heap)(c':Nat),(∀b o',s.heap.get? b=some o'->h'.get? b=some o') ->
   h'.get? s.heap.objs.size=some { cls:=.type "list",dict:=none,data:=.seq its.toArray c',slots:=#[] }->EP X pins σ Q (.ref s.heap.objs.size) { s with heap:=h' }:=fun its r' hz h' c' kp e =>
  ⟨.ref s.heap.objs.size,_,I.laid (t':=s.toks) kp (ud _) (show ObjOk X.prog X.w _ h' _ (.lst ys)from⟨hz,its,c',r',e⟩),rfl,q _ (I.hok.fresh (ud _))⟩
 rcases hq with hq|hq
 ·obtain⟨its,r',pl,hz⟩:=I.list hq
  have hlen:=r'.length
  obtain⟨o,ho,hc,n,hd⟩:=pl.isList
  exact call_list_seq p (.inl rfl) ho hc hd (fun h' c' kp e=>fin its r' hz h' c' kp e) (by simp only[ur]<;>lia)
 ·obtain⟨its,r',pl,hz⟩:=I.tuple hq
  have hlen:=r'.length
  obtain⟨o,ho,hc,n,hd⟩:=pl
  exact call_list_seq p (.inr rfl) ho hc hd (fun h' c' kp e=>fin its r' hz h' c' kp e) (by simp only[ur]<;>lia)
theorem jc:xm X (.type "tuple") (fun xs H Q=>∃p ys,xs=[.ref p]/\((SqL X.K H p ys/\∀l,H l=none->Q (.ref l) (upd H l (.tup ys)))\/(SqT X.K H p ys/\Q (.ref p) H))):=by
 intro pins s σ H xs us Q I r h
 obtain⟨p,ys,rfl,h⟩:=h
 obtain⟨u,rfl,rx⟩:=vo r
 cases rx
 rcases h with⟨hq,q⟩|⟨hq,q⟩
 ·obtain⟨its,r',pl,hz⟩:=I.list hq
  have hlen:=r'.length
  refine call_tuple_list pl.isList (fun h' kp=>?_) (by simp only[ur]<;>lia)
  have I1:Inv X pins σ H { s with heap:=h' }:=I.kept (t':=s.toks) kp
  have I2:Inv X pins σ (upd H h'.objs.size (.tup ys)) { s with heap:=h'.push { cls:=.type "tuple",data:=.seq its.toArray } } :=
   I1.laid (t':=s.toks) (fun b o e=>ug _ e) (ud _) (show ObjOk X.prog X.w _ _ _ (.tup ys)from⟨hz,its,r',IsTupN.new _ _⟩)
  exact⟨.ref h'.objs.size,_,I2,rfl,q _ (I1.hok.fresh (ud _))⟩
 ·obtain⟨its,r',pl,hz⟩:=I.tuple hq
  exact call_tuple_same pl ⟨.ref p,H,I,rfl,q⟩
def tyV(K:ub)(T:String)(x:V)(H:Hp):Prop:=match x with
 |.str _=>T="str"
 |.int _=>T="int"
 |.ref p=>(T="list"/\∃xs,SqL K H p xs)\/(T="tuple"/\((∃o,K.lookup p=some o/\o.cls=.type "tuple"/\o.dict=none)\/∃xs,H p=some (.tup xs))) \/
   (T="dict"/\((∃kvs,H p=some (.dK kvs))\/∃kvs,H p=some (.dT kvs)))\/(T="set"/\∃S n,H p=some (.set S n))
 |_=>False
theorem W8{pins:List (Addr×Obj)}{σ:St}{H:Hp}{s:Shared}{T:String}{x:V}{v:Value}(I:Inv X pins σ H s)(r:RelV x v)(ty:tyV X.K T x H):
  s.TypeIs v T/\∀a,v=.ref a->∃ob,s.heap.get? a=some ob/\ob.dict=none:=by
 cases x with
 |str z =>
  obtain⟨t,rfl⟩:=r
  cases(show T="str"from ty)
  exact⟨typeIs_str s z t,fun _ e=>nomatch e⟩
 |int i =>
  obtain⟨t,rfl⟩:=r
  cases(show T="int"from ty)
  exact⟨typeIs_int s i t,fun _ e=>nomatch e⟩
 |ref p =>
  cases r
  rcases ty with⟨rfl,xs,hq⟩|⟨rfl,⟨o,hk,hc,hd⟩|⟨xs,hk⟩⟩|⟨rfl,hk⟩|⟨rfl,S,n,hk⟩
  ·obtain⟨its,_,pl,_⟩:=I.list hq
   refine⟨pl.isList.typeIs,fun a e=>?_⟩
   cases e
   obtain⟨o,n,e,c,hd,_⟩:=pl
   exact⟨o,e,hd⟩
  ·refine⟨⟨o,I.kIn p o hk,hc⟩,fun a e=>?_⟩
   cases e
   exact⟨o,I.kIn _ o hk,hd⟩
  ·obtain⟨_,_,_,o,ho,hc,hd,_⟩:=I.hok p _ hk
   refine⟨⟨o,ho,hc⟩,fun a e=>?_⟩
   cases e
   exact⟨o,ho,hd⟩
  ·have z:∃o,s.heap.get? p=some o/\o.ExactDict:=by
    rcases hk with⟨kvs,hk⟩|⟨kvs,hk⟩
    ·obtain⟨_,_,_,_,o,_,_,e,ex,_⟩:=I.hok p _ hk
     exact⟨o,e,ex⟩
    ·obtain⟨_,_,_,_,o,_,_,e,ex,_⟩:=I.hok p _ hk
     exact⟨o,e,ex⟩
   obtain⟨o,e,ex⟩:=z
   refine⟨⟨o,e,ex.1⟩,fun a e2=>?_⟩
   cases e2
   exact⟨o,e,ex.2.1⟩
  ·obtain⟨o,_,_,_,e,ex,_⟩:=I.hok p _ hk
   refine⟨⟨o,e,ex.1⟩,fun a e2=>?_⟩
   cases e2
   exact⟨o,e,ex.2.1⟩
 |_=>exact False.elim ty
def tBM0(K:ub)(T:String)(r:V->List V->Hp->VK->Prop)(to:TE):TE:=fun σ H Q=>to σ H fun x H1=>tyV K T x H1/\r x [] H1 Q
def tBM(K:ub)(T:String)(r:V->List V->Hp->VK->Prop)(to:TE)(t:TA):TE:=fun σ H Q=>to σ H fun x H1=>tyV K T x H1/\t σ H1 fun xs H2=>r x xs H2 Q
variable{o e:Expr}{es:List Expr}{to:TE}{t:TA}{name:Str}{apos cpos:Pos}{T id:String}{r:V->List V->Hp->VK->Prop}
theorem zbU(pa:PlainAttrs T)(slot:Slot T name id)(hty:typeOf (.builtin id)=pure (.type "method_descriptor"))(hm:MtR X id r)(ho:PE X o to)
  (hbase:attributeBase o name X.env (eval o X.env)=eval o X.env:=by rfl) (hline:(apos.endLine == cpos.line)=true:=by rfl):PE X (.Call (.Attribute o name apos) [] [] cpos) (tBM0 X.K T r to):=by
 intro pins s σ H Q I h
 refine wpAny_Call_method0_late hbase hline (thn (ho pins s σ H _ I h) fun v s1 ⟨x,H1,I1,r1,ty,q1⟩=>?_)
 obtain⟨h1,h2⟩:=W8 I1 r1 ty
 exact⟨T,id,pa,slot,hty,h1,h2,Calls.callWith_builtin rfl (PySem.evalArgs_none (hm pins s1 σ H1 x [] v [] Q I1 r1 .nil q1))⟩
theorem zc2(pa:PlainAttrs T)(slot:Slot T name id)(hty:typeOf (.builtin id)=pure (.type "method_descriptor"))(hm:MtR X id r)(ho:PE X o to)(ha:PA X (e::es) t)
  (hbase:attributeBase o name X.env (eval o X.env)=eval o X.env:=by rfl)
  (hfew:((backTo cpos (starEach (e::es) X.env)).all (fun x=>!x.1) && (backToKw cpos (keywordEach [] X.env)).all (fun x=>x.1.isSome)
   && decide ((e::es).length+([]:List Keyword).length+(if([]:List Keyword).isEmpty then 0 else 1) < 30))=true:=by rfl)
  (hline:(apos.endLine == cpos.line)=true:=by rfl) (hs:starEach (e::es) X.env=(false,eval e X.env)::starEach es X.env:=by rfl) (hplain:(backTo cpos (starEach es X.env)).any (·.1)=false:=by rfl) :
  PE X (.Call (.Attribute o name apos) (e::es) [] cpos) (tBM X.K T r to t):=by
 intro pins s σ H Q I h
 refine wpAny_Call_method_late hbase hfew hline rfl (thn (ho pins s σ H _ I h) fun v s1 ⟨x,H1,I1,r1,ty,q1⟩=>?_)
 obtain⟨h1,h2⟩:=W8 I1 r1 ty
 refine⟨T,id,pa,slot,hty,h1,h2,?_⟩
 have hA:=ha cpos pins s1 σ H1 _ I1 q1
 rw[hs]at hA ⊢
 refine Calls.callWith_builtin (by show(false || (backTo cpos (starEach es X.env)).any (·.1))=false;rw[hplain]<;>rfl) (Calls.evalArgs_plain ?_)
 exact thn hA fun us s2 ⟨vs,H2,I2,r2,q2⟩=>hm pins s2 σ H2 x vs v us Q I2 r1 r2 q2
end
def MtM(X:Cx)(id:String)(r:V->List V->Hp->VK->Prop):Prop :=
 ∀(pins:List (Addr×Obj))(s:Shared)(σ:St)(H:Hp)(x:V)(xs:List V)(v:Value)(us:List Value)(Q:VK),Inv X pins σ H s->RelV x v->Vals xs us->r x xs H Q ->
  wpAny (model X.prog X.w) X.A (call (.builtin id) (v::us)) (EP X pins σ Q) X.xe s
theorem Vals.one:∀{x:V}{us:List Value},Vals [x] us->∃u,us=[u]/\RelV x u
 |_,_,.cons r .nil=>⟨_,rfl,r⟩
theorem Vals.zero:∀{us:List Value},Vals [] us->us=[]
 |_,.nil=>rfl
theorem Vals.dropLast{xs:List V}{us:List Value}(h:Vals xs us):Vals xs.dropLast us.dropLast:=by
 induction h with
 |nil=>exact .nil
 |cons r t ih =>
  cases t with
  |nil=>exact .nil
  |cons q t'=>exact .cons r ih
theorem Vals.reverse{xs:List V}{us:List Value}(h:Vals xs us):Vals xs.reverse us.reverse:=by
 induction h with
 |nil=>exact .nil
 |cons r t ih=>rw[tD,tD];exact Vals.append ih (.cons r .nil)
theorem Vals.rep{xs:List V}{us:List Value}(h:Vals xs us):∀k:Nat,Vals (uT k xs).flatten (uT k us).flatten
 |0=>.nil
 |k+1=>by
  rw[UC,UC,tL,tL]
  exact Vals.append h (Vals.rep h k)
theorem Yw{α:Type}(l:List α):l.eraseIdx (l.length-1)=l.dropLast:=by
 induction l with
 |nil=>rfl
 |cons a r ih =>
  cases r with
  |nil=>rfl
  |cons b r =>
   have e:(a::b::r).length-1=((b::r).length-1)+1:=by
    have h1:(a::b::r).length=r.length+2:=rfl
    have h2:(b::r).length=r.length+1:=rfl
    lia
   rw[e,List.eraseIdx_cons_succ,ih]
   all_goals rfl
theorem jk(its:List Value):∀(k:Nat)(acc:List Value),
  List.foldl (fun x1 x2=>x1++x2) acc.toArray (uT k its.toArray)=(acc++(uT k its).flatten).toArray
 |0,acc=>by simp
 |k+1,acc=>by
  have e:acc.toArray++its.toArray=(acc++its).toArray:=by simp
  have e2:(acc++its)++(uT k its).flatten=acc++(uT (k+1) its).flatten:=by
   rw[UC,tL,Ur]
  rw[<- e2,<- jk its k (acc++its),<- e,UC,Ul]
section
variable{X:Cx}{pins:List (Addr×Obj)}{σ:St}{H:Hp}{s:Shared}{l b:Addr}{xs ys zs:List V}
theorem Inv.lset{its its':List Value}{n:Nat}{f:Array Value->Array Value}{t':Nat}(I:Inv X pins σ H s)(hH:H l=some (.lst xs))
  (e:s.heap.get? l=some { cls:=.type "list",data:=.seq its.toArray n }) (hf:f its.toArray=its'.toArray) (hv:Vals ys its') (hz:ys.length<=sizeLine) :
  Inv X pins σ (upd H l (.lst ys)) { s with heap:=s.heap.update l (Obj.mapSeq f),toks:=t' }:=by
 have q:=PySem.IsL.update e f
 rw[hf]at q
 refine I.write (x:=l) (e:=l) (by rw[hH];exact trivial) (.inl rfl) (fun b' u hb hu=>(UP s.heap (Obj.mapSeq f) (Ne.symm hb)).trans hu) ⟨_,q⟩ ?_
 exact⟨hz,its',_,hv,q⟩
theorem Inv.lnew{its:List Value}{t':Nat}(I:Inv X pins σ H s)(hv:Vals ys its)(hz:ys.length<=sizeLine):
  Inv X pins σ (upd H s.heap.objs.size (.lst ys)) { s with heap:=s.heap.push { cls:=.type "list",data:=.seq its.toArray },toks:=t' } :=
 I.laid (fun _ _ q=>ug _ q) (ud _) ⟨hz,its,0,hv,uA _ rfl⟩
theorem Inv.fresh(I:Inv X pins σ H s):H s.heap.objs.size=none:=I.hok.fresh (ud _)
theorem Inv.lstM(I:Inv X pins σ H s)(hH:H l=some (.lst xs)):xs.length<=sizeLine/\∃(its:List Value)(n:Nat),Vals xs its/\xs.length=its.length/\s.heap.get? l=some { cls:=.type "list",data:=.seq its.toArray n }:=by
 obtain⟨z,its,n,r,e⟩:=I.hok l _ hH
 exact⟨z,its,n,r,r.length,e⟩
theorem ZB{n:Nat}(h:n<=sizeLine):Builtin.List.listTooLong n=false:=by
 unfold Builtin.List.listTooLong
 exact decide_eq_false (by lia)
end
section
variable{X:Cx}
def Xm:V->List V->Hp->VK->Prop:=fun x vs H Q=>∃l xs y,x=.ref l/\vs=[y]/\H l=some (.lst xs)/\xs.length < sizeLine/\Q .non (upd H l (.lst (xs++[y])))
theorem Wd:MtM X "list.append" Xm:=by
 intro pins s σ H x vs v us Q I rx rv h
 obtain⟨l,xs,y,rfl,rfl,hH,hz,q⟩:=h
 cases rx
 obtain⟨u,rfl,ru⟩:=rv.one
 obtain⟨z,its,n,r,hl,e⟩:=I.lstM hH
 refine call_meets F.slot_list_append ⟨_,e,rfl⟩ F.entry_list_append (F.args_list_append_2 _ _) (PySem.list_append l its.toArray n u (by rw[ur];lia)) ⟨e,?_⟩
 refine⟨.non,_,I.lset (its':=its++[u]) hH e (by simp) (r.append (.cons ru .nil)) ?_,rfl,q⟩
 rw[uf,uZ]
 lia
def Xn:V->List V->Hp->VK->Prop:=fun x vs H Q=>∃l b xs zs,x=.ref l/\vs=[.ref b]/\H l=some (.lst xs)/\H b=some (.lst zs)/\xs.length+zs.length<=sizeLine/\Q .non (upd H l (.lst (xs++zs)))
theorem We:MtM X "list.extend" Xn:=by
 intro pins s σ H x vs v us Q I rx rv h
 obtain⟨l,b,xs,zs,rfl,rfl,hH,hB,hz,q⟩:=h
 cases rx
 obtain⟨u,rfl,ru⟩:=rv.one
 cases ru
 obtain⟨z,its,n,r,hl,e⟩:=I.lstM hH
 obtain⟨z2,its2,n2,r2,hl2,e2⟩:=I.lstM hB
 have hsz:its.toArray.size+its2.toArray.size<=sizeLine:=by rw[ur,ur];lia
 have hlong:¬ (!its.toArray.isEmpty && Builtin.List.listTooLong (its.toArray.size+its2.toArray.size))=true:=by
  rw[ZB hsz,Bool.and_false]
  exact uu
 refine call_meets F.slot_list_extend ⟨_,e,rfl⟩ F.entry_list_extend (F.args_list_extend_2 _ _)
  (AutoSeq1.list_extend_list_list_0 l its.toArray n b its2.toArray n2 hlong (by rw[ur];lia) (by lia)) ⟨e,e2,?_⟩
 refine⟨.non,_,I.lset (its':=its++its2) hH e (by simp) (r.append r2) ?_,rfl,q⟩
 rw[uf]
 lia
def rPop:V->List V->Hp->VK->Prop:=fun x vs H Q=>∃l xs y,x=.ref l/\vs=[]/\H l=some (.lst xs)/\xs[xs.length-1]?=some y/\Q y (upd H l (.lst xs.dropLast))
theorem zbV:MtM X "list.pop" rPop:=by
 intro pins s σ H x vs v us Q I rx rv h
 obtain⟨l,xs,y,rfl,rfl,hH,hy,q⟩:=h
 cases rx
 have hus:=rv.zero
 subst hus
 obtain⟨z,its,n,r,hl,e⟩:=I.lstM hH
 obtain⟨u,hu,ru⟩:=r.get hy
 have hy':its.toArray[its.toArray.size-1]?=some u:=by
  show its.toArray[its.length-1]?=some u
  rw[<- Array.getElem?_toList,<- hl]
  exact hu
 refine call_meets F.slot_list_pop ⟨_,e,rfl⟩ F.entry_list_pop (F.args_list_pop_1 _) (MeetsSeq.list_pop_last l its.toArray n u hy' (by rw[ur];lia)) ⟨e,?_⟩
 refine⟨y,_,I.lset (its':=its.dropLast) hH e ?_ r.dropLast ?_,ru,q⟩
 ·show its.toArray.eraseIdxIfInBounds (its.toArray.size-1)=its.dropLast.toArray
  rw[ur,List.eraseIdxIfInBounds_toArray,Yw]
 ·rw[List.length_dropLast]
  lia
def ZC:V->List V->Hp->VK->Prop:=fun x vs H Q=>∃l xs,x=.ref l/\vs=[]/\H l=some (.lst xs)/\Q .non (upd H l (.lst xs.reverse))
theorem Yx:MtM X "list.reverse" ZC:=by
 intro pins s σ H x vs v us Q I rx rv h
 obtain⟨l,xs,rfl,rfl,hH,q⟩:=h
 cases rx
 have hus:=rv.zero
 subst hus
 obtain⟨z,its,n,r,hl,e⟩:=I.lstM hH
 refine call_meets F.slot_list_reverse ⟨_,e,rfl⟩ F.entry_list_reverse (F.args_list_reverse_1 _) (AutoSeq1.list_reverse_list_0 l its.toArray n (by rw[ur];lia)) ⟨e,?_⟩
 refine⟨.non,_,I.lset (its':=its.reverse) hH e (by simp) r.reverse ?_,rfl,q⟩
 rw[Uj]
 lia
def rCat:R2:=fun x y H Q=>∃l b xs zs,x=.ref l/\y=.ref b/\H l=some (.lst xs)/\H b=some (.lst zs)/\xs.length+zs.length<=sizeLine/\∀p,H p=none->Q (.ref p) (upd H p (.lst (xs++zs)))
theorem zbW:OpR X (binaryOp .Add) rCat:=by
 intro pins s σ H x y v u Q I rx ry h
 obtain⟨l,b,xs,zs,rfl,rfl,hH,hB,hz,q⟩:=h
 cases rx
 cases ry
 obtain⟨z,its,n,r,hl,e⟩:=I.lstM hH
 obtain⟨z2,its2,n2,r2,hl2,e2⟩:=I.lstM hB
 refine PySem.P.add_list e e2 ?_ (by rw[ur,ur];lia)
 have ea:its.toArray++its2.toArray=(its++its2).toArray:=by simp
 rw[ea]
 exact⟨.ref _,_,I.lnew (t':=s.toks) (r.append r2) (by rw[uf];lia),rfl,q _ I.fresh⟩
def rRep:R2:=fun x y H Q=>∃l k xs,x=.ref l/\y=.int k/\H l=some (.lst xs)/\-(2 ^ 63)<=k/\k < 2 ^ 63/\xs.length*k.toNat<=sizeLine /\
 ∀p,H p=none->Q (.ref p) (upd H p (.lst (uT k.toNat xs).flatten))
theorem Qt{α:Type}(xs:List α)(k:Nat):(uT k xs).flatten.length=k*xs.length:=by
 induction k with
 |zero=>simp
 |succ k ih=>rw[UC,tL,uf,ih,Nat.succ_mul,Nat.add_comm]
theorem zbX:OpR X (binaryOp .Mult) rRep:=by
 intro pins s σ H x y v u Q I rx ry h
 obtain⟨l,k,xs,rfl,rfl,hH,h1,h2,hz,q⟩:=h
 cases rx
 obtain⟨t,rfl⟩:=ry
 obtain⟨z,its,n,r,hl,e⟩:=I.lstM hH
 have hlen:its.toArray.size*k.toNat<=sizeLine:=by rw[ur,<- hl];exact hz
 have hcap:¬ its.toArray.size*k.toNat > (2 ^ 63-1) / 8:=by
  have:(sizeLine:Nat)<=(2 ^ 63-1) / 8:=by decide
  lia
 have hfit:¬ (!Builtin.List.listFitsIndex k)=true:=by
  rw[fitsIndex_both h1 h2]
  exact uu
 have hlong:¬ Builtin.List.listTooLong (its.toArray.size*k.toNat)=true:=by
  rw[ZB hlen]
  exact uu
 have hnew:List.foldl (fun x1 x2=>x1++x2) #[] (uT (if its.toArray.isEmpty=true then 0 else k.toNat) its.toArray)=(uT k.toNat its).flatten.toArray:=by
  have f0:∀m:Nat,List.foldl (fun x1 x2=>x1++x2) #[] (uT m its.toArray)=(uT m its).flatten.toArray:=fun m=>by
   have:=jk its m []
   rw[List.nil_append]at this
   exact this
  rw[f0]
  cases its with
  |nil=>simp
  |cons a r'=>rw[if_neg (by simp)]
 refine wpAny_binaryOp_repeat_ref (T:="list") (U:="int") (by decide) ⟨_,e,rfl⟩ (fun s'=>typeIs_int s' k t) noFill_list_mul F.fills_int_mul F.slot_int_rmul repeat_list F.slot_int_index.lookup
  (call_meets F.slot_int_rmul (typeIs_int s k t) F.entry_int_rmul (F.args_int_rmul_2 _ _) (int___rmul___int_list k t l its.toArray n)
   ⟨e,rfl,⟨_,e,rfl⟩,call_meets F.slot_list_mul ⟨_,e,rfl⟩ F.entry_list_mul (F.args_list_mul_2 _ _) (AutoListH.list___mul___list_int_3 l its.toArray n k t hfit hcap hlong) ⟨e,?_⟩⟩)
 rw[hnew]
 exact⟨.ref _,_,I.lnew (t':=s.toks) (r.rep k.toNat) (by rw[Qt,Nat.mul_comm];exact hz),rfl,q _ I.fresh⟩
end
section
variable{prog:Program}{w:World}{A:Around}{E:Value->Shared->Prop}{s:Shared}
end
section
variable{X:Cx}
end
end L2
namespace Att
open PySem PySem.W PySem.Calls PyProof.Rows
theorem wX{P:Params}{h:Heap}:∀(ns:List Int)(vs:List Value),WellAll P h vs (ns.map WData.int)->IntsAre vs ns:=by
 intro ns
 induction ns with
 |nil =>
  intro vs w
  rw[List.map_nil]at w
  cases w
  exact .nil
 |cons n ns ih =>
  intro vs w
  rw[uH]at w
  cases w with
  |cons a b =>
   cases a
   exact .cons _ _ (ih _ b)
theorem Wf{l:OpenLaw}{n:Nat}(hn:l.most=some n){P:Params}{h:Heap}{args:List WData}{vals:List Value}
  (hpre:l.row.toRowW.claim.pre args=true) (hwl:WellAll P h vals args) :
  ∃a vs ns,vals=[Value.ref a]/\args=[WData.list (ns.map WData.int)]/\h.get? a=some { cls:=.type "list",data:=.seq vs.toArray }/\IntsAre vs ns/\ns.length<=n:=by
 have hsh:WShape.hasAll [] args [.list .int]=true:=(pre_splitW hpre).1
 have hc:l.pre.holds [] { args:=args }=true:=(pre_splitW hpre).2
 obtain⟨d,r,rfl,h1,h2⟩:=hasAllW_cons hsh
 obtain rfl:=hasAllW_nil h2
 obtain⟨xs,rfl,h3⟩:=hasW_list h1
 obtain⟨ns,rfl⟩:=items_int h3
 have hlen:ns.length<=n:=by
  unfold OpenLaw.pre at hc
  have h4:(WTm.not (.lt (.lit (.int (n:Int))) (.len (.arg 0)))).holds [] { args:=[.list (ns.map .int)] }=true:=by
   have h4:=(holds_andW hc).1
   rw[hn]at h4
   exact h4
  have h5:=condW_of h4 (w_not (w_lt w_lit (w_len_list (w_arg rfl))))
  rw[ua]at h5
  refine Nat.le_of_not_lt fun q=>?_
  have q':(n:Int) < ((ns.length:Nat):Int):=by lia
  first
   | (rw[decide_eq_true q']at h5;exact absurd h5 (by decide))
   | (simp at h5;lia)
 cases hwl with
 |cons w1 w2 =>
  cases w2
  cases w1 with
  |list ho hall=>exact⟨_,_,ns,rfl,rfl,ho,wX ns _ hall,hlen⟩
theorem Wg(l:OpenLaw)(args:List WData):l.row.toRowW.claim.post args (.bool true) args=true :=
 postW_of (r:=l.row.toRowW) (X:=(true == true))
  (show WShape.has [] (.bool true) .bool=true by first|rfl|decide|simp[WShape.has,WShape.arms,WShape.armsAll])
  (show(WTm.eq .res (.lit (.bool true))).value [] { args:=args,res:=some (.bool true),after:=args }=some (.bool (true == true))from w_eq_bool (w_res rfl) w_lit) rfl
theorem attach_call{l:OpenLaw}{n:Nat}{q:Program}{loose:List Str}{XP:(Str->Option Value)->Heap->Prop}{YP:World->Heap->Prop}{d:DefRec}
  (hn:l.most=some n) (hdf:d.params.defaults=[])
  (call:∀(w:World)(s₀ s₁:Shared)(mg mb:Str->Option Value)(fa:Addr)(o:Obj)(pm cd doc:Value)(a:Addr)(vs:List Value)(ns:List Int),
   Ground q loose [] XP w s₀ mg mb s₁.heap->YP w s₁.heap ->
   s₁.heap.get? fa=some o->o.data=.func (docDef d.name d.params d.body d.scope pm cd doc)->s₁.heap.CodeRec cd d.name->mg d.name=some (.ref fa) ->
   s₁.heap.get? a=some { cls:=.type "list",data:=.seq vs.toArray }->IntsAre vs ns->ns.length<=n->s₁.gens=#[] ->
   codeAny (model l.prog w) callerA (.call (.ref fa) ⟨[.ref a],[]⟩) (fun r s'=>r=.ok (.ret (.bool true))/\OldK s₁.heap s'.heap/\s'.os=s₁.os/\AllBare s'.gens) s₁) :
  WalkO q loose XP YP l.row.toRowW d [] (fun f vs=>PySem.call f vs):=by
 intro w s₀ s₁ mg mb G Y fa o pm cd doc dV kV ho hd hcd hD hmg hg args vals as hpre hlay hrd hwl hlo
 obtain rfl:dV=.none:=Dflts.none hD hdf
 obtain rfl:kV=.none:=Dflts.noKw hD
 obtain⟨a,vs,ns,rfl,rfl,hobj,hints,hlen⟩:=Wf hn hpre hwl
 refine enter_call (codeAny_mono (call w s₀ s₁ mg mb fa o pm cd doc a vs ns G Y ho (fd_plain hd) hcd hmg hobj hints hlen hg) fun r s' hq=>?_)
 obtain⟨rfl,h2,h3,h4⟩:=hq
 exact⟨.inl ⟨.bool true,.bool true,[],rfl,fun _=>rfl,.bool true,Wg l _,fun _=>⟨List.Pairwise.nil,fun _ hm=>(nomatch hm)⟩⟩,h2,h3,h4⟩
section
variable{prog:Program}{w:World}{A:Around}{E:Value->Shared->Prop}{s:Shared}{K:Frag}
def zdb(h:Heap)(L d:Addr):List (Addr×Obj):=(uC h.objs.size).filterMap fun a=>if a=L\/a=d then none else(h.get? a).map fun o=>(a,o)
end
end Att
namespace L2
open PySem PySem.Spec PyProof.Rows
theorem jl:∀{vs:List Value}{ns:List Int},IntsAre vs ns->Vals (ns.map V.int) vs
 |_,_,.nil=>.nil
 |_,_,.cons n t h=>.cons ⟨t,rfl⟩ (jl h)
end L2
/- THE LAST THEOREM (shape; LID, My.* are yours):
   My.Adr: a structure of the addresses that your layer names (classes,functions);My.Txt K t: a structure (Prop) of the equations over K;
   My.txt_mk:{K} {implicit addresses ..} (e1:nsIn K mainGlobals "law"=some (some (.ref f))) (e2:K.lookup f=some ⟨oc,od,.func (fnOf "law" "law" params body scope dV kV doc pm an cdv ct),sl⟩) (e3:codeIn K cdv "law"=true) ..:∃t,My.Txt K t
set_option maxRecDepth 100000 in
set_option maxHeartbeats 0 in
theorem PySem.Challenge.cw_LID_holds : PySem.Challenge.rw_LID.Holds := by
 w_on;o_law;k_head;(case hw=>w_witness2)
 k_fill
 refine L2.walk_of (l:=PySem.Challenge.rw_LID) (n:=63) (k:=40) (x:="script") (CX:=fun w=>..) (sp:=fun _=>My.sp_law) rfl (by decide) rfl ⟨rfl,by decide,by decide⟩ (fun w h Y=>PySem.W.kIn_of Y) ?F ?S ?C
 case F =>
  intro w mg fa h KX G hmg
  have T:∃t,My.Txt (L2.KOf KX) t:=by
   dsimp only [L2.KOf]                          -- K must stand as «<heap const> w.params» for k_is
   refine' My.txt_mk ?e1 ?e2 ?e3 ..
   (case e1 => PySem.W.k_is)                    -- in the order: a name -> its address -> its object -> its parts
   (case e2=>PySem.W.k_is)
   ..
  obtain⟨t,T⟩:=T
  have e0:=hmg.symm.trans (tY KX G T.law)
  cases e0                                       -- fa is the law's own address
  exact ⟨_, fun s u => .of_eq rfl, fun base kb nb => My.law_fn T kb nb⟩     -- if «.of_eq rfl» comes too early: refine' ⟨_, ?b, fun base kb nb => My.law_fn T kb nb⟩; exact fun s u => .of_eq rfl
 case S=>exact fun w H a ns hl hO hS=>..
 case C=>exact ..
(the tactic k_is has no namespace: write k_is) -/
namespace L2
open PySem PySem.Spec PyProof.Rows
def wZ(s:Stmt)(j:Nat):Stmt:=match s with
 |.ClassDef _ _ _ body _ _ _ _ _ _ _=>body.getD j (.Pass ⟨0,0,0,0⟩)
 |_=>.Pass ⟨0,0,0,0⟩
def zX(s:Stmt):Arguments:=match s with
 |.FunctionDef _ a _ _ _ _ _ _ _ _=>a
 |_=>{ posonlyargs:=[],args:=[],vararg:=none,kwonlyargs:=[],kw_defaults:=[],kwarg:=none,defaults:=[] }
def zL(s:Stmt):List Stmt:=match s with
 |.FunctionDef _ _ b _ _ _ _ _ _ _=>b
 |_=>[]
def zo(s:Stmt):Scope:=match s with
 |.FunctionDef _ _ _ _ _ _ sc _ _ _=>sc
 |_=>{ kind:=.function,names:=[],isGenerator:=false,isCoroutine:=false }
abbrev CX0:CXT:=fun _ _ _ _ _ _=>False
abbrev E0:XK:=fun _ _ _=>False
theorem xp{X:Cx}:yw CX0 X E0:=fun _ _ _ _ _ _ _ h=>h.elim
structure Fun(K:ub)(x qual:Str)(st:Stmt)(f:Addr)(fd:FuncData):Prop where
 ex:∃(oc:Value)(od:Option Addr)(kV doc pm:Value)(an:Option Addr)(cdv ct:Value)(osl:Array (Option Value)),
  fd=Ui x qual (zX st) (zL st) (zo st) .none kV doc pm an cdv ct/\K.lookup f=some ⟨oc,od,.func fd,osl⟩/\UM K cdv qual=true
 kp:u0 K (.ref f)=true
section
variable{P:Program}{w:World}{K:ub}{mg:Str->Option Value}{base:Heap}
theorem Fun.ok{x qual:Str}{st:Stmt}{f:Addr}{fd:FuncData}{N ps:List Str}{k:Nat}{sp:Sp}(F:Fun K x qual st f fd)(S:FnScope N ps (zo st))(len:∀vs H Q E,sp vs H Q E->vs.length=ps.length)
  (hbody:∀(cdv:Value)(A:Around)(outer:List Env)(s:Shared)(H:Hp)(vs:List V)(Q:VK)(E:XK),Room k (A.deeper (envOfC qual (zo st) s.heap.objs.size f cdv))->sp vs H Q E ->
   ∃t,PSs (cxOf CX0 P w K mg base N qual (zo st) f cdv A outer s H E).nox (zL st) t/\t { nx:=fun _ H'=>Q .non H',rt:=Q } (start N vs) H):FnOk P w K mg base CX0 (k+1) f fd ps sp:=by
 obtain⟨oc,od,kV,doc,pm,an,cdv,ct,osl,rfl,lk,hcd⟩:=F.ex
 refine za0 lk hcd S len fun A outer s H vs Q E hr hsp=>?_
 obtain⟨t,h,q⟩:=hbody cdv A outer s H vs Q E hr hsp
 exact⟨t,h.nox,q⟩
theorem Fun.binds{x qual:Str}{st:Stmt}{f:Addr}{fd:FuncData}{ps:List Str}(F:Fun K x qual st f fd)
  (h:∀(kV doc pm:Value)(an:Option Addr)(cdv ct:Value)(us:List Value),us.length=ps.length->bindArgs (Ui x qual (zX st) (zL st) (zo st) .none kV doc pm an cdv ct) ⟨us,[]⟩=pure (ps.zip us)):Binds K fd ps []:=by
 obtain⟨oc,od,kV,doc,pm,an,cdv,ct,osl,rfl,lk,hcd⟩:=F.ex
 exact .all (h kV doc pm an cdv ct)
theorem W9{x qual:Str}{st:Stmt}{f:Addr}{oc:Value}{od an:Option Addr}{osl:Array (Option Value)}{kV doc pm cdv ct:Value}(l:K.lookup f=some ⟨oc,od,.func (Ui x qual (zX st) (zL st) (zo st) .none kV doc pm an cdv ct),osl⟩)
  (c:UM K cdv qual=true) (k:u0 K (.ref f)=true):Fun K x qual st f (Ui x qual (zX st) (zL st) (zo st) .none kV doc pm an cdv ct):=⟨⟨oc,od,kV,doc,pm,an,cdv,ct,osl,rfl,l,c⟩,k⟩
end
theorem ZD{A:Around}{k:Nat}(hr:Room k A):A.units+1 < cLine:=Nat.lt_of_le_of_lt (Nat.add_le_add_left (by decide:1<=64) _) hr.units
section
variable{X:Cx}
theorem pv(i:Nat){x:Str}{pos:Pos}(hN:X.N[i]?=some x:=by rfl)(hv:Vis X.env.scope x:=by first|exact Or.inl rfl|exact Or.inr (Or.inl rfl)|exact Or.inr (Or.inr rfl))(hd:(x == ("__debug__":Str))=false:=by decide)
  (hcd:(x == ("__classdict__":Str))=false:=by decide):PE X (.Name x pos) (tVar i):=zbp hN hv hd hcd
end
theorem iteF{A B:Prop}(h:B):if false=true then A else B:=by
 rw[if_neg uu]
 exact h
theorem iteT{A B:Prop}(h:A):if true=true then A else B:=by
 rw[if_pos rfl]
 exact h
theorem ite2{c A B:Prop}[Decidable c](h1:c->A)(h2:¬ c->B):if c then A else B:=by
 by_cases h:c
 ·rw[if_pos h]
  exact h1 h
 ·rw[if_neg h]
  exact h2 h
def Same(H H':Hp):Prop:=∀b o,H b=some o->H' b=some o
theorem Same.refl(H:Hp):Same H H:=fun _ _ h=>h
theorem Same.trans{H H1 H2:Hp}(a:Same H H1)(b:Same H1 H2):Same H H2:=fun c o h=>b c o (a c o h)
theorem Same.free{H H':Hp}(e:Same H H'){l:Addr}(h:H' l=Option.none):H l=Option.none:=by
 cases q:H l with
 |none=>rfl
 |some o =>
  rw[e l o q]at h
  cases h
theorem Same.seq{K:ub}{H H':Hp}{a:Addr}{xs:List V}(e:Same H H')(h:SqL K H a xs):SqL K H' a xs:=by
 rcases h with(h|⟨o,h⟩)|h
 ·exact .inl (.inl (e _ _ h))
 ·exact .inl (.inr ⟨o,e _ _ h⟩)
 ·exact .inr h
def AllIn(env:Env):List (Str×Addr)->Prop
 |[]=>True
 |p::r=>env.cells.lookup p.1=some p.2/\AllIn env r
theorem AllIn.get{env:Env}:∀{cl:List (Str×Addr)}{y:Str}{c:Addr},AllIn env cl->cl.lookup y=some c->env.cells.lookup y=some c
 |[],_,_,_,h=>by simp at h
 | (n,a)::r,y,c,⟨e,t⟩,h=>by
  rw[UK]at h
  by_cases q:y=n
  ·subst q
   rw[beq_self_eq_true]at h
   cases h
   exact e
  ·have q':(y == n)=false:=beq_eq_false_iff_ne.mpr q
   rw[q']at h
   exact AllIn.get t h
def xV:List Nat->St->St
 |[],σ=>σ
 |i::S,σ=>xV S (σ.set i none)
theorem xz:∀(S:List Nat)(σ:St),(xV S σ).length=σ.length
 |[],_=>rfl
 |i::S,σ=>by rw[xV,xz S,List.length_set]
theorem jm:∀(S:List Nat)(σ:St){j:Nat}{v:V},(xV S σ)[j]?=some (some v)->σ[j]?=some (some v)/\j∉S
 |[],_,_,_,h=>⟨h,by simp⟩
 |i::S,σ,j,v,h=>by
  obtain⟨h1,h2⟩:=jm S (σ.set i none) h
  rw[List.getElem?_set]at h1
  by_cases e:i=j
  ·rw[if_pos e]at h1
   split at h1<;>cases h1
  ·rw[if_neg e]at h1
   exact⟨h1,fun z=>(um.mp z).elim (fun z=>e z.symm) h2⟩
structure LcOk(X:Cx)(scope:Scope)(cl:List (Str×Addr))(S:List Nat):Prop where
 clos:closureFor scope X.env=pure cl
 kind:scope.kind=.function
 noC:scope.names.all (fun y=>y.2 != .cell)=true
 loc:scope.names.all (fun y=>y.2 != .local || scope.names.lookup y.1 == some .local)=true
 own:X.N.zipIdx.all (fun y=>S.contains y.2 || scope.names.lookup y.1 != some .local)=true
 sub:AllIn X.env cl
 has:scope.names.all (fun p=>p.2 != .free || ((cl.lookup p.1).isSome && (X.env.kindOf p.1 == some .cell || X.env.kindOf p.1 == some .free)))=true
section
variable{X:Cx}{scope:Scope}{cl:List (Str×Addr)}{S:List Nat}
theorem LcOk.nocell(L:LcOk X scope cl S):∀y∈scope.names,y.2≠.cell:=fun y hy=>by
 have h:=Uf.mp L.noC y hy
 exact bne_iff_ne.mp h
theorem LcOk.locs(L:LcOk X scope cl S):∀y∈scope.names,y.2=.local->scope.names.lookup y.1=some .local:=fun y hy e=>by
 have h:=Uf.mp L.loc y hy
 rw[e]at h
 simpa using h
theorem LcOk.apart(L:LcOk X scope cl S):∀(i:Nat)(y:Str),X.N[i]?=some y->i∉S->scope.names.lookup y≠some .local:=fun i y hy hi=>by
 have h:=Uf.mp L.own (y,i) (UX.mpr hy)
 have hc:S.contains i=false:=by simpa using hi
 rw[hc,tZ]at h
 exact bne_iff_ne.mp h
theorem LcOk.free(L:LcOk X scope cl S){y:Str}(h:scope.names.lookup y=some .free):(∃c,cl.lookup y=some c)/\(X.env.kindOf y=some .cell\/X.env.kindOf y=some .free):=by
 have h1:=Uf.mp L.has _ (u6 h)
 simp only[bne_self_eq_false,tZ,Uk,UA,beq_iff_eq]at h1
 exact⟨tX.mp h1.1,h1.2⟩
theorem yO(names:List (Str×NameKind))(env:Env)(y:Str):
  (names.map fun(n,k)=>if(k == NameKind.free && env.scope.kind == .function && env.kindOf n == some .cell)then(n,NameKind.cell)else(n,k)).lookup y =
   (names.lookup y).map fun k=>if(k == NameKind.free && env.scope.kind == .function && env.kindOf y == some .cell)then NameKind.cell else k:=by
 induction names with
 |nil=>rfl
 |cons p r ih =>
  obtain⟨n,k⟩:=p
  rw[uH]
  by_cases q:y=n
  ·subst q
   by_cases hc:(k == NameKind.free && env.scope.kind == .function && env.kindOf y == some .cell)=true
   ·show U0 y ((if(k == NameKind.free && env.scope.kind == .function && env.kindOf y == some .cell)=true then(y,NameKind.cell)else(y,k))::_)=_
    rw[if_pos hc,UK,UK,beq_self_eq_true]
    show some NameKind.cell=some (if _ then _ else _)
    rw[if_pos hc]
   ·show U0 y ((if(k == NameKind.free && env.scope.kind == .function && env.kindOf y == some .cell)=true then(y,NameKind.cell)else(y,k))::_)=_
    rw[if_neg hc,UK,UK,beq_self_eq_true]
    show some k=some (if _ then _ else _)
    rw[if_neg hc]
  ·have q':(y == n)=false:=beq_eq_false_iff_ne.mpr q
   by_cases hc:(k == NameKind.free && env.scope.kind == .function && env.kindOf n == some .cell)=true
   ·show U0 y ((if(k == NameKind.free && env.scope.kind == .function && env.kindOf n == some .cell)=true then(n,NameKind.cell)else(n,k))::_)=_
    rw[if_pos hc,UK,UK,q']
    exact ih
   ·show U0 y ((if(k == NameKind.free && env.scope.kind == .function && env.kindOf n == some .cell)=true then(n,NameKind.cell)else(n,k))::_)=_
    rw[if_neg hc,UK,UK,q']
    exact ih
theorem LcOk.kinds(L:LcOk X scope cl S){y:Str}(h:(relabel scope X.env).names.lookup y=some .cell\/(relabel scope X.env).names.lookup y=some .free):scope.names.lookup y=some .free:=by
 have e:(relabel scope X.env).names.lookup y=(scope.names.lookup y).map fun k=>if(k == NameKind.free && X.env.scope.kind == .function && X.env.kindOf y == some .cell)then NameKind.cell else k:=yO scope.names X.env y
 rw[e]at h
 cases q:scope.names.lookup y with
 |none=>rw[q]at h;rcases h with h|h<;>cases h
 |some k =>
  have hk:k≠.cell:=L.nocell _ (u6 q)
  rw[q]at h
  by_cases hf:k=.free
  ·rw[hf]
  ·have z:(k == NameKind.free)=false:=beq_eq_false_iff_ne.mpr hf
   rw[U9,z,Uy,Uy,if_neg uu]at h
   rcases h with h|h
   ·exact absurd (uO.inj h) hk
   ·exact absurd (uO.inj h) hf
def cxLC(X:Cx)(scope:Scope)(cl:List (Str×Addr))(M:List Str)(C:Addr)(s₀:Shared)(H₀:Hp)(ex:List Addr)(E:Value->Shared->Prop):Cx where
 prog:=X.prog
 w:=X.w
 K:=X.K
 mg:=X.mg
 base:=X.base
 A:=X.A
 N:=X.N++M
 s₀:=s₀
 H₀:=H₀
 env:=compEnvC scope cl C X.env
 outer:=X.stack
 stack:=X.stack
 ex:=ex
 fn:=fun _=>false
 calm:=X.calm
 pn:=[]
 xe:=E
variable{pins:List (Addr×Obj)}{σ:St}{H:Hp}{s:Shared}{ex:List Addr}{M:List Str}{C:Addr}
theorem Va{E:Value->Shared->Prop}{h1:Heap}{tk:Nat}{m:Str->Option Value}(I:Inv X pins σ H s)(L:LcOk X scope cl S)(hf:∀b∈ex,FpOk X pins H b)(hlt:∀b∈ex,b < s.heap.objs.size)
  (hk:∀b o,s.heap.get? b=some o->h1.get? b=some o) (hC:s.heap.objs.size<=C) (hns:h1.Ns C m) :
  Inv (cxLC X scope cl M C s H ex E) [] (xV S σ++uT M.length none) H { s with heap:=h1,toks:=tk }:=by
 refine⟨⟨I.ok.mod,L.kind,I.ok.glob,I.ok.blt,hC,fun x y c a b=>I.ok.inj x y c (L.sub.get a) (L.sub.get b),fun y hy=>(L.free (L.kinds hy)).1,(fun x c z=>nomatch z),I.ok.hd,I.ok.frames,.inl rfl,fun b hb=>⟨?_,fun x c e=>?_⟩,
   I.bs,Uc I.ok.bsz I.sz,fun b o e hb=>?_,fun b hb z=>?_,I.stack,I.stkFree⟩,
  rfl,I.bare,Un.kept hk,⟨m,hns,fun i y v e1 e2 e3=>?_⟩,fun y c e=>?_,I.hok.fresh hC,fun y c e=>I.freeC y c (L.sub.get e),fun p hp=>absurd (show p∈([]:List (Addr×Obj))from hp) (by simp),I.hok.kept hk,?_⟩
 ·exact uS (uP (hlt b hb) hC)
 ·exact(hf b hb).2.2.2.2.1 x c (L.sub.get e)
 ·rcases(hf b hb).2.2.2.1 with z|z
  ·exact I.ok.noex b o e z
  ·exact absurd (uP (uv e) (Uc I.ok.bsz z)) (UG _)
 ·rcases um.mp (I.stkSub b z)with q|q
  ·exact(hf b hb).2.1 q
  ·exact(hf b hb).2.2.1 q
 ·have e1':(X.N++M)[i]?=some y:=e1
  by_cases hi:i < σ.length
  ·rw[uX (by rw[xz];exact hi)]at e2
   obtain⟨e2,hiS⟩:=jm S σ e2
   rw[uX (by rw[<- I.len];exact hi)]at e1'
   obtain⟨m0,hn0,hl⟩:=I.loc
   have hy:scope.names.lookup y=some .free:=by
    rcases e3 with e3|e3
    ·have q:=yO scope.names X.env y
     have e3':(relabel scope X.env).names.lookup y=some .local:=e3
     cases z:scope.names.lookup y with
     |none =>
      rw[z]at q
      have q':(relabel scope X.env).names.lookup y=none:=q
      rw[e3']at q';cases q'
     |some k =>
      have hk1:k≠.local:=fun w=>L.apart i y e1' hiS (w ▸ z)
      rw[z,U9]at q
      have q':some NameKind.local=some (if(k == NameKind.free && X.env.scope.kind == .function && X.env.kindOf y == some .cell)=true then NameKind.cell else k):=e3'.symm.trans q
      have q2:=uO.inj q'
      by_cases hc:(k == NameKind.free && X.env.scope.kind == .function && X.env.kindOf y == some .cell)=true
      ·rw[if_pos hc]at q2;cases q2
      ·rw[if_neg hc]at q2;exact absurd q2.symm hk1
    ·exact L.kinds e3
   obtain⟨⟨c,hc⟩,hk2⟩:=L.free hy
   obtain⟨u,r,l⟩:=hl i y v e1' e2 (.inr hk2)
   refine⟨u,r,.inr ⟨?_,c,hc,?_⟩⟩
   ·have q:=yO scope.names X.env y
    rw[hy,U9]at q
    have q':(relabel scope X.env).names.lookup y=some (if(NameKind.free == NameKind.free && X.env.scope.kind == .function && X.env.kindOf y == some .cell)=true then NameKind.cell else NameKind.free):=q
    by_cases hc:(NameKind.free == NameKind.free && X.env.scope.kind == .function && X.env.kindOf y == some .cell)=true
    ·rw[if_pos hc]at q';exact .inl q'
    ·rw[if_neg hc]at q';exact .inr q'
   ·rcases l with⟨l1,_⟩|⟨_,c',e',z⟩
    ·rcases hk2 with w|w<;>(rw[l1]at w;cases w)
    ·have ec:c'=c:=by
      have w:=L.sub.get hc
      rw[e']at w
      exact uO.inj w
     subst ec
     obtain⟨o,ho,hd⟩:=z
     exact⟨o,hk _ _ ho,hd⟩
  ·rw[Ug (by rw[xz];exact Nat.not_lt.mp hi),List.getElem?_replicate]at e2
   split at e2<;>cases e2
 ·obtain⟨v,o,ho,hd⟩:=I.cell y c (L.sub.get e)
  exact⟨v,o,hk _ _ ho,hd⟩
 ·show(xV S σ++uT M.length none).length=(X.N++M).length
  rw[uf,uf,UE,xz,I.len]
def PTs(X:Cx)(ifs:List Expr)(t:TT):Prop :=
 ∀(pins:List (Addr×Obj))(s:Shared)(σ:St)(H:Hp)(Q:Bool->Hp->Prop),Inv X pins σ H s->t σ H Q ->
  wpAny (model X.prog X.w) X.A (forIn ifs true fun c r=>if r=true then do let ok <- isTrue c X.env (eval c X.env);pure (ForInStep.yield ok)else pure (ForInStep.yield r)) (TP X pins σ Q) X.xe s
def tYes:TT:=fun _ H Q=>Q true H
theorem Qu{X:Cx}:PTs X [] tYes:=fun _ _ _ H _ I h=>wpAny_tests_nil ⟨H,I,h⟩
theorem Qv{X:Cx}{c:Expr}{t:TT}(h:PT X c t):PTs X [c] t:=fun pins s σ H Q I q=>wpAny_tests_one (h pins s σ H Q I q)
def lcBy(J:It)(g:TG)(tt:TT)(te:TE)(Q:VK)(W:Nat->Nat->St->List V->Hp->Prop):Prop:=∀i m τ ys H,W i m τ ys H ->
 (J.stop i H/\∀p,H p=none->Q (.ref p) (upd H p (.lst ys))) \/
 (J.go i H/\∃N:St->List V->Hp->Prop,(∀τ' ys' H',N τ' ys' H'->∃m',m' < m/\W (i+1) m' τ' ys' H')/\∀x H',J.yld i H x H'->g x τ H' fun τ2 H2=>tt τ2 H2 fun b H3 =>
  if b=true then te τ2 H3 fun y H4=>ys.length < sizeLine/\N τ2 (ys++[y]) H4 else N τ2 ys H3)
def tLC(wi:TI)(g:TG)(tt:TT)(te:TE)(n:Nat):TE:=fun σ H Q=>wi σ H fun J H1=>∃W,(∃m,W 0 m (σ++uT n none) [] H1)/\lcBy J g tt te Q W
def tLCS(S:List Nat)(wi:TI)(g:TG)(tt:TT)(te:TE)(n:Nat):TE:=fun σ H Q=>wi σ H fun J H1=>∃W,(∃m,W 0 m (xV S σ++uT n none) [] H1)/\lcBy J g tt te Q W
theorem Xo{tg elt iter:Expr}{ifs:List Expr}{pos:Pos}{g:TG}{tt:TT}{te:TE}{J:It}{fp:List Addr}{it:Addr}{tn:Nat->Heap->Prop}{Q:VK}{E:Value->Shared->Prop}{R:Value->Addr->Result->Shared->Prop}{Al:Addr->(Value->Shared->Prop)->Prop}
  {W:Nat->Nat->St->List V->Hp->Prop} {m0:Nat} (L:LcOk X scope cl S) (hc:X.calm=true) (I:Inv X pins σ H s) (T:Turn X.prog X.w X.K tg J fp it tn) (st:tn 0 s.heap) (hf:∀b∈fp,FpOk X pins H b)
  (hg:∀C s H ex E,PG (cxLC X scope cl M C s H ex E) tg g) (ht:∀C s H ex E,PTs (cxLC X scope cl M C s H ex E) ifs tt) (he:∀C E,Al C E->PE (cxLC X scope cl M C s H fp E) elt te)
  (hal:∀C,s.heap.objs.size < C->Al C (notedBy (model X.prog X.w) X.A (compEnvC scope cl C X.env) (fun e s'=>R (.ref s.heap.objs.size) C (.error e) s')))
  (w0:W 0 m0 (xV S σ++uT M.length none) [] H) (turn:lcBy J g tt te Q W)
  (hR:∀D C s' H' ys m,Inv X pins σ (upd H' D (.lst ys)) s'->FpOk X pins (upd H' D (.lst ys)) C->s'.heap.Ns C m->Q (.ref D) (upd H' D (.lst ys))->R (.ref D) C (.ok .next) s') :
  wpAny (model X.prog X.w) X.A (newList []) (fun acc s₃=>wpAny (model X.prog X.w) X.A (newFunctionEnv scope X.env.globals cl [] X.env.qual none .none (some X.env)) (fun cenv s₄ =>
   codeAny (model X.prog X.w) X.A (.compStart (.ListComp elt [⟨tg,iter,ifs,0⟩] scope pos) 0 (.ref it) acc { cenv with scope:=relabel scope X.env }) (R acc cenv.locals) s₄) E s₃) E s:=by
 refine wpAny_newObj_type (wpAny_newFunctionEnv L.nocell (by intro y hy;simp at hy) (fun h₁ hns₁ hsb₁=>?_) L.kind)
 dsimp only at hns₁ hsb₁ ⊢
 generalize hG:s.heap.push { cls:=.type "list",dict:=none,data:=.seq ([]:List Value).toArray }=G at hns₁ hsb₁ ⊢
 have hC:G.objs.size=s.heap.objs.size+1:=by rw[<- hG,Ut]
 have hDC:s.heap.objs.size≠G.objs.size:=by rw[hC];exact uS (tR _)
 have hCle:s.heap.objs.size<=G.objs.size:=by rw[hC];exact tj _
 have old:∀b o,s.heap.get? b=some o->h₁.get? b=some o:=fun b o e =>
  hsb₁.extBut b o (by rw[hC];exact uS (Te (uv e))) (ug _ (hG ▸ ug _ e))
 have hacc:h₁.get? s.heap.objs.size=some { cls:=.type "list",data:=.seq ([]:List Value).toArray }:=hsb₁.extBut _ _ hDC (ug _ (hG ▸ uA _ rfl))
 have fpo:∀b∈fp,b < s.heap.objs.size:=fun b hb=>let ⟨o,e,_⟩:=T.obj 0 _ st b hb;uv e
 have st1:tn 0 h₁:=T.keep 0 _ _ st fun b _ o e=>old b o e
 have nofs:s.heap.objs.size∉frs X.stack:=fun z=>by
  rcases um.mp (I.stkSub _ z)with q|q
  ·exact absurd (q ▸ I.lt) (UG _)
  ·exact I.nofs (ud _) q
 have nocl:∀y c,cl.lookup y=some c->c≠s.heap.objs.size:=fun y c e z=>by
  obtain⟨v,o,ho,_⟩:=I.cell y c (L.sub.get e)
  exact absurd (z ▸ uv ho) (UG _)
 have loop:∀s₃:Shared,s₃={ s with heap:=h₁,toks:=s.toks+([]:List (Str×Value)).length } ->
   codeAny (model X.prog X.w) X.A (.compLoop (.ListComp elt [⟨tg,iter,ifs,0⟩] scope pos) 0 (.ref it) (.ref s.heap.objs.size) (compEnvC scope cl G.objs.size X.env)) (R (.ref s.heap.objs.size) G.objs.size) s₃:=by
  rintro s₃ rfl
  have hAl:=hal G.objs.size (by rw[hC];exact tR _)
  generalize hE:notedBy (model X.prog X.w) X.A (compEnvC scope cl G.objs.size X.env) (fun e s'=>R (.ref s.heap.objs.size) G.objs.size (.error e) s')=E' at hAl ⊢
  have IY:Inv (cxLC X scope cl M G.objs.size s H fp E') [] (xV S σ++uT M.length none) H { s with heap:=h₁,toks:=s.toks+([]:List (Str×Value)).length }:=Va I L hf fpo old hCle hns₁
  refine codeAny_loop rfl (fun n s'=>∃(i:Nat)(τ:St)(H':Hp)(ys:List V)(its:List Value)(k:Nat),Inv (cxLC X scope cl M G.objs.size s H fp E') [] τ H' s'/\tn i s'.heap/\(∀b∈fp,H' b=none) /\
   s'.heap.get? s.heap.objs.size=some { cls:=.type "list",data:=.seq its.toArray k }/\H' s.heap.objs.size=none/\Vals ys its/\ys.length<=sizeLine/\W i n τ ys H') (fun n s' hI=>?_) m0
   ⟨0,_,H,[],[],_,IY,st1,fun b hb=>(hf b hb).1,hacc,I.hok.fresh (ud _),.nil,uW _,w0⟩
  obtain⟨i,τ,H1,ys,its,k,I1,st1,fr1,eD,fD,rv,hz,w1⟩:=hI
  show wpAny _ X.A ((compTurn (.ListComp elt [⟨tg,iter,ifs,0⟩] scope pos) 0 (.ref it) (.ref s.heap.objs.size) (compEnvC scope cl G.objs.size X.env)).onRaise (fun x=>do noteFrame x (compEnvC scope cl G.objs.size X.env);theTreesLotGoes x)) _ _ s'
  refine wpAny_noted ?_
  rw[hE,compTurn_list]
  have I1':Inv (cxLC X scope cl M G.objs.size s H fp E') [(s.heap.objs.size,{ cls:=.type "list",data:=.seq its.toArray k })] τ H1 s':=I1.pins_of fun p hp=>by
   have e:p=(s.heap.objs.size,{ cls:=.type "list",data:=.seq its.toArray k }):=by simpa using hp
   subst e
   exact⟨eD,fD,hDC,nofs,(fun v z=>nomatch z)⟩
  have stat:∀{H':Hp},(∀b∈fp,H' b=none)->∀b∈fp,FpOk (cxLC X scope cl M G.objs.size s H fp E') [(s.heap.objs.size,{ cls:=.type "list",data:=.seq its.toArray k })] H' b:=fun hn b hb=>by
   refine⟨hn b hb,?_,?_,.inl hb,fun x c e=>(hf b hb).2.2.2.2.1 x c (L.sub.get e),fun p hp z=>?_⟩
   ·exact uS (uP (fpo b hb) hCle)
   ·intro z
    rcases um.mp (I.stkSub b z)with q|q
    ·exact(hf b hb).2.1 q
    ·exact(hf b hb).2.2.1 q
   ·have e:p=(s.heap.objs.size,{ cls:=.type "list",data:=.seq its.toArray k }):=by
     have hp':p∈[(s.heap.objs.size,({ cls:=.type "list",data:=.seq its.toArray k }:Obj))]:=hp
     simpa using hp'
    subst e
    exact absurd (z ▸ fpo b hb) (UG _)
  refine wpAny_bind (wpAny_standAt (wpAny_bind ?_))
  rcases turn i n τ ys H1 w1 with⟨stop,q⟩|⟨go,N,hN,step⟩
  ·refine thn (T.done (cxLC X scope cl M G.objs.size s H fp E') rfl rfl rfl hc i _ s' τ H1 E' I1' (stat fr1) st1 stop) fun r s4 ⟨hr,I4⟩=>?_
   subst hr
   refine wpAny_pure ?_
   obtain⟨eD4,_,_⟩:=I4.pin (s.heap.objs.size,{ cls:=.type "list",data:=.seq its.toArray k }) (uo _ uK)
   have base4:Un (frs X.stack) fp H H1 s.heap s4.heap:=I4.base
   have un:Un (frs X.stack) fp H (upd H1 s.heap.objs.size (.lst ys)) s.heap s4.heap:=⟨base4.keep,base4.slot,fun b o e n hx=>by rw[zi (uS (uv e))];exact base4.free b o e n hx,base4.there,
    fun b xs e=>by rw[zi (zk (base4.tups b xs e) fD)];exact base4.tups b xs e,fun b o u e=>by rw[zi (zk (base4.frzs b o u e) fD)];exact base4.frzs b o u e,
    fun b ps e=>by
     obtain⟨more,w⟩:=base4.tbls b ps e
     exact⟨more,by rw[zi (zk w fD)];exact w⟩⟩
   have hok:HOk X.prog X.w (upd H1 s.heap.objs.size (.lst ys)) s4.heap:=fun b u e=>by
    by_cases hb:b=s.heap.objs.size
    ·subst hb
     rw[upd_same]at e
     cases e
     exact⟨hz,its,k,rv,eD4⟩
    ·rw[zi hb]at e
     exact(I4.hok b u e).stay (fun c v _ q=>q) (fun c q=>by rw[zi (zk q fD)];exact q) fun c xs q=>by rw[zi (zk q fD)];exact q
   have IX:Inv X pins σ (upd H1 s.heap.objs.size (.lst ys)) s4:=I.call' I4.os un hok I4.bare fun b hb=>⟨(hf b hb).2.2.2.1,(hf b hb).2.1,(hf b hb).2.2.2.2.1,(hf b hb).2.2.2.2.2⟩
   have fC:H1 G.objs.size=none:=I4.free
   obtain⟨m4,n4,_⟩:=I4.loc
   exact hR _ _ s4 H1 ys m4 IX (I.fpOk hCle (by rw[zi (Ne.symm hDC)];exact fC)) n4 (q _ fD)
  ·refine thn (T.item (cxLC X scope cl M G.objs.size s H fp E') rfl rfl rfl hc i _ s' τ H1 E' I1' (stat fr1) st1 go) fun r s4 ⟨u,hr,h4⟩=>?_
   subst hr
   refine wpAny_bind (thn h4 fun _ s5 ⟨x,H5,I5,r5,y5,st5,fr5⟩=>?_)
   have I5':=I5.pinned (stat fr5) (T.obj _ _ st5)
   have kept:∀{τ6:St}{H6:Hp}{s6:Shared},Inv (cxLC X scope cl M G.objs.size s H fp E') ([(s.heap.objs.size,{ cls:=.type "list",data:=.seq its.toArray k })]++vm fp s5.heap) τ6 H6 s6 ->
     Inv (cxLC X scope cl M G.objs.size s H fp E') [] τ6 H6 s6/\tn (i+1) s6.heap/\(∀b∈fp,H6 b=none)/\s6.heap.get? s.heap.objs.size=some { cls:=.type "list",data:=.seq its.toArray k }/\H6 s.heap.objs.size=none:=fun{τ6 H6 s6} I6=>by
    have pin:∀b∈fp,∀o,s5.heap.get? b=some o->s6.heap.get? b=some o/\H6 b=none:=fun b hb o e =>
     let w:=I6.pin (b,o) (uo _ (uo _ (xJ hb e)))
     ⟨w.1,w.2.1⟩
    have pD:=I6.pin (s.heap.objs.size,{ cls:=.type "list",data:=.seq its.toArray k }) (uo _ (uB _ uK))
    refine⟨I6.pins_of (fun p hp=>nomatch hp),T.keep _ _ _ st5 fun b hb o e=>(pin b hb o e).1,fun b hb=>?_,pD.1,pD.2.1⟩
    obtain⟨o,e,_⟩:=T.obj _ _ st5 b hb
    exact(pin b hb o e).2
   refine wpAny_bind (thn (hg _ _ _ _ _ _ s5 τ H5 x u _ I5' r5 (step x H5 y5)) fun _ s6 ⟨σ6,H6,I6,q6⟩=>?_)
   refine wpAny_bind (thn (ht _ _ _ _ _ _ s6 σ6 H6 _ I6 q6) fun ok s7 ⟨H7,I7,q7⟩=>?_)
   cases ok with
   |false =>
    have q7':N σ6 ys H7:=by simpa using q7
    obtain⟨m',hm,w7⟩:=hN _ _ _ q7'
    obtain⟨K1,K2,K3,K4,K5⟩:=kept I7
    exact wpAny_pure ⟨rfl,m',hm,i+1,σ6,H7,ys,its,k,K1,K2,K3,K4,K5,rv,hz,w7⟩
   |true =>
    have q7':te σ6 H7 fun y H4=>ys.length < sizeLine/\N σ6 (ys++[y]) H4:=by simpa using q7
    refine wpAny_bind (wpAny_bind (thn (he _ _ hAl _ s7 σ6 H7 _ I7 q7') fun y s8 ⟨v8,H8,I8,r8,hz8,n8⟩=>?_))
    obtain⟨m',hm,w8⟩:=hN _ _ _ n8
    obtain⟨K1,K2,K3,K4,K5⟩:=kept I8
    have hl:=rv.length
    refine wpAny_bind (wpAny_list_append_plain (hsz:=by rw[ur];lia) ⟨k,K4⟩ fun h9 hl9 hs9=>wpAny_pure (wpAny_pure ⟨rfl,m',hm,?_⟩))
    obtain⟨k9,e9⟩:=hl9
    have I9:Inv (cxLC X scope cl M G.objs.size s H fp E') [] σ6 H8 { s8 with heap:=h9 }:=K1.turned (t':=s8.toks) (it:=s.heap.objs.size) (fun b o hb e=>(hs9.2 b hb).trans e) K5 hDC (.inr (ud _))
     (fun y c e=>nocl y c e) fun p hp=>nomatch hp
    refine⟨i+1,σ6,H8,ys++[v8],its++[y],k9,I9,T.keep _ _ _ K2 fun b hb o e=>(hs9.2 b (uS (fpo b hb))).trans e,K3,?_,K5,rv.append (.cons r8 .nil),?_,w8⟩
    ·rw[e9]
     simp
    ·rw[uf,uZ]
     lia
 exact codeAny_compStart_list (loop _ rfl) (T.self X.A 0 _ _ _ st1 (loop _ rfl))
variable{tg elt iter:Expr}{ifs:List Expr}{pos:Pos}{wi:TI}{g:TG}{tt:TT}{te:TE}
theorem za4(L:LcOk X scope cl S)(hc:X.calm=true)(hi:PI X tg iter wi)(hg:∀C s H ex E,PG (cxLC X scope cl M C s H ex E) tg g)(ht:∀C s H ex E,PTs (cxLC X scope cl M C s H ex E) ifs tt)(he:∀C s H ex E,PE (cxLC X scope cl M C s H ex E) elt te)
  (hs:∀x,foldedSetIterable iter X.env x=pure x:=by intro _;rfl):PE X (.ListComp elt [⟨tg,iter,ifs,0⟩] scope pos) (tLCS S wi g tt te M.length):=by
 intro pins s σ H Q I h
 rw[eval_ListComp]
 refine wpAny_comprehension_free (use:=none) rfl hs L.clos L.kind L.locs (thn (hi pins s σ H _ I h) fun v s1 h1=>thn h1 fun itv s2 h2=>?_)
 obtain⟨it,fp,tn,J,H2,rfl,I2,T,st2,f2,W,⟨m0,w0⟩,turn⟩:=h2
 refine Xo (R:=fun acc C=>compPost (model X.prog X.w) X.A X.xe none (EP X pins σ Q) acc C) (Al:=fun _ _=>True) L hc I2 T st2 f2 hg ht (fun C E _=>he C _ _ _ E) (fun _ _=>trivial) w0 turn ?_
 intro D C s' H' ys m IX fC ns q
 exact⟨m,ns,fun h' sb=>⟨.ref D,_,IX.turned (t':=s'.toks) (fun b o hb e=>(sb.2 b hb).trans e) fC.1 fC.2.1 fC.2.2.2.1 fC.2.2.2.2.1 fC.2.2.2.2.2,rfl,q⟩⟩
theorem jn{i:Nat}{y:Str}{py spos:Pos}(hN:X.N.Nodup)(hi':X.N[i]?=some y)(hy:Loc X.env.scope y)(L:LcOk X scope cl S)(hc:X.calm=true)(hi:PI X tg iter wi)(hg:∀C s H ex E,PG (cxLC X scope cl M C s H ex E) tg g)
  (ht:∀C s H ex E,PTs (cxLC X scope cl M C s H ex E) ifs tt) (he:∀C s H ex E,PE (cxLC X scope cl M C s H ex E) elt te) (hs:∀x,foldedSetIterable iter X.env x=pure x:=by intro _;rfl)
  (hsw:swapsWith (.ListComp elt [⟨tg,iter,ifs,0⟩] scope pos) (some (.Name y py)) spos.line X.env=pure true:=by rfl)
  (hf:X.fn y=true\/X.env.scope.names.lookup y=some .local:=by first|exact .inl rfl|exact .inr rfl|assumption) :
  PS X (.Assign [.Name y py] (.ListComp elt [⟨tg,iter,ifs,0⟩] scope pos) spos) (fun D σ H=>tLCS S wi g tt te M.length σ H fun v H1=>D.nx (σ.set i (some v)) H1):=by
 intro pins s σ H D I h
 rw[exec_Assign_Name_used _ _ _ _ hsw]
 refine wpAny_bind (wpAny_standAt (wpAny_bind ?_))
 show wpAny _ X.A (do let _ <- comprehension (.ListComp elt [⟨tg,iter,ifs,0⟩] scope pos) scope X.env _ (newList []) false (eval iter X.env) (some (assign (.Name y py) X.env))) _ _ s
 refine wpAny_bind (wpAny_mono (wpAny_comprehension_free (use:=some (assign (.Name y py) X.env)) (Q:=fun _ s'=>SP X pins D .next s') rfl hs L.clos L.kind L.locs
  (thn (hi pins s σ H _ I h) fun v s1 h1=>thn h1 fun itv s2 h2=>?_)) (fun _ s' hq=>wpAny_pure (wpAny_pure hq)) fun _ _ e=>e)
 obtain⟨it,fp,tn,J,H2,rfl,I2,T,st2,f2,W,⟨m0,w0⟩,turn⟩:=h2
 refine Xo (R:=fun acc C=>compPost (model X.prog X.w) X.A X.xe (some (assign (.Name y py) X.env)) (fun _ s'=>SP X pins D .next s') acc C) (Al:=fun _ _=>True) L hc I2 T st2 f2 hg ht (fun C E _=>he C _ _ _ E) (fun _ _=>trivial) w0 turn ?_
 intro D' C s' H' ys m IX fC ns q
 show wpAny _ X.A (assign (.Name y py) X.env (.ref D')) _ _ s'
 refine wpAny_assign_Name (je IX hN hi' hy (v:=.ref D') rfl (fun s'' I'' ⟨a,sb,ha⟩=>?_) hf)
 refine⟨m,ns.sameBut sb ?_,fun h' sb'=>⟨_,_,I''.turned (t':=s''.toks) (fun b o hb e=>(sb'.2 b hb).trans e) fC.1 fC.2.1 fC.2.2.2.1 fC.2.2.2.2.1 fC.2.2.2.2.2,q⟩⟩
 rcases ha with ha|ha
 ·rw[ha];exact fC.2.1
 ·exact Ne.symm (fC.2.2.2.2.1 y a ha)
end
def clOf(scope:Scope)(env:Env):List (Str×Addr):=scope.names.foldl (fun cs p=>if p.2 == .free then(match env.cells.lookup p.1 with|some a=>(p.1,a)::cs|none=>cs)else cs) []
theorem Xp(env:Env):∀(names:List (Str×NameKind))(acc:List (Str×Addr)),AllIn env acc->AllIn env (names.foldl (fun cs p=>if p.2 == .free then(match env.cells.lookup p.1 with|some a=>(p.1,a)::cs|none=>cs)else cs) acc)
 |[],_,h=>h
 | (n,k)::r,acc,h=>by
  rw[Ul]
  refine Xp env r _ ?_
  by_cases hk:(k == NameKind.free)=true
  ·rw[if_pos hk]
   cases e:env.cells.lookup n with
   |none=>exact h
   |some a=>exact⟨e,h⟩
  ·rw[if_neg hk]
   exact h
section
variable{X:Cx}{scope:Scope}{M:List Str}{tg elt iter:Expr}{ifs:List Expr}{pos:Pos}{wi:TI}{g:TG}{tt:TT}{te:TE}
theorem Vb{S:List Nat}(h1:closureFor scope X.env=pure (clOf scope X.env))(h2:scope.kind=.function)(h3:scope.names.all (fun y=>y.2 != .cell)=true)(h4:scope.names.all (fun y=>y.2 != .local || scope.names.lookup y.1 == some .local)=true)
  (h5:X.N.zipIdx.all (fun y=>S.contains y.2 || scope.names.lookup y.1 != some .local)=true) (h6:scope.names.all (fun p=>p.2 != .free || (((clOf scope X.env).lookup p.1).isSome && (X.env.kindOf p.1 == some .cell || X.env.kindOf p.1 == some .free)))=true) :
  LcOk X scope (clOf scope X.env) S:=⟨h1,h2,h3,h4,h5,Xp X.env scope.names [] trivial,h6⟩
theorem lcOk(h1:closureFor scope X.env=pure (clOf scope X.env))(h2:scope.kind=.function)(h3:scope.names.all (fun y=>y.2 != .cell)=true)(h4:scope.names.all (fun y=>y.2 != .local || scope.names.lookup y.1 == some .local)=true)
  (h5:X.N.all (fun y=>scope.names.lookup y != some .local)=true) (h6:scope.names.all (fun p=>p.2 != .free || (((clOf scope X.env).lookup p.1).isSome && (X.env.kindOf p.1 == some .cell || X.env.kindOf p.1 == some .free)))=true) :
  LcOk X scope (clOf scope X.env) []:=Vb h1 h2 h3 h4 (Uf.mpr fun y hy=>by
   have hm:y.1∈X.N:=uq (UX.mp hy)
   rw[Uf.mp h5 y.1 hm,Bool.or_true]) h6
theorem Qw(M:List Str)(hc:X.calm=true)(hi:PI X tg iter wi)(hg:∀C s H ex E,PG (cxLC X scope (clOf scope X.env) M C s H ex E) tg g)(ht:∀C s H ex E,PTs (cxLC X scope (clOf scope X.env) M C s H ex E) ifs tt)
  (he:∀C s H ex E,PE (cxLC X scope (clOf scope X.env) M C s H ex E) elt te) (hs:∀x,foldedSetIterable iter X.env x=pure x:=by intro _;rfl)
  (h1:closureFor scope X.env=pure (clOf scope X.env):=by with_unfolding_all rfl) (h2:scope.kind=.function:=by rfl) (h3:scope.names.all (fun y=>y.2 != .cell)=true:=by rfl) (h4:scope.names.all (fun y=>y.2 != .local || scope.names.lookup y.1 == some .local)=true:=by rfl)
  (h5:X.N.all (fun y=>scope.names.lookup y != some .local)=true:=by rfl) (h6:scope.names.all (fun p=>p.2 != .free || (((clOf scope X.env).lookup p.1).isSome && (X.env.kindOf p.1 == some .cell || X.env.kindOf p.1 == some .free)))=true:=by rfl) :
  PE X (.ListComp elt [⟨tg,iter,ifs,0⟩] scope pos) (tLC wi g tt te M.length):=za4 (lcOk h1 h2 h3 h4 h5 h6) hc hi hg ht he hs
theorem Qx(M:List Str){i:Nat}{y:Str}{py spos:Pos}(hN:X.N.Nodup)(hi':X.N[i]?=some y)(hy:Loc X.env.scope y)(hc:X.calm=true)(hi:PI X tg iter wi)(hg:∀C s H ex E,PG (cxLC X scope (clOf scope X.env) M C s H ex E) tg g)
  (ht:∀C s H ex E,PTs (cxLC X scope (clOf scope X.env) M C s H ex E) ifs tt) (he:∀C s H ex E,PE (cxLC X scope (clOf scope X.env) M C s H ex E) elt te) (hs:∀x,foldedSetIterable iter X.env x=pure x:=by intro _;rfl)
  (hsw:swapsWith (.ListComp elt [⟨tg,iter,ifs,0⟩] scope pos) (some (.Name y py)) spos.line X.env=pure true:=by rfl)
  (hf:X.fn y=true\/X.env.scope.names.lookup y=some .local:=by first|exact .inl rfl|exact .inr rfl|assumption)
  (h1:closureFor scope X.env=pure (clOf scope X.env):=by with_unfolding_all rfl) (h2:scope.kind=.function:=by rfl) (h3:scope.names.all (fun y=>y.2 != .cell)=true:=by rfl) (h4:scope.names.all (fun y=>y.2 != .local || scope.names.lookup y.1 == some .local)=true:=by rfl)
  (h5:X.N.all (fun y=>scope.names.lookup y != some .local)=true:=by rfl) (h6:scope.names.all (fun p=>p.2 != .free || (((clOf scope X.env).lookup p.1).isSome && (X.env.kindOf p.1 == some .cell || X.env.kindOf p.1 == some .free)))=true:=by rfl) :
  PS X (.Assign [.Name y py] (.ListComp elt [⟨tg,iter,ifs,0⟩] scope pos) spos) (fun D σ H=>tLC wi g tt te M.length σ H fun v H1=>D.nx (σ.set i (some v)) H1):=jn hN hi' hy (lcOk h1 h2 h3 h4 h5 h6) hc hi hg ht he hs hsw hf
theorem Vc(S:List Nat)(M:List Str)(hc:X.calm=true)(hi:PI X tg iter wi)(hg:∀C s H ex E,PG (cxLC X scope (clOf scope X.env) M C s H ex E) tg g)(ht:∀C s H ex E,PTs (cxLC X scope (clOf scope X.env) M C s H ex E) ifs tt)
  (he:∀C s H ex E,PE (cxLC X scope (clOf scope X.env) M C s H ex E) elt te) (hs:∀x,foldedSetIterable iter X.env x=pure x:=by intro _;rfl)
  (h1:closureFor scope X.env=pure (clOf scope X.env):=by with_unfolding_all rfl) (h2:scope.kind=.function:=by rfl) (h3:scope.names.all (fun y=>y.2 != .cell)=true:=by rfl) (h4:scope.names.all (fun y=>y.2 != .local || scope.names.lookup y.1 == some .local)=true:=by rfl)
  (h5:X.N.zipIdx.all (fun y=>S.contains y.2 || scope.names.lookup y.1 != some .local)=true:=by rfl) (h6:scope.names.all (fun p=>p.2 != .free || (((clOf scope X.env).lookup p.1).isSome && (X.env.kindOf p.1 == some .cell || X.env.kindOf p.1 == some .free)))=true:=by rfl) :
  PE X (.ListComp elt [⟨tg,iter,ifs,0⟩] scope pos) (tLCS S wi g tt te M.length):=za4 (Vb h1 h2 h3 h4 h5 h6) hc hi hg ht he hs
theorem Vd(S:List Nat)(M:List Str){i:Nat}{y:Str}{py spos:Pos}(hN:X.N.Nodup)(hi':X.N[i]?=some y)(hy:Loc X.env.scope y)(hc:X.calm=true)(hi:PI X tg iter wi)(hg:∀C s H ex E,PG (cxLC X scope (clOf scope X.env) M C s H ex E) tg g)
  (ht:∀C s H ex E,PTs (cxLC X scope (clOf scope X.env) M C s H ex E) ifs tt) (he:∀C s H ex E,PE (cxLC X scope (clOf scope X.env) M C s H ex E) elt te) (hs:∀x,foldedSetIterable iter X.env x=pure x:=by intro _;rfl)
  (hsw:swapsWith (.ListComp elt [⟨tg,iter,ifs,0⟩] scope pos) (some (.Name y py)) spos.line X.env=pure true:=by rfl)
  (hf:X.fn y=true\/X.env.scope.names.lookup y=some .local:=by first|exact .inl rfl|exact .inr rfl|assumption)
  (h1:closureFor scope X.env=pure (clOf scope X.env):=by with_unfolding_all rfl) (h2:scope.kind=.function:=by rfl) (h3:scope.names.all (fun y=>y.2 != .cell)=true:=by rfl) (h4:scope.names.all (fun y=>y.2 != .local || scope.names.lookup y.1 == some .local)=true:=by rfl)
  (h5:X.N.zipIdx.all (fun y=>S.contains y.2 || scope.names.lookup y.1 != some .local)=true:=by rfl) (h6:scope.names.all (fun p=>p.2 != .free || (((clOf scope X.env).lookup p.1).isSome && (X.env.kindOf p.1 == some .cell || X.env.kindOf p.1 == some .free)))=true:=by rfl) :
  PS X (.Assign [.Name y py] (.ListComp elt [⟨tg,iter,ifs,0⟩] scope pos) spos) (fun D σ H=>tLCS S wi g tt te M.length σ H fun v H1=>D.nx (σ.set i (some v)) H1):=jn hN hi' hy (Vb h1 h2 h3 h4 h5 h6) hc hi hg ht he hs hsw hf
end
section
variable{g:TG}{tt:TT}{te:TE}{Q:VK}{σ:St}{H:Hp}
theorem zY{K:ub}{a:Addr}{xs:List V}(Pv:Nat->St->List V->Hp->Prop)(h0:Pv 0 σ [] H)(hl:∀i τ ys H,i<=xs.length->Pv i τ ys H->SqL K H a xs)
  (hs:∀i x τ ys H,xs[i]?=some x->Pv i τ ys H->g x τ H fun τ2 H2=>tt τ2 H2 fun b H3=>if b=true then te τ2 H3 fun y H4=>ys.length < sizeLine/\Pv (i+1) τ2 (ys++[y]) H4 else Pv (i+1) τ2 ys H3)
  (hd:∀τ ys H,Pv xs.length τ ys H->∀p,H p=none->Q (.ref p) (upd H p (.lst ys))):∃W,(∃m,W 0 m σ [] H)/\lcBy (Itl K a) g tt te Q W:=by
 refine⟨fun i m τ ys H=>m=xs.length-i/\i<=xs.length/\Pv i τ ys H,⟨xs.length,by simp,uW _,h0⟩,?_⟩
 rintro i m τ ys H ⟨rfl,hi,p⟩
 have q:=hl i τ ys H hi p
 by_cases hlt:i < xs.length
 ·refine .inr ⟨⟨xs,xs[i],q,by simp[hlt]⟩,Pv (i+1),fun τ' ys' H' p'=>⟨xs.length-(i+1),by lia,rfl,hlt,p'⟩,fun x H' y=>?_⟩
  obtain⟨e,y⟩:=y
  subst e
  exact hs i x τ ys _ (y xs q) p
 ·have e:i=xs.length:=by lia
  subst e
  exact .inl ⟨⟨xs,q,ud _⟩,hd τ ys H p⟩
theorem yx{lo:Int}{n:Nat}(Pv:Nat->St->List V->Hp->Prop)(h0:Pv 0 σ [] H)
  (hs:∀i τ ys H,i < n->Pv i τ ys H->g (.int (lo+i)) τ H fun τ2 H2=>tt τ2 H2 fun b H3=>if b=true then te τ2 H3 fun y H4=>ys.length < sizeLine/\Pv (i+1) τ2 (ys++[y]) H4 else Pv (i+1) τ2 ys H3)
  (hd:∀τ ys H,Pv n τ ys H->∀p,H p=none->Q (.ref p) (upd H p (.lst ys))):∃W,(∃m,W 0 m σ [] H)/\lcBy (Itr lo n) g tt te Q W:=by
 refine⟨fun i m τ ys H=>m=n-i/\i<=n/\Pv i τ ys H,⟨n,by simp,uW _,h0⟩,?_⟩
 rintro i m τ ys H ⟨rfl,hi,p⟩
 by_cases hlt:i < n
 ·refine .inr ⟨hlt,Pv (i+1),fun τ' ys' H' p'=>⟨n-(i+1),by lia,rfl,hlt,p'⟩,fun x H' y=>?_⟩
  obtain⟨e,y⟩:=y
  subst e y
  exact hs i τ ys _ hlt p
 ·have e:i=n:=by lia
  subst e
  exact .inl ⟨ud _,hd τ ys H p⟩
end
end L2
namespace L2
open PySem PySem.Spec PyProof.Rows Builtin Builtin.Str
section
variable{X:Cx}{tg:Expr}
theorem Yy:OpR X (binaryOp .Mult) (fun x y H Q=>∃z n,x=.str z/\y=.int n/\MulOk z n/\Q (.str (Txt.mul z n)) H):=by
 intro pins s σ H x y v u Q I rx ry h
 obtain⟨z,n,rfl,rfl,ok,q⟩:=h
 obtain⟨t,rfl⟩:=rx
 obtain⟨t',rfl⟩:=ry
 exact SB.mul ok fun t'' k=>⟨.str (Txt.mul z n),H,I.tok k,⟨t'',rfl⟩,q⟩
theorem ZE:xm X (.builtin "isinstance") (fun xs H Q=>∃x t T b,xs=[x,.ty T]/\TyOf X.K H x t/\PySem.W.kitOne X.K t (.type T)=some b/\Q (.bl b) H):=by
 intro pins s σ H xs us Q I r h
 obtain⟨x,t,T,b,rfl,ty,e,q⟩:=h
 obtain⟨u,u',rfl,rx,ru⟩:=Xh r
 cases ru
 exact Wa I rx ty e fun tk=>⟨.bl b,H,I.tok tk,rfl,q⟩
end
end L2
namespace L2
open PySem PySem.Spec PyProof.Rows
def zw:Expr->Bool
 |.Starred ..=>true
 |_=>false
theorem zC{e:Expr}{es:List Expr}{env:Env}(h:zw e=false):starEach (e::es) env=(false,eval e env)::starEach es env:=by
 cases e<;>first
  |rfl
  |exact absurd (show true=false from h) (by decide)
theorem yn{env:Env}{pos:Pos}:∀{es:List Expr},es.all (fun e=>!zw e)=true->(backTo pos (starEach es env)).any (·.1)=false
 |[],_=>rfl
 |e::es,h=>by
  rw[List.all_cons,Uk]at h
  have h1:zw e=false:=by simpa using h.1
  rw[zC h1]
  show(false || (backTo pos (starEach es env)).any (·.1))=false
  rw[yn h.2]
  rfl
section
variable{X:Cx}{CX:CXT}{k:Nat}{f C:Addr}{fd:FuncData}{ps:List Str}{sp:Sp}{dvs:List V}{ds:List Value}{E:XK}{x m:Str}{p pos apos:Pos}{e o:Expr}{es:List Expr}{te ta:TE}{t:TA}{id T:String}{r:List V->Hp->VK->Prop}
theorem pa_c(ha:PE X e te)(hr:PA X es t)(h:zw e=false:=by rfl):PA X (e::es) (zQ te t):=Qk ha hr (zC h)
theorem zc3(F:FnOk X.prog X.w X.K X.mg X.base CX k f fd ps sp)(hr:Room k X.A)(hg:Gl X x)(hm:X.mg x=some (.ref f))(hk:u0 X.K (.ref f)=true)(hb:Binds X.K fd ps ds)(hd:Vals dvs ds)(hx:yw CX X E)
  (ha:PA X (e::es) t) (hdb:(x == ("__debug__":Str))=false:=by decide) (h1:zw e=false:=by rfl) (h2:es.all (fun e=>!zw e)=true:=by rfl) :
  PE X (.Call (.Name x p) (e::es) [] pos) (Zx sp dvs E t):=Ql F hr hg hm hk hb hd hx ha hdb (zC h1) (yn h2)
theorem zbY(hc:xm X (.builtin id) r)(hg:Gl X x)(hm:X.mg x=none)(hv:bootBuiltins x=some (.builtin id))(ha:PA X (e::es) t)(hn:x≠"__name__":=by decide)(hdb:(x == ("__debug__":Str))=false:=by decide)
  (h1:zw e=false:=by rfl) (h2:es.all (fun e=>!zw e)=true:=by rfl):PE X (.Call (.Name x p) (e::es) [] pos) (tCB r t):=W3 hc hg hm hv ha hn hdb (zC h1) (yn h2)
theorem Qy(hc:xm X (.type T) r)(hg:Gl X x)(hm:X.mg x=none)(hv:bootBuiltins x=some (.type T))(ha:PA X (e::es) t)(hn:x≠"__name__":=by decide)(hdb:(x == ("__debug__":Str))=false:=by decide)
  (h1:zw e=false:=by rfl) (h2:es.all (fun e=>!zw e)=true:=by rfl):PE X (.Call (.Name x p) (e::es) [] pos) (tCB r t):=Wb hc hg hm hv ha hn hdb (zC h1) (yn h2)
end
structure jE(X:Cx)(e:Expr)(t:TE):Prop where
 out:PE X e t
structure jT(X:Cx)(e:Expr)(t:TT):Prop where
 out:PT X e t
structure jW(X:Cx)(e:Expr)(t:TT):Prop where
 out:PW X e t
structure jA(X:Cx)(es:List Expr)(t:TA):Prop where
 out:PA X es t
structure jS(X:Cx)(st:Stmt)(t:TS):Prop where
 out:PS X st t
structure jSs(X:Cx)(sts:List Stmt)(t:TS):Prop where
 out:PSs X sts t
structure jG(X:Cx)(tg:Expr)(t:TG):Prop where
 out:PG X tg t
structure jGs(X:Cx)(tg:List Expr)(t:TGs):Prop where
 out:PGs X tg t
structure jI(X:Cx)(tg iter:Expr)(t:TI):Prop where
 out:PI X tg iter t
structure jO(X:Cx)(e:Option Expr)(t:TO):Prop where
 out:PO X e t
structure jTs(X:Cx)(ifs:List Expr)(t:TT):Prop where
 out:PTs X ifs t
structure jOp(X:Cx)(f:Value->Value->Sem Value)(r:R2):Prop where
 out:OpR X f r
structure jIx(X:Cx)(r:R2):Prop where
 out:IxR X r
structure jSl(X:Cx)(r:V->Option Int->Option Int->Hp->VK->Prop):Prop where
 out:SlR X r
structure jMt(X:Cx)(id:String)(r:V->List V->Hp->VK->Prop):Prop where
 out:MtR X id r
structure jCa(X:Cx)(f:Value)(r:List V->Hp->VK->Prop):Prop where
 out:xm X f r
section
variable{X:Cx}{a b c e o:Expr}{es rest:List Expr}{ta tb tc te to:TE}{t u:TA}{tA tB':TT}{pos p p2 apos cpos px:Pos}{x y m:Str}{op op':CmpOp}{bop:Operator}{r r':R2}
theorem jv(i:Nat)(hN:X.N[i]?=some x:=by rfl)(hv:Vis X.env.scope x:=by first|exact Or.inl rfl|exact Or.inr (Or.inl rfl)|exact Or.inr (Or.inr rfl))(hd:(x == ("__debug__":Str))=false:=by decide)
  (hcd:(x == ("__classdict__":Str))=false:=by decide):jE X (.Name x pos) (tVar i):=⟨pv i hN hv hd hcd⟩
theorem zj{i j}:jE X (.Constant (.int i) j pos) (tC (.int i)):=⟨zbq⟩
theorem yt{b j}:jE X (.Constant (.bool b) j pos) (tC (.bl b)):=⟨zcR⟩
theorem zp{x j}:jE X (.Constant (.str x) j pos) (tC (.str x)):=⟨zbr⟩
theorem Qz{v:V}{w:Value}(hg:Gl X x)(hm:X.mg x=some w)(r:RelV v w)(hd:(x == ("__debug__":Str))=false:=by decide):jE X (.Name x pos) (tC v):=⟨J6 hg hm r hd⟩
theorem xW{v:V}{w:Value}(hg:Gl X x)(hm:X.mg x=none)(hv:bootBuiltins x=some w)(r:RelV v w)(hn:x≠"__name__":=by decide)(hd:(x == ("__debug__":Str))=false:=by decide):jE X (.Name x pos) (tC v):=⟨J7 hg hm hv r hn hd⟩
theorem zx(ho:jOp X (binaryOp bop) r)(ha:jE X a ta)(hb:jE X b tb):jE X (.BinOp a bop b pos) (tOp r ta tb):=⟨zcT ho.out ha.out hb.out⟩
theorem xK(ha:jE X a ta):jE X (.UnaryOp .USub a pos) (tUn (rU fun i=>.int (-i)) ta):=⟨zaY zbJ ha.out⟩
theorem xa(ho:jOp X (compareOp op) r)(ha:jE X a ta)(hb:jE X b tb)(hm:behindInMarks op b=false):jE X (.Compare a [op] [b] pos) (tOp r ta tb):=⟨Qf ho.out ha.out hb.out hm⟩
theorem yk(ho:jOp X (compareOp op) r)(ha:jE X a ta)(hb:jE X b tb)(hm:behindInMarks op b=false):jT X (.Compare a [op] [b] pos) (Zw (tOp r ta tb)):=⟨Qg ho.out ha.out hb.out hm⟩
theorem Ve(ho:jOp X (compareOp op) r)(ho':jOp X (compareOp op') r')(ha:jE X a ta)(hb:jE X b tb)(hc:jE X c tc)(hm:lastMarks [op,op'] [b,c]=false:=by with_unfolding_all rfl):jT X (.Compare a [op,op'] [b,c] pos) (Zw (WX r r' ta tb tc)):=⟨WY ho.out ho'.out ha.out hb.out hc.out hm⟩
theorem yI(h:jE X e te)(he:∀whole,isTrue e X.env whole=(do let v <- whole;standAt e.pos;holding [v] (truthy v)):=by intro _;rfl):jT X e (tB te):=⟨zbs h.out he⟩
theorem yc(ha:jT X a tA):jW X (.BoolOp .And [a] pos) tA:=⟨pw_and1 ha.out⟩
theorem xb(ha:jT X a tA):jW X (.BoolOp .Or [a] pos) tA:=⟨pw_or1 ha.out⟩
theorem ya(ha:jT X a tA)(hb:jW X (.BoolOp .And (b::rest) pos) tB'):jW X (.BoolOp .And (a::b::rest) pos) (tAnd tA tB'):=⟨pw_and ha.out hb.out⟩
theorem xk(ha:jT X a tA)(hb:jW X (.BoolOp .Or (b::rest) pos) tB'):jW X (.BoolOp .Or (a::b::rest) pos) (tOr tA tB'):=⟨pw_or ha.out hb.out⟩
theorem jW.pt(h:jW X e tA):jT X e tA:=⟨PW.pt h.out⟩
theorem wA(ha:jT X a tA):jT X (.UnaryOp .Not a pos) (tNot tA):=⟨zbt ha.out⟩
theorem Vf{op}(h:jE X a te):jE X (.BoolOp op [a] pos) te:=⟨zbu h.out⟩
theorem Yz(ha:jE X a ta)(hb:jE X (.BoolOp .And (b::rest) pos) tb):jE X (.BoolOp .And (a::b::rest) pos) (zaT ta tb):=⟨zbv ha.out hb.out⟩
theorem Vg(hc:jT X c tA)(ha:jE X a ta)(hb:jE X b tb):jE X (.IfExp c a b pos) (tIf tA ta tb):=⟨WQ hc.out ha.out hb.out⟩
theorem zE:jA X [] tNil:=⟨zbN⟩
theorem ja_c(ha:jE X e te)(hr:jA X es t)(h:zw e=false:=by rfl):jA X (e::es) (zQ te t):=⟨pa_c ha.out hr.out h⟩
theorem zB(h:jA X es t):jE X (.List es pos) (tLst t):=⟨zbP h.out⟩
theorem zu{x1}(h:jA X es t):jE X (.Tuple es x1 pos) (tTup t):=⟨zbO h.out⟩
theorem zP(hr:jIx X r)(ha:jE X a ta)(hb:jE X b tb)(hs:jV b):jE X (.Subscript a b pos) (tOp r ta tb):=⟨zc1 hr.out ha.out hb.out hs⟩
theorem yE:jO X none Xk:=⟨Qo⟩
theorem yF(h:jE X e te):jO X (some e) (za1 te):=⟨Qp h.out⟩
theorem yo{r:V->Option Int->Option Int->Hp->VK->Prop}{lo hi:Option Expr}{tl th:TO}(hr:jSl X r)(he:jE X e te)(hl:jO X lo tl)(hu:jO X hi th):jE X (.Subscript e (.Slice lo hi none p2) pos) (tSl r te tl th):=⟨W5 hr.out he.out hl.out hu.out⟩
variable{CX:CXT}{k:Nat}{f C:Addr}{fd:FuncData}{ps:List Str}{sp:Sp}{dvs:List V}{ds:List Value}{E:XK}{id T:String}{rc:List V->Hp->VK->Prop}{rm:V->List V->Hp->VK->Prop}
theorem zc4(F:FnOk X.prog X.w X.K X.mg X.base CX k f fd ps sp)(hr:Room k X.A)(hg:Gl X x)(hm:X.mg x=some (.ref f))(hk:u0 X.K (.ref f)=true)(hb:Binds X.K fd ps ds)(hd:Vals dvs ds)(hx:yw CX X E)
  (ha:jA X (e::es) t) (hdb:(x == ("__debug__":Str))=false:=by decide) (h1:zw e=false:=by rfl) (h2:es.all (fun e=>!zw e)=true:=by rfl) :
  jE X (.Call (.Name x p) (e::es) [] pos) (Zx sp dvs E t):=⟨zc3 F hr hg hm hk hb hd hx ha.out hdb h1 h2⟩
theorem yJ(hc:jCa X (.builtin id) rc)(hg:Gl X x)(hm:X.mg x=none)(hv:bootBuiltins x=some (.builtin id))(ha:jA X (e::es) t)(hn:x≠"__name__":=by decide)(hdb:(x == ("__debug__":Str))=false:=by decide)
  (h1:zw e=false:=by rfl) (h2:es.all (fun e=>!zw e)=true:=by rfl):jE X (.Call (.Name x p) (e::es) [] pos) (tCB rc t):=⟨zbY hc.out hg hm hv ha.out hn hdb h1 h2⟩
theorem yy(hc:jCa X (.type T) rc)(hg:Gl X x)(hm:X.mg x=none)(hv:bootBuiltins x=some (.type T))(ha:jA X (e::es) t)(hn:x≠"__name__":=by decide)(hdb:(x == ("__debug__":Str))=false:=by decide)
  (h1:zw e=false:=by rfl) (h2:es.all (fun e=>!zw e)=true:=by rfl):jE X (.Call (.Name x p) (e::es) [] pos) (tCB rc t):=⟨Qy hc.out hg hm hv ha.out hn hdb h1 h2⟩
theorem YA{name:Str}(pa:PlainAttrs T)(slot:Slot T name id)(hty:typeOf (.builtin id)=pure (.type "method_descriptor"))(hm:jMt X id rm)(ho:jE X o to)
  (hbase:attributeBase o name X.env (eval o X.env)=eval o X.env:=by rfl) (hline:(apos.endLine == cpos.line)=true:=by rfl):jE X (.Call (.Attribute o name apos) [] [] cpos) (tBM0 X.K T rm to):=⟨zbU pa slot hty hm.out ho.out hbase hline⟩
theorem yu{name:Str}(pa:PlainAttrs T)(slot:Slot T name id)(hty:typeOf (.builtin id)=pure (.type "method_descriptor"))(hm:jMt X id rm)(ho:jE X o to)(ha:jA X (e::es) t)
  (hbase:attributeBase o name X.env (eval o X.env)=eval o X.env:=by rfl)
  (hfew:((backTo cpos (starEach (e::es) X.env)).all (fun x=>!x.1) && (backToKw cpos (keywordEach [] X.env)).all (fun x=>x.1.isSome)
   && decide ((e::es).length+([]:List Keyword).length+(if([]:List Keyword).isEmpty then 0 else 1) < 30))=true:=by rfl)
  (hline:(apos.endLine == cpos.line)=true:=by rfl) (h1:zw e=false:=by rfl) (h2:es.all (fun e=>!zw e)=true:=by rfl) :
  jE X (.Call (.Attribute o name apos) (e::es) [] cpos) (tBM X.K T rm to t):=⟨zc2 pa slot hty hm.out ho.out ha.out hbase hfew hline (zC h1) (yn h2)⟩
variable{st:Stmt}{sts:List Stmt}{s1 s2:TS}{tg iter elt:Expr}{g:TG}{wi:TI}{tb1:TS}{ifs:List Expr}{tt:TT}
theorem zt:jSs X [] wQ:=⟨J8⟩
theorem zg(h1:jS X st s1)(h2:jSs X sts s2):jSs X (st::sts) (tSeq s1 s2):=⟨WR h1.out h2.out⟩
theorem zh(h1:jS X st s1):jSs X [st] s1:=⟨J9 h1.out⟩
theorem zD(he:jE X e te)(hs:swapsWith e none pos.line X.env=pure false:=by rfl):jS X (.Expr e pos) (zaU te):=⟨Qa he.out hs⟩
theorem zq(he:jE X e te):jS X (.Return (some e) pos) (tRet te):=⟨zbw he.out⟩
theorem zy{A B:List Stmt}(hc:jT X c tA)(ha:jSs X A s1)(hb:jSs X B s2):jS X (.If c A B pos) (tIfS tA s1 s2):=⟨zcS hc.out ha.out hb.out⟩
theorem zbZ{i:Nat}{pos':Pos}(hN:X.N.Nodup)(hi:X.N[i]?=some x)(hx:Loc X.env.scope x)(he:jE X e te)(hs:swapsWith e (some (.Name x pos')) pos.line X.env=pure false:=by rfl)
  (hf:X.fn x=true\/X.env.scope.names.lookup x=some .local:=by first|exact .inl rfl|exact .inr rfl|assumption):jS X (.Assign [.Name x pos'] e pos) (tAsg te (xl i)):=⟨zbA hN hi hx he.out hs hf⟩
theorem yV(he:jE X e te)(hg:jG X tg g)(hs:swapsWithSole [tg] e pos.line X.env=pure false:=by rfl)(hw:swappedStores [tg] e X.env=pure none:=by rfl)(h1:(assignEach [tg] X.env).map (·.2)=[assign tg X.env]:=by rfl):jS X (.Assign [tg] e pos) (tAsg te g):=⟨zbz he.out hg.out hs hw h1⟩
theorem QA{i:Nat}(hN:X.N.Nodup)(hi:X.N[i]?=some x)(hx:Loc X.env.scope x)(hf:X.fn x=true\/X.env.scope.names.lookup x=some .local:=by first|exact .inl rfl|exact .inr rfl|assumption):jG X (.Name x pos) (xl i):=⟨Qb hN hi hx hf⟩
theorem zM:jGs X [] gNil:=⟨Qc⟩
theorem zv{g:TG}{gs:TGs}(h1:jG X e g)(h2:jGs X es gs)(hs:(assignEach (e::es) X.env).map (·.2)=assign e X.env::(assignEach es X.env).map (·.2):=by rfl):jGs X (e::es) (zaV g gs):=⟨WS h1.out h2.out hs⟩
theorem yi{k:Nat}{gs:TGs}{n:Nat}(hc:X.calm=true)(h:jGs X es gs)(hn:(assignEach es X.env).length=n:=by rfl)(hst:(assignEach es X.env).findIdx? (·.1)=none:=by rfl):jG X (.Tuple es k pos) (gTup X.K n gs):=⟨zbx hc h.out hn hst⟩
theorem zG{l:Expr}{tl:TE}(hl:jE X l tl):jI X tg l (zaW X.K tl):=⟨Qd hl.out⟩
theorem yW{l:Expr}{tl:TE}(hl:jE X l tl):jI X tg l (iTup X.K tl):=⟨zbC hl.out⟩
theorem zV(hg:Gl X "range")(hm:X.mg "range"=none)(ha:jA X [a] t)(h:zw a=false:=by rfl):jI X tg (.Call (.Name "range" p) [a] [] pos) (zaX t):=⟨X5 hg hm ha.out (zC h)⟩
theorem zK(hp:PassesOwn (model X.prog X.w) X.A X.env X.xe)(hc:X.calm=true)(hi:jI X tg iter wi)(hg:jG X tg g)(hb:jSs X sts tb1)(hs:∀x,foldedSetIterable iter X.env x=pure x:=by intro _;rfl):jS X (.For tg iter sts [] pos) (tFor wi g tb1):=⟨zbD hp hc hi.out hg.out hb.out hs⟩
theorem vt(hp:PassesOwn (model X.prog X.w) X.A X.env X.xe)(hc:jT X c tA)(hb:jSs X sts tb1):jS X (.While c sts [] pos) (WT tA tb1):=⟨WU hp hc.out hb.out⟩
theorem zT:jTs X [] tYes:=⟨Qu⟩
theorem yL(h:jT X c tA):jTs X [c] tA:=⟨Qv h.out⟩
theorem yp{scope:Scope}(M:List Str)(hc:X.calm=true)(hi:jI X tg iter wi)(hg:∀C s H ex E,jG (cxLC X scope (clOf scope X.env) M C s H ex E) tg g)(ht:∀C s H ex E,jTs (cxLC X scope (clOf scope X.env) M C s H ex E) ifs tt)
  (he:∀C s H ex E,jE (cxLC X scope (clOf scope X.env) M C s H ex E) elt te) (hs:∀x,foldedSetIterable iter X.env x=pure x:=by intro _;rfl)
  (h1:closureFor scope X.env=pure (clOf scope X.env):=by with_unfolding_all rfl) (h2:scope.kind=.function:=by rfl) (h3:scope.names.all (fun y=>y.2 != .cell)=true:=by rfl) (h4:scope.names.all (fun y=>y.2 != .local || scope.names.lookup y.1 == some .local)=true:=by rfl)
  (h5:X.N.all (fun y=>scope.names.lookup y != some .local)=true:=by rfl) (h6:scope.names.all (fun p=>p.2 != .free || (((clOf scope X.env).lookup p.1).isSome && (X.env.kindOf p.1 == some .cell || X.env.kindOf p.1 == some .free)))=true:=by rfl) :
  jE X (.ListComp elt [⟨tg,iter,ifs,0⟩] scope pos) (tLC wi g tt te M.length):=⟨Qw M hc hi.out (fun C s H ex E=>(hg C s H ex E).out) (fun C s H ex E=>(ht C s H ex E).out) (fun C s H ex E=>(he C s H ex E).out) hs h1 h2 h3 h4 h5 h6⟩
theorem yq{scope:Scope}(M:List Str){i:Nat}{py spos:Pos}(hN:X.N.Nodup)(hi':X.N[i]?=some y)(hy:Loc X.env.scope y)(hc:X.calm=true)(hi:jI X tg iter wi)(hg:∀C s H ex E,jG (cxLC X scope (clOf scope X.env) M C s H ex E) tg g)
  (ht:∀C s H ex E,jTs (cxLC X scope (clOf scope X.env) M C s H ex E) ifs tt) (he:∀C s H ex E,jE (cxLC X scope (clOf scope X.env) M C s H ex E) elt te) (hs:∀x,foldedSetIterable iter X.env x=pure x:=by intro _;rfl)
  (hsw:swapsWith (.ListComp elt [⟨tg,iter,ifs,0⟩] scope pos) (some (.Name y py)) spos.line X.env=pure true:=by rfl)
  (hf:X.fn y=true\/X.env.scope.names.lookup y=some .local:=by first|exact .inl rfl|exact .inr rfl|assumption)
  (h1:closureFor scope X.env=pure (clOf scope X.env):=by with_unfolding_all rfl) (h2:scope.kind=.function:=by rfl) (h3:scope.names.all (fun y=>y.2 != .cell)=true:=by rfl) (h4:scope.names.all (fun y=>y.2 != .local || scope.names.lookup y.1 == some .local)=true:=by rfl)
  (h5:X.N.all (fun y=>scope.names.lookup y != some .local)=true:=by rfl) (h6:scope.names.all (fun p=>p.2 != .free || (((clOf scope X.env).lookup p.1).isSome && (X.env.kindOf p.1 == some .cell || X.env.kindOf p.1 == some .free)))=true:=by rfl) :
  jS X (.Assign [.Name y py] (.ListComp elt [⟨tg,iter,ifs,0⟩] scope pos) spos) (fun D σ H=>tLC wi g tt te M.length σ H fun v H1=>D.nx (σ.set i (some v)) H1) :=
 ⟨Qx M hN hi' hy hc hi.out (fun C s H ex E=>(hg C s H ex E).out) (fun C s H ex E=>(ht C s H ex E).out) (fun C s H ex E=>(he C s H ex E).out) hs hsw hf h1 h2 h3 h4 h5 h6⟩
theorem Vh{scope:Scope}(S:List Nat)(M:List Str)(hc:X.calm=true)(hi:jI X tg iter wi)(hg:∀C s H ex E,jG (cxLC X scope (clOf scope X.env) M C s H ex E) tg g)(ht:∀C s H ex E,jTs (cxLC X scope (clOf scope X.env) M C s H ex E) ifs tt)
  (he:∀C s H ex E,jE (cxLC X scope (clOf scope X.env) M C s H ex E) elt te) (hs:∀x,foldedSetIterable iter X.env x=pure x:=by intro _;rfl)
  (h1:closureFor scope X.env=pure (clOf scope X.env):=by with_unfolding_all rfl) (h2:scope.kind=.function:=by rfl) (h3:scope.names.all (fun y=>y.2 != .cell)=true:=by rfl) (h4:scope.names.all (fun y=>y.2 != .local || scope.names.lookup y.1 == some .local)=true:=by rfl)
  (h5:X.N.zipIdx.all (fun y=>S.contains y.2 || scope.names.lookup y.1 != some .local)=true:=by rfl) (h6:scope.names.all (fun p=>p.2 != .free || (((clOf scope X.env).lookup p.1).isSome && (X.env.kindOf p.1 == some .cell || X.env.kindOf p.1 == some .free)))=true:=by rfl) :
  jE X (.ListComp elt [⟨tg,iter,ifs,0⟩] scope pos) (tLCS S wi g tt te M.length):=⟨Vc S M hc hi.out (fun C s H ex E=>(hg C s H ex E).out) (fun C s H ex E=>(ht C s H ex E).out) (fun C s H ex E=>(he C s H ex E).out) hs h1 h2 h3 h4 h5 h6⟩
theorem ZG{scope:Scope}(S:List Nat)(M:List Str){i:Nat}{py spos:Pos}(hN:X.N.Nodup)(hi':X.N[i]?=some y)(hy:Loc X.env.scope y)(hc:X.calm=true)(hi:jI X tg iter wi)(hg:∀C s H ex E,jG (cxLC X scope (clOf scope X.env) M C s H ex E) tg g)
  (ht:∀C s H ex E,jTs (cxLC X scope (clOf scope X.env) M C s H ex E) ifs tt) (he:∀C s H ex E,jE (cxLC X scope (clOf scope X.env) M C s H ex E) elt te) (hs:∀x,foldedSetIterable iter X.env x=pure x:=by intro _;rfl)
  (hsw:swapsWith (.ListComp elt [⟨tg,iter,ifs,0⟩] scope pos) (some (.Name y py)) spos.line X.env=pure true:=by rfl)
  (hf:X.fn y=true\/X.env.scope.names.lookup y=some .local:=by first|exact .inl rfl|exact .inr rfl|assumption)
  (h1:closureFor scope X.env=pure (clOf scope X.env):=by with_unfolding_all rfl) (h2:scope.kind=.function:=by rfl) (h3:scope.names.all (fun y=>y.2 != .cell)=true:=by rfl) (h4:scope.names.all (fun y=>y.2 != .local || scope.names.lookup y.1 == some .local)=true:=by rfl)
  (h5:X.N.zipIdx.all (fun y=>S.contains y.2 || scope.names.lookup y.1 != some .local)=true:=by rfl) (h6:scope.names.all (fun p=>p.2 != .free || (((clOf scope X.env).lookup p.1).isSome && (X.env.kindOf p.1 == some .cell || X.env.kindOf p.1 == some .free)))=true:=by rfl) :
  jS X (.Assign [.Name y py] (.ListComp elt [⟨tg,iter,ifs,0⟩] scope pos) spos) (fun D σ H=>tLCS S wi g tt te M.length σ H fun v H1=>D.nx (σ.set i (some v)) H1) :=
 ⟨Vd S M hN hi' hy hc hi.out (fun C s H ex E=>(hg C s H ex E).out) (fun C s H ex E=>(ht C s H ex E).out) (fun C s H ex E=>(he C s H ex E).out) hs hsw hf h1 h2 h3 h4 h5 h6⟩
theorem zU:jOp X (binaryOp .Add) (rI0 fun i j=>.int (i+j)):=⟨zbE⟩
theorem yr:jOp X (binaryOp .Sub) (rI0 fun i j=>.int (i-j)):=⟨zbF⟩
theorem j1:jOp X (binaryOp .Mult) (rI CMul fun i j=>.int (i*j)):=⟨zbG⟩
theorem xc:jOp X (binaryOp .FloorDiv) (rI CDiv fun i j=>.int (i / j)):=⟨Qe⟩
theorem xf:jOp X (binaryOp .Mod) (rI (fun _ j=>0 < j) fun i j=>.int (i % j)):=⟨zbH⟩
theorem zA:jOp X (compareOp .Eq) rEq:=⟨zcV⟩
theorem ZH:jOp X (compareOp .NotEq) rNe:=⟨zcW⟩
theorem wU:jOp X (compareOp .Lt) (rI0 fun i j=>.bl (decide (i < j))):=⟨zcX⟩
theorem Vi:jOp X (compareOp .LtE) (rI0 fun i j=>.bl (decide (i<=j))):=⟨zcY⟩
theorem jo:jOp X (compareOp .Gt) (rI0 fun i j=>.bl (decide (j < i))):=⟨zcZ⟩
theorem za5:jOp X (compareOp .GtE) (rI0 fun i j=>.bl (decide (j<=i))):=⟨zc0⟩
theorem yv:jOp X (compareOp .In) (rIn X.K false):=⟨Wc⟩
theorem j2:jOp X (compareOp .NotIn) (rIn X.K true):=⟨jY⟩
theorem yB:jOp X (binaryOp .Add) (fun x y H Q=>∃i j,x=.str i/\y=.str j/\i.length+j.length<=sizeLine/\Q (.str (i++j)) H):=⟨Ym⟩
theorem vv:jOp X (binaryOp .Mult) (fun x y H Q=>∃z n,x=.str z/\y=.int n/\MulOk z n/\Q (.str (Txt.mul z n)) H):=⟨Yy⟩
theorem yP:jOp X (binaryOp .Add) rCat:=⟨zbW⟩
theorem Xq:jOp X (binaryOp .Add) (za2 X.K):=⟨Qq⟩
theorem zI:jIx X (rIxL X.K):=⟨Qr⟩
theorem zZ:jIx X (rIxT X.K):=⟨zbS⟩
theorem YB:jIx X rIxS:=⟨zbT⟩
theorem w4:jSl X (rSlL X.K):=⟨Qs⟩
theorem zH:jMt X "list.append" Xm:=⟨Wd⟩
theorem Vj:jMt X "list.pop" rPop:=⟨zbV⟩
theorem Wh:jMt X "list.extend" Xn:=⟨We⟩
theorem vw:jCa X (.builtin "len") (fun xs H Q=>∃p ys,xs=[.ref p]/\(SqL X.K H p ys\/SqT X.K H p ys)/\Q (.int ys.length) H):=⟨jZ⟩
theorem yZ:jCa X (.builtin "isinstance") (fun xs H Q=>∃x t T b,xs=[x,.ty T]/\TyOf X.K H x t/\PySem.W.kitOne X.K t (.type T)=some b/\Q (.bl b) H):=⟨ZE⟩
theorem zR:jCa X (.type "tuple") (fun xs H Q=>∃p ys,xs=[.ref p]/\((SqL X.K H p ys/\∀l,H l=none->Q (.ref l) (upd H l (.tup ys)))\/(SqT X.K H p ys/\Q (.ref p) H))):=⟨jc⟩
theorem YC:jCa X (.type "list") (fun xs H Q=>∃p ys,xs=[.ref p]/\(SqL X.K H p ys\/SqT X.K H p ys)/\∀l,H l=none->Q (.ref l) (upd H l (.lst ys))):=⟨j0⟩
end
section
variable{P:Program}{w:World}{K:ub}{mg:Str->Option Value}{base:Heap}
theorem Fun.by{x qual:Str}{st:Stmt}{f:Addr}{fd:FuncData}{N ps:List Str}{k:Nat}{sp:Sp}(F:Fun K x qual st f fd)(S:FnScope N ps (zo st))(len:∀vs H Q E,sp vs H Q E->vs.length=ps.length)
  (hbody:∀(cdv:Value)(A:Around)(outer:List Env)(s:Shared)(H:Hp)(vs:List V)(Q:VK)(E:XK),Room k (A.deeper (envOfC qual (zo st) s.heap.objs.size f cdv))->sp vs H Q E ->
   ∃t,jSs (cxOf CX0 P w K mg base N qual (zo st) f cdv A outer s H E).nox (zL st) t/\t { nx:=fun _ H'=>Q .non H',rt:=Q } (start N vs) H):FnOk P w K mg base CX0 (k+1) f fd ps sp :=
 F.ok S len fun cdv A outer s H vs Q E hr h=>let ⟨t,b,q⟩:=hbody cdv A outer s H vs Q E hr h;⟨t,b.out,q⟩
end
end L2
namespace L2
open PySem
section
variable{M:Model}{A:Around}{E:Value->Shared->Prop}{s:Shared}{base:Heap}{env:Env}{outer:List Env}{L e T:Addr}{C:Value}{dx:Option Addr}{Q:Unit->Shared->Prop}
end
end L2
namespace L2
open PySem PySem.Spec PyProof.Rows
section
variable{P:Program}{w:World}{K:ub}{mg:Str->Option Value}{base:Heap}{N:List Str}{qual:Str}{scope:Scope}{f:Addr}{cd:Value}{A:Around}{outer:List Env}{s:Shared}{H:Hp}{E:XK}
end
end L2
namespace L2
open PySem
section
variable{M:Model}{A:Around}{E:Value->Shared->Prop}{env:Env}{nm q:Str}{C N:Addr}{bs bm:List Value}{hdct:Bool}{sn:List Str}{sub:List Value}{ab:Bool}{col:Option Bool}{dd:Option Addr}{k0 k1 k2 k3 k5:Option Value}{newId:String}
end
section
variable{prog:Program}{w:World}{A:Around}{E:Value->Shared->Prop}{h:Heap}{g:Array GenState}{d:Drawn}{t:Nat}{os:OsState}
variable{nm q:Str}{C N f:Addr}{bs bm bmB:List Value}{hdct:Bool}{sn:List Str}{sub:List Value}{ab:Bool}{col:Option Bool}{dd:Option Addr}{k0 k1 k2 k3 k5:Option Value}{B Bn newId nid initId inN:String}{bmN:List Value}
end
end L2
namespace L2
open PySem PySem.W PySem.Calls PyProof.Rows Builtin Builtin.ObjectAttr
def bmV:List Value:=[.type "ValueError",.type "Exception",.type "BaseException",.type "object"]
def zc5:List Value->Bool
 |[]=>false
 |v::r=>(v::r) == bmV || (match v with
  |.ref _=>zc5 r
  |_=>false)
section
variable{prog:Program}{w:World}{A:Around}{E:Value->Shared->Prop}{K:Frag}{C e:Addr}{s:Shared}{ox:Obj}{od:Option Obj}{name:Str}{R:Result->Shared->Prop}
end
end L2
namespace L2
open PySem PySem.Spec PyProof.Rows
section
variable{X:Cx}{k:Nat}{f C:Addr}{fd:FuncData}{ps:List Str}{sp:Sp}{E:XK}{x:Str}{np cpos pos:Pos}{a:Expr}{as:List Expr}{t:TA}
end
section
variable{X:Cx}{f C R:Addr}{x m:Str}{np apos pos pos':Pos}{a o e value:Expr}{as:List Expr}{t:TA}{ta tv te:TE}
end
section
variable{X:Cx}{pins:List (Addr×Obj)}{σ:St}{H:Hp}{s:Shared}{h':Heap}{xs:List Addr}
end
abbrev Ends.behind(D:Ends)(i:Nat):Ends:={ nx:=fun σ H=>D.nx (σ.set i none) H,rt:=D.rt,bk:=fun σ H=>D.bk (σ.set i none) H,ct:=fun σ H=>D.ct (σ.set i none) H }
section
variable{X:Cx}{Ch:Addr}{x n:Str}{i:Nat}{np hpos tpos:Pos}{b0:Stmt}{suite:List Stmt}{th:Addr->Obj->TS}
variable{k:Nat}{f:Addr}{fd:FuncData}{ps:List Str}{sp:Sp}{y:Str}{p cpos epos:Pos}{a:Expr}{as:List Expr}{t:TA}
end
section
variable{X:Cx}{pins:List (Addr×Obj)}{σ:St}{H:Hp}{s:Shared}{h':Heap}
theorem Inv.turns{t':Nat}{ch:List Addr}(I:Inv X pins σ H s)(k:∀b o,b∉ch->s.heap.get? b=some o->h'.get? b=some o)(hf:∀b∈ch,FpOk X pins H b):Inv X pins σ H { s with heap:=h',toks:=t' }:=by
 have nit:∀b u,H b=some u->b∉ch:=fun b u e z=>by rw[(hf b z).1]at e;cases e
 refine I.call (g':=s.gens) (d':=s.drawn) (t':=t') (ch:=ch) ⟨fun b o q _ _ x=>k b o x q,fun b o q _ _ x=>⟨o.slots,k b o x q⟩,fun _ _ _ n _=>n,fun b o q x=>⟨o,k b o x q⟩,fun _ _ q=>q,fun _ _ _ q=>q,fun _ ps q=>⟨#[],by rw[q];simp⟩⟩
  (fun b u e=>(I.hok b u e).stay (fun c v hc q=>k c v ?_ q) (fun _ q=>q) fun _ _ q=>q) I.bare fun b hb=>?_
 ·rcases hc with z|z
  ·rw[z];exact nit b u e
  ·exact nit c _ z
 ·obtain⟨f0,f1,f2,f3,f4,f5⟩:=hf b hb
  exact⟨f3,f1,f4,f5⟩
theorem Inv.turnsLaid{t':Nat}{ch:List Addr}{a:Addr}{o:HO}(I:Inv X pins σ H s)(k:∀b o,b∉ch->s.heap.get? b=some o->h'.get? b=some o)(hf:∀b∈ch,FpOk X pins H b)(hp:s.heap.objs.size<=a)(new:ObjOk X.prog X.w (upd H a o) h' a o):
  Inv X pins σ (upd H a o) { s with heap:=h',toks:=t' }:=by
 have hn:=I.hok.fresh hp
 have nit:∀b u,H b=some u->b∉ch:=fun b u e z=>by rw[(hf b z).1]at e;cases e
 refine I.call (g':=s.gens) (d':=s.drawn) (t':=t') (ch:=ch) ⟨fun b o q _ _ x=>k b o x q,fun b o q _ _ x=>⟨o.slots,k b o x q⟩,fun b u q n _=>by rw[zi (uS (uP (uv q) hp))];exact n,fun b o q x=>⟨o,k b o x q⟩,
   fun b xs q=>by rw[zi (zk q hn)];exact q,fun b u xs q=>by rw[zi (zk q hn)];exact q,fun b ps q=>⟨#[],by rw[zi (zk q hn),q];simp⟩⟩
  (fun b u e=>?_) I.bare fun b hb=>?_
 ·by_cases hb:b=a
  ·subst hb
   rw[upd_same]at e
   cases e
   exact new
  ·rw[zi hb]at e
   refine(I.hok b u e).stay (fun c v hc q=>k c v ?_ q) (fun c q=>by rw[zi (zk q hn)];exact q) fun c xs q=>by rw[zi (zk q hn)];exact q
   rcases hc with z|z
   ·rw[z];exact nit b u e
   ·exact nit c _ z
 ·obtain⟨f0,f1,f2,f3,f4,f5⟩:=hf b hb
  exact⟨f3,f1,f4,f5⟩
end
def Ite(K:ub)(a:Addr):It :=
 ⟨fun i H=>∃xs x,SqL K H a xs/\xs[i]?=some x,fun i H x H'=>∃T v,x=.ref T/\H T=none/\H'=upd H T (.tup [.int i,v])/\∀xs,SqL K H a xs->xs[i]?=some v,fun i H=>∃xs,SqL K H a xs/\xs.length<=i⟩
theorem Wi{P:Program}{w:World}{K:ub}{elts:List Expr}{k:Nat}{pos:Pos}{a e it:Addr}(hne:e≠it):Turn P w K (.Tuple elts k pos) (Ite K a) [e,it] e (fun i h=>(∃old,IsEnum h e it (i:Int) old)/\h.IsListIter it a i) where
 mem:=by simp
 obj:=fun i h st b hb=>by
  obtain⟨⟨old,he⟩,hit⟩:=st
  have e':b=e\/b=it:=by simpa using hb
  rcases e' with z|z
  ·subst z
   exact⟨_,he,fun v z=>by cases z⟩
  ·subst z
   obtain⟨o,e,c,d⟩:=hit
   exact⟨o,e,fun v z=>by rw[d]at z;cases z⟩
 keep:=fun i h h' st k=>⟨st.1.imp fun old he=>k e (by simp) _ he,st.2.at fun o x=>k it (by simp) o x⟩
 item:=by
  intro X hP hw hK hc i pins s σ H E I hf st hg
  subst hP hw hK
  obtain⟨xs,x,hq,hx⟩:=hg
  obtain⟨its,rv,p,hz⟩:=I.list hq
  obtain⟨u,hu,ru⟩:=rv.get hx
  obtain⟨⟨old,he⟩,hit⟩:=st
  refine wpAny_pyNext_enum_item he hit p.isList (x:=u) (by simpa using hu) hne fun h' ho hit' hT hsz hk=>?_
  have new:ObjOk X.prog X.w (upd H s.heap.objs.size (.tup [.int i,x])) h' s.heap.objs.size (.tup [.int i,x]):=⟨sN2,[.int i s.toks,u],.cons ⟨_,rfl⟩ (.cons ru .nil),⟨_,hT,rfl,rfl,_,rfl⟩⟩
  have I1:Inv X pins σ (upd H s.heap.objs.size (.tup [.int i,x])) { s with heap:=h',toks:=s.toks+1 }:=I.turnsLaid (ch:=[e,it]) (fun b o hb q=>hk b o (fun z=>hb (by simp[z])) (fun z=>hb (by simp[z])) q) hf (ud _) new
  have hlt:∀b∈[e,it],b≠s.heap.objs.size:=fun b hb=>by
   have e':b=e\/b=it:=by simpa using hb
   rcases e' with z|z
   ·rw[z];exact uS (uv he)
   ·rw[z];obtain⟨o,q,_⟩:=hit;exact uS (uv q)
  have hn:∀b∈[e,it],upd H s.heap.objs.size (.tup [.int i,x]) b=none:=fun b hb=>by rw[zi (hlt b hb)];exact(hf b hb).1
  have hf1:∀b∈[e,it],FpOk X pins (upd H s.heap.objs.size (.tup [.int i,x])) b:=fun b hb=>⟨hn b hb,(hf b hb).2⟩
  refine⟨_,rfl,wpAny_letOwnedTupleGo_enum (s:={ s with heap:=h',toks:=s.toks+1 }) ho fun h'' he' hs'=>?_⟩
  have I2:Inv X pins σ (upd H s.heap.objs.size (.tup [.int i,x])) { s with heap:=h'',toks:=s.toks+1 }:=Inv.turns (s:={ s with heap:=h',toks:=s.toks+1 }) (t':=s.toks+1) (ch:=[e,it]) I1 (fun b o hb q=>(hs'.2 b fun z=>hb (by simp[z])).trans q) hf1
  refine⟨.ref s.heap.objs.size,_,I2,rfl,⟨_,x,rfl,I.fresh,rfl,fun ys hy=>by rw[I.list_inj hy hq];exact hx⟩,⟨⟨u,?_⟩,hit'.at fun o q=>(hs'.2 it hne.symm).trans q⟩,hn⟩
  have e1:(((i+1:Nat)):Int)=(i:Int)+1:=by lia
  rw[e1]
  exact he'
 done:=by
  intro X hP hw hK hc i pins s σ H E I hf st hg
  subst hP hw hK
  obtain⟨xs,hq,hx⟩:=hg
  obtain⟨its,rv,p,hz⟩:=I.list hq
  have hl:=rv.length
  obtain⟨⟨old,he⟩,hit⟩:=st
  exact wpAny_pyNext_enum_end (I.ok.hd hc) he hit p.isList (by simp;lia) fun h' eb=>⟨rfl,I.turns (t':=s.toks) (ch:=[e,it]) (fun b o hb q=>eb b o (fun z=>hb (by simp[z])) q) hf⟩
 self:=fun _ _ _ _ _ st h=>by
  obtain⟨⟨old,he⟩,_⟩:=st
  exact wpAny_pyIter_enum he h
section
variable{X:Cx}{elts:List Expr}{k:Nat}{tpos:Pos}
def za6(K:ub)(ta:TA):TI:=fun σ H R=>ta σ H fun vs H1=>∃a,vs=[.ref a]/\(∃xs,SqL K H1 a xs)/\R (Ite K a) H1
theorem QB{a:Expr}{ta:TA}{p pos:Pos}(hg:Gl X "enumerate")(hm:X.mg "enumerate"=none)(ha:PA X [a] ta)(hs:starEach [a] X.env=[(false,eval a X.env)]:=by rfl):PI X (.Tuple elts k tpos) (.Call (.Name "enumerate" p) [a] [] pos) (za6 X.K ta):=by
 intro pins s σ H R I h
 refine Call_ (yU I hg hm boot_enumerate (Ue (thn (ha pos pins s σ H _ I h) fun us s1 ⟨vs,H1,I1,r1,q1⟩=>?_) hs rfl))
 obtain⟨l,e,⟨xs,hq⟩,q⟩:=q1
 subst e
 obtain⟨u,rfl,rx⟩:=vo r1
 cases rx
 obtain⟨its,rv,pl,hz⟩:=I1.list hq
 refine call_enumerate_list pl.isList fun h' hE hI hsz hk=>?_
 refine wpAny_pyIter_enum hE ?_
 refine⟨s1.heap.objs.size+1,[s1.heap.objs.size+1,s1.heap.objs.size],_,_,H1,rfl,I1.kept (t':=s1.toks) hk,Wi (a:=l) (Nat.succ_ne_self _),⟨⟨_,hE⟩,hI⟩,fun b hb=>?_,q⟩
 have e:b=s1.heap.objs.size+1\/b=s1.heap.objs.size:=by simpa using hb
 rcases e with e|e
 ·subst e
  exact I1.fpOk (tj _) (I1.hok.fresh (tj _))
 ·subst e
  exact I1.fpOk (ud _) (I1.hok.fresh (ud _))
theorem QC{a:Expr}{t:TA}{p pos:Pos}(hg:Gl X "enumerate")(hm:X.mg "enumerate"=none)(ha:jA X [a] t)(h:zw a=false:=by rfl):jI X (.Tuple elts k tpos) (.Call (.Name "enumerate" p) [a] [] pos) (za6 X.K t):=⟨QB hg hm ha.out (zC h)⟩
end
end L2
namespace L2
open PySem PySem.Spec PyProof.Rows Builtin Builtin.Str
section
variable{X:Cx}
theorem xY:∀{zs:List Str}{us:List Value},Vals (zs.map V.str) us->∃l:List (Str×Tok),us=strValues l/\l.map (·.1)=zs
 |[],_,.nil=>⟨[],rfl,rfl⟩
 |z::zs,_,.cons ⟨t,e⟩ r=>by
  obtain⟨l,rfl,h⟩:=xY r
  exact⟨(z,t)::l,by rw[e];rfl,by rw[uH,h]⟩
theorem ZI(sep:Str):∀(zs:List Str)(a:Nat),zs.foldl (· + ·.length+sep.length) a=a+((zs.map (·.length)).sum+zs.length*sep.length)
 |[],a=>by simp
 |z::zs,a=>by
  rw[Ul,ZI sep zs]
  simp only[uH,Uu,ul,tP,Nat.one_mul]
  lia
def wide(sep:Str)(zs:List Str):Nat:=(zs.map (·.length)).sum+zs.length*sep.length
def za7(K:ub):V->List V->Hp->VK->Prop:=fun x vs H Q=>∃sep p zs,x=.str sep/\vs=[.ref p]/\SqL K H p (zs.map V.str)/\wide sep zs<=sizeLine/\Q (.str (Str.join sep zs)) H
theorem QD:MtR X "str.join" (za7 X.K):=by
 intro pins s σ H x vs v us Q I rx rv h
 obtain⟨sep,p,zs,rfl,rfl,hq,hw,q⟩:=h
 obtain⟨t,rfl⟩:=rx
 obtain⟨u,rfl,ru⟩:=rv.one
 cases ru
 obtain⟨its,r,pl,hz⟩:=I.list hq
 obtain⟨l,rfl,hl⟩:=xY r
 have big:tooLong ((l.map (·.1)).toArray.foldl (· + ·.length+sep.length) 0)=false:=by
  rw[hl,List.foldl_toArray,ZI]
  unfold tooLong
  rw[decide_eq_false_iff_not]
  unfold wide at hw
  lia
 have hg:=size_glued sep zs
 have hle:(glued sep zs).length<=sizeLine:=by
  rw[hg]
  unfold wide at hw
  have:(zs.length-1)*sep.length<=zs.length*sep.length:=tE _ (Nat.sub_le _ _)
  lia
 refine call_meets F.slot_str_join (typeIs_str _ _ _) F.entry_str_join (F.args_str_join_2 _ _) (meets_str_join_list sep t p l big) ⟨pl.isList,?_⟩
 rw[<- StrLaws.glued_eq_join]at q
 match l,hl with
 |[],hl=>exact⟨by rw[hl];exact hle,.str _,H,I.tok _,⟨_,rfl⟩,by rw[hl];exact q⟩
 |[(z,tz)],hl =>
  have e:glued sep zs=z:=by
   rw[<- hl]
   rfl
  rw[e]at q
  exact⟨.str z,H,I,⟨tz,rfl⟩,q⟩
 |a::b::r,hl=>exact⟨by rw[hl];exact hle,.str _,H,I.tok _,⟨_,rfl⟩,by rw[hl];exact q⟩
theorem QE:jMt X "str.join" (za7 X.K):=⟨QD⟩
def rEqE(K:ub)(neg:Bool):R2:=fun x y H Q=>∃p p' xs,x=.ref p/\y=.ref p'/\SqL K H p xs/\SqL K H p' []/\Q (.bl (if neg then !xs.isEmpty else xs.isEmpty)) H
theorem zb0(hu:X.A.units < cLine):OpR X (compareOp .Eq) (rEqE X.K false):=by
 intro pins s σ H x y v u Q I rx ry h
 obtain⟨p,p',xs,rfl,rfl,h1,h2,q⟩:=h
 cases rx
 cases ry
 obtain⟨its,r,pl,_⟩:=I.list h1
 obtain⟨its',r',pl',_⟩:=I.list h2
 cases r'
 cases r with
 |nil=>exact SeqAt.eq_listAt (e:=fun _=>true) pl.isList pl'.isList rfl hu (fun j h=>absurd h (t9 _)) ⟨.bl true,H,I,rfl,q⟩
 |cons a b=>exact SeqAt.eq_list_lengthsAt pl.isList pl'.isList rfl hu ⟨.bl false,H,I,rfl,q⟩
theorem zb1(hu:X.A.units < cLine):OpR X (compareOp .NotEq) (rEqE X.K true):=by
 intro pins s σ H x y v u Q I rx ry h
 obtain⟨p,p',xs,rfl,rfl,h1,h2,q⟩:=h
 cases rx
 cases ry
 obtain⟨its,r,pl,_⟩:=I.list h1
 obtain⟨its',r',pl',_⟩:=I.list h2
 cases r'
 cases r with
 |nil=>exact SeqAt.RcNeAt.lists (e:=fun _=>true) pl.isList pl'.isList rfl hu (fun j h=>absurd h (t9 _)) _ _ _ _ ⟨.bl false,H,I,rfl,q⟩
 |cons a b=>exact SeqAt.RcNeAt.lists_lengths pl.isList pl'.isList rfl hu _ _ _ _ ⟨.bl true,H,I,rfl,q⟩
theorem j3{k:Nat}(hr:Room k X.A):jOp X (compareOp .Eq) (rEqE X.K false):=⟨zb0 hr.units0⟩
theorem Vk{k:Nat}(hr:Room k X.A):jOp X (compareOp .NotEq) (rEqE X.K true):=⟨zb1 hr.units0⟩
end
end L2
namespace L2
open PySem PySem.Spec PyProof.Rows
def Sq(k:Bool)(h:Heap)(l:Addr)(xs:Array Value):Prop:=match k with
 |true=>h.IsList l xs
 |false=>h.IsTuple l xs
def SqI(k:Bool)(h:Heap)(j l:Addr)(n:Nat):Prop:=match k with
 |true=>h.IsListIter j l n
 |false=>h.IsTupleIter j l n
def SqN(k:Bool):String:=if k then "list_iterator"else "tuple_iterator"
theorem Sq.at{k:Bool}{h h':Heap}{l:Addr}{xs:Array Value}(x:Sq k h l xs)(e:∀o,h.get? l=some o->h'.get? l=some o):Sq k h' l xs:=by
 cases k<;>obtain⟨o,ho,r⟩:=x<;>exact⟨o,e _ ho,r⟩
theorem SqI.at{k:Bool}{h h':Heap}{j l:Addr}{n:Nat}(x:SqI k h j l n)(e:∀o,h.get? j=some o->h'.get? j=some o):SqI k h' j l n:=by
 cases k<;>obtain⟨o,ho,r⟩:=x<;>exact⟨o,e _ ho,r⟩
theorem SqI.ex{k:Bool}{h:Heap}{j l:Addr}{n:Nat}(x:SqI k h j l n):∃o,h.get? j=some o/\o.cls=.type (SqN k)/\o.data=.fields #[.ref l,.int n 0]:=by
 cases k<;>exact x
theorem SqI.of{k:Bool}{h:Heap}{j l:Addr}{n:Nat}(x:∃o,h.get? j=some o/\o.cls=.type (SqN k)/\o.data=.fields #[.ref l,.int n 0]):SqI k h j l n:=by
 cases k<;>exact x
section
variable{P:Program}{w:World}{A:Around}{E:Value->Shared->Prop}{s:Shared}
theorem ZJ{j l:Addr}{n:Nat}{xs:Array Value}{x:Value}{Q:Value->Shared->Prop}(hj:s.heap.IsTupleIter j l n)(hl:s.heap.IsTuple l xs)(hx:xs[n]?=some x)
  (q:∀h',h'.IsTupleIter j l (n+1)->Heap.SameBut j s.heap h'->Q x { s with heap:=h' }):wpAny (model P w) A (uQ (.ref j)) Q E s:=by
 have⟨oj,hoj,cj,dj⟩:=hj
 have⟨ol,hol,_,m,dl⟩:=hl
 unfold uQ
 refine wpAny_bind (wpAny_callSpecial?_slot hj.typeIs F.slot_tuple_iterator_next (wpAny_call_entry F.slot_tuple_iterator_next hj.typeIs F.entry_tuple_iterator_next ?_ (F.args_tuple_iterator_next_1 (.ref j))))
 refine wpAny_bind (m:=field (.ref j) 0) (wpAny_field hoj dj (x:=.ref l) rfl ?_)
 have nn:¬ ((Value.ref l == Value.none)=true):=uu
 show wpAny _ _ (ite ((Value.ref l == Value.none)=true) _ _) _ _ _
 rw[if_neg nn]
 refine wpAny_bind (m:=field (.ref j) 1) (wpAny_field hoj dj (x:=.int n 0) rfl ?_)
 refine wpAny_bind (m:=seqItems? (.ref l)) (wpAny_seqItems hol dl ?_)
 simp only[tM,hx]
 refine wpAny_bind (wpAny_setField hoj dj (by simp) (wpAny_pure ⟨x,rfl,wpAny_pure (q _ ⟨_,UF _ hoj (Obj.isFreed_of_fields (Obj.data_mapFields dj _)),(Obj.cls_mapFields ..).trans cj,?_⟩ (Heap.SameBut.update ..))⟩))
 rw[Obj.data_mapFields dj]
 simp[rawInt]
theorem Xr{j l:Addr}{n:Nat}{xs:Array Value}{Q:Value->Shared->Prop}(hA:A.handled=none)(hj:s.heap.IsTupleIter j l n)(hl:s.heap.IsTuple l xs)(hx:xs[n]?=none)
  (q:∀h' e,Heap.ExtBut j s.heap h'->(∃o,h'.get? e=some o/\o.cls=.type "StopIteration")->E (.ref e) { s with heap:=h' }):wpAny (model P w) A (uQ (.ref j)) Q E s:=by
 have⟨oj,hoj,cj,dj⟩:=hj
 have⟨ol,hol,_,m,dl⟩:=hl
 unfold uQ
 refine wpAny_bind (wpAny_callSpecial?_slot hj.typeIs F.slot_tuple_iterator_next (wpAny_call_entry F.slot_tuple_iterator_next hj.typeIs F.entry_tuple_iterator_next ?_ (F.args_tuple_iterator_next_1 (.ref j))))
 refine wpAny_bind (m:=field (.ref j) 0) (wpAny_field hoj dj (x:=.ref l) rfl ?_)
 have nn:¬ ((Value.ref l == Value.none)=true):=uu
 show wpAny _ _ (ite ((Value.ref l == Value.none)=true) _ _) _ _ _
 rw[if_neg nn]
 refine wpAny_bind (m:=field (.ref j) 1) (wpAny_field hoj dj (x:=.int n 0) rfl ?_)
 refine wpAny_bind (m:=seqItems? (.ref l)) (wpAny_seqItems hol dl ?_)
 simp only[tM,hx]
 refine wpAny_bind (wpAny_rule (wpAny_bind (wpAny_setField hoj dj (by simp) ?_)))
 refine wpAny_bind (m:=newExc (.type "StopIteration") []) ?_
 unfold newExc newTuple
 refine wpAny_bind (wpAny_newObj_type (wpAny_bind (m:=firstArgMember _ _) (wpAny_of_eq (a:=Value.none) (by first|rfl|(simp only[firstArgMember];rfl)) (wpAny_newObj_type ?_ (by size_fits)))) (by size_fits))
 unfold raiseNew
 refine wpAny_bind (wpAny_handled ?_)
 rw[show A.in1.handled=none from hA]
 exact wpAny_bind (wpAny_pure (wpAny_throw (q _ _ (((Heap.SameBut.update ..).extBut.push _).push _) ⟨_,uA _ rfl,rfl⟩)))
theorem xA{k:Bool}{j l:Addr}{n:Nat}{xs:Array Value}{x:Value}{Q:Value->Shared->Prop}(hj:SqI k s.heap j l n)(hl:Sq k s.heap l xs)(hx:xs[n]?=some x)
  (q:∀h',SqI k h' j l (n+1)->Heap.SameBut j s.heap h'->Q x { s with heap:=h' }):wpAny (model P w) A (uQ (.ref j)) Q E s:=by
 cases k with
 |true=>exact wpAny_nextOf_list_item hj hl hx q
 |false=>exact ZJ hj hl hx q
theorem j4{k:Bool}{j l:Addr}{n:Nat}{xs:Array Value}{Q:Value->Shared->Prop}(hA:A.handled=none)(hj:SqI k s.heap j l n)(hl:Sq k s.heap l xs)(hx:xs[n]?=none)
  (q:∀h' e,Heap.ExtBut j s.heap h'->(∃o,h'.get? e=some o/\o.cls=.type "StopIteration")->E (.ref e) { s with heap:=h' }):wpAny (model P w) A (uQ (.ref j)) Q E s:=by
 cases k with
 |true=>exact wpAny_nextOf_list_end hA hj hl hx q
 |false=>exact Xr hA hj hl hx q
theorem Xs{k:Bool}{l:Addr}{xs:Array Value}{Q:Value->Shared->Prop}(hl:Sq k s.heap l xs)(q:Q (.ref s.heap.objs.size) { s with heap:=s.heap.push { cls:=.type (SqN k),data:=.fields #[.ref l,.int 0 0] } }):
  wpAny (model P w) A (pyIter (.ref l)) Q E s:=by
 cases k with
 |true=>exact wpAny_pyIter_list hl q
 |false=>exact wpAny_pyIter_tuple hl q
end
abbrev za(k:Bool)(h:Heap)(l:Addr):Heap:=h.push { cls:=.type (SqN k),data:=.fields #[.ref l,.int 0 0] }
abbrev zb(k m:Bool)(h:Heap)(l r:Addr):Heap:=za m (za k h l) r
abbrev zc(k m:Bool)(h:Heap)(l r:Addr):Heap:=(zb k m h l r).push { cls:=.type "tuple",data:=.seq #[.ref h.objs.size,.ref (za k h l).objs.size] }
abbrev zd(k m:Bool)(h:Heap)(l r:Addr):Heap:=(zc k m h l r).push { cls:=.type "tuple",data:=.seq #[.none,.none] }
abbrev ze(k m:Bool)(h:Heap)(l r:Addr):Heap:=(zd k m h l r).push { cls:=.type "zip",data:=.fields #[.none,.bool false,.bool false,.ref (zb k m h l r).objs.size,.ref (zc k m h l r).objs.size] }
theorem Vl(k m:Bool)(l r:Addr)(xs ys:Array Value):Meets (Builtin.«zip.__new__» ⟨[.type "zip",.ref l,.ref r],[]⟩)
  (fun _ R s=>Sq k s.heap l xs/\Sq m s.heap r ys/\R (.ok (.ret (.ref (zd k m s.heap l r).objs.size))) { s with heap:=ze k m s.heap l r }) :=
 .of_wp fun prog w A R s h=>by
  obtain⟨hp,g,d,tk,os⟩:=s
  obtain⟨h1,h2,h⟩:=h
  have hs:=sub_zip
  have q1:Sq k (Shared.heap ⟨hp,g,d,tk,os⟩) l xs:=h1
  have q2:Sq m (Shared.heap ⟨za k hp l,g,d,tk,os⟩) r ys:=h2.at fun o e=>ug _ e
  wp_walk using Xs q1,Xs q2
  exact⟨_,rfl,h⟩
structure ZS(k m:Bool)(h:Heap)(B l r:Nat)(n:Nat)(f g:Value):Prop where
 z:h.get? (B+4)=some { cls:=.type "zip",data:=.fields #[f,g,.bool false,.ref (B+2),.ref (B+3)] }
 ti:IsPair h (B+2) (.ref B) (.ref (B+1))
 to:∃a b,IsPair h (B+3) a b
 i:SqI k h B l n
 j:SqI m h (B+1) r n
theorem ZS.at{k m:Bool}{h h':Heap}{B l r:Nat}{n:Nat}{f g:Value}(x:ZS k m h B l r n f g)(e:∀(b:Nat) o,B<=b->b<=B+4->h.get? b=some o->h'.get? b=some o):ZS k m h' B l r n f g where
 z:=e _ _ (by lia) (by lia) x.z
 ti:=e _ _ (by lia) (by lia) x.ti
 to:=let ⟨a,b,y⟩:=x.to;⟨a,b,e _ _ (by lia) (by lia) y⟩
 i:=x.i.at fun o=>e _ o (by lia) (by lia)
 j:=x.j.at fun o=>e _ o (by lia) (by lia)
def KeptZ(B:Nat)(h h':Heap):Prop:=∀(c:Nat) o,(c < B\/B+4 < c)->h.get? c=some o->h'.get? c=some o
section
variable{P:Program}{w:World}{A:Around}{E:Value->Shared->Prop}{s:Shared}{k m:Bool}{B l r:Nat}{n:Nat}{xs ys:Array Value}{x y f g:Value}
theorem ZK{Q:Value->Shared->Prop}(hl:Sq k s.heap l xs)(hr:Sq m s.heap r ys)
  (q:∀h',ZS k m h' s.heap.objs.size l r 0 .none (.bool false)->h'.objs.size=s.heap.objs.size+5->(∀c o,s.heap.get? c=some o->h'.get? c=some o)->Q (.ref (s.heap.objs.size+4)) { s with heap:=h' }) :
  wpAny (model P w) A (call (.type "zip") [.ref l,.ref r]) Q E s:=by
 apply callType_new F.called_zip (by decide) (F.typeCall_zip_2 _ _) (F.newCall_zip_2 _ _) (fun obj=>F.args_object_init_3 obj _ _) F.entry_zip_new (Vl k m l r xs ys)
 refine⟨hl,hr,?_⟩
 have s1:(za k s.heap l).objs.size=s.heap.objs.size+1:=Ut ..
 have s2:(zb k m s.heap l r).objs.size=s.heap.objs.size+2:=by rw[Ut,s1]
 have s3:(zc k m s.heap l r).objs.size=s.heap.objs.size+3:=by rw[Ut,s2]
 have s4:(zd k m s.heap l r).objs.size=s.heap.objs.size+4:=by rw[Ut,s3]
 have s5:(ze k m s.heap l r).objs.size=s.heap.objs.size+5:=by rw[Ut,s4]
 have up:∀{c o},(zd k m s.heap l r).get? c=some o->(ze k m s.heap l r).get? c=some o:=fun e=>ug _ e
 have p5:(ze k m s.heap l r).get? (zd k m s.heap l r).objs.size=some _:=uA _ rfl
 have p4:(ze k m s.heap l r).get? (zc k m s.heap l r).objs.size=some _:=up (uA _ rfl)
 have p3:(ze k m s.heap l r).get? (zb k m s.heap l r).objs.size=some _:=up (ug _ (uA _ rfl))
 have p2:(ze k m s.heap l r).get? (za k s.heap l).objs.size=some _:=up (ug _ (ug _ (uA _ rfl)))
 have p1:(ze k m s.heap l r).get? s.heap.objs.size=some _:=up (ug _ (ug _ (ug _ (uA _ rfl))))
 rw[s4,s2,s3]at p5
 rw[s3]at p4
 rw[s2,s1]at p3
 rw[s1]at p2
 show _/\_
 rw[s4]
 exact⟨⟨_,p5,rfl⟩,q _ ⟨p5,p3,⟨_,_,p4⟩,.of ⟨_,p1,rfl,rfl⟩,.of ⟨_,p2,rfl,rfl⟩⟩ s5 fun c o e=>up (ug _ (ug _ (ug _ (ug _ e))))⟩
theorem ZM{Q:Value->Shared->Prop}(Z:ZS k m s.heap B l r n .none g)(hl:Sq k s.heap l xs)(hr:Sq m s.heap r ys)(ll:l < B)(rl:r < B)(hx:xs[n]?=some x)(hy:ys[n]?=some y)
  (q:∀h',ZS k m h' B l r (n+1) (rawInt s.heap.objs.size) (.bool false)->IsPair h' s.heap.objs.size x y->h'.objs.size=s.heap.objs.size+1->KeptZ B s.heap h'->Q (.ref s.heap.objs.size) { s with heap:=h' }) :
  wpAny (model P w) A (Builtin.«zip.__next__» ⟨[.ref (B+4)],[]⟩) (fun fin s'=>∃v,fin=.done (.ret v)/\Q v s') E s:=by
 obtain⟨a,b,hto⟩:=Z.to
 refine wpAny_bind (m:=field (.ref (B+4)) 2) (wpAny_field Z.z rfl (x:=.bool false) rfl ?_)
 refine wpAny_bind (m:=field (.ref (B+4)) 3) (wpAny_field Z.z rfl (x:=.ref (B+2)) rfl (wpAny_bind (wpAny_seqItems Z.ti rfl ?_)))
 refine wpAny_bind (m:=uU (.ref (B+4))) ?_
 unfold uU
 refine wpAny_bind (wpAny_field Z.z rfl (x:=.none) rfl (wpAny_pure ?_))
 rw[if_pos rfl]
 refine wpAny_bind (wpAny_rule (wpAny_bind (wpAny_field Z.z rfl (x:=.ref (B+3)) rfl (wpAny_bind (wpAny_setField_rec Z.z (by simp) fun h1 z1 u1=>wpAny_bind ?_)))))
 replace z1:h1.get? (B+4)=some { cls:=.type "zip",data:=.fields #[.ellipsis,g,.bool false,.ref (B+2),.ref (B+3)] }:=z1
 have k1:∀(c:Nat) o,c≠B+4->s.heap.get? c=some o->h1.get? c=some o:=fun c o n e=>(u1.2 c n).trans e
 simp only[List.zipIdx_cons,List.zipIdx_nil,List.forIn_cons,List.forIn_nil]
 refine wpAny_bind (wpAny_bind (wpAny_onRaise (wpAny_bind (m:=uQ (.ref B)) ?_)))
 refine xA (Z.i.at fun o=>k1 _ o (by lia)) (hl.at fun o=>k1 _ o (by lia)) hx fun h2 i2 u2=>wpAny_pure ?_
 have k2:∀(c:Nat) o,c≠B->h1.get? c=some o->h2.get? c=some o:=fun c o n e=>(u2.2 c n).trans e
 have to2:IsPair h2 (B+3) a b:=k2 _ _ (by lia) (k1 _ _ (by lia) hto)
 refine wpAny_bind (wpAny_seqItems to2 rfl (wpAny_bind (wpAny_updateSeq_pair to2 fun h3 to3 u3=>?_)))
 replace to3:IsPair h3 (B+3) x b:=to3
 have k3:∀(c:Nat) o,c≠B+3->h2.get? c=some o->h3.get? c=some o:=fun c o n e=>(u3.2 c n).trans e
 refine wpAny_bind (wpAny_letGo (wpAny_pure (wpAny_bind (wpAny_bind (wpAny_onRaise (wpAny_bind (m:=uQ (.ref (B+1))) ?_))))))
 refine xA (Z.j.at fun o e=>k3 _ o (by lia) (k2 _ o (by lia) (k1 _ o (by lia) e))) (hr.at fun o e=>k3 _ o (by lia) (k2 _ o (by lia) (k1 _ o (by lia) e))) hy fun h4 i4 u4=>wpAny_pure ?_
 have k4:∀(c:Nat) o,c≠B+1->h3.get? c=some o->h4.get? c=some o:=fun c o n e=>(u4.2 c n).trans e
 have to4:IsPair h4 (B+3) x b:=k4 _ _ (by lia) to3
 refine wpAny_bind (wpAny_seqItems to4 rfl (wpAny_bind (wpAny_updateSeq_pair to4 fun h5 to5 u5=>?_)))
 replace to5:IsPair h5 (B+3) x y:=to5
 have k5:∀(c:Nat) o,c≠B+3->h4.get? c=some o->h5.get? c=some o:=fun c o n e=>(u5.2 c n).trans e
 refine wpAny_bind (wpAny_letGo (wpAny_pure (wpAny_pure (wpAny_bind (wpAny_seqItems to5 rfl (wpAny_bind (wpAny_newTuple ?_)))))))
 have sz:h5.objs.size=s.heap.objs.size:=by rw[u5.1,u4.1,u3.1,u2.1,u1.1]
 have z5:h5.get? (B+4)=some { cls:=.type "zip",data:=.fields #[.ellipsis,g,.bool false,.ref (B+2),.ref (B+3)] }:=k5 _ _ (by lia) (k4 _ _ (by lia) (k3 _ _ (by lia) (k2 _ _ (by lia) z1)))
 have lt4:B+4 < h5.objs.size:=uv z5
 refine wpAny_bind (m:=tW (.ref (B+4)) (.ref h5.objs.size)) ?_
 unfold tW
 refine wpAny_bind (wpAny_setField_rec (ug { cls:=.type "tuple",data:=.seq #[x,y] } z5) (by simp) fun h7 z7 u7=>?_)
 refine wpAny_setField_rec z7 (by simp) fun h8 z8 u8=>wpAny_pure ⟨.ref h5.objs.size,rfl,?_⟩
 have k8:∀(c:Nat) o,c≠B+4->h5.get? c=some o->h8.get? c=some o:=fun c o n e=>(u8.2 c n).trans ((u7.2 c n).trans (ug _ e))
 have p8:IsPair h8 h5.objs.size x y:=(u8.2 _ (Nat.ne_of_gt lt4)).trans ((u7.2 _ (Nat.ne_of_gt lt4)).trans (uA _ rfl))
 have s8:h8.objs.size=h5.objs.size+1:=by rw[u8.1,u7.1,Ut]
 rw[sz]at p8 s8 ⊢
 refine q h8 ⟨?_,k8 _ _ (by lia) (k5 _ _ (by lia) (k4 _ _ (by lia) (k3 _ _ (by lia) (k2 _ _ (by lia) (k1 _ _ (by lia) Z.ti))))),⟨x,y,k8 _ _ (by lia) to5⟩,
  i2.at fun o e=>k8 _ _ (by lia) (k5 _ _ (by lia) (k4 _ _ (by lia) (k3 _ _ (by lia) e))),i4.at fun o e=>k8 _ _ (by lia) (k5 _ _ (by lia) e)⟩ p8 s8
  fun c o hc e=>k8 _ _ (by lia) (k5 _ _ (by lia) (k4 _ _ (by lia) (k3 _ _ (by lia) (k2 _ _ (by lia) (k1 _ _ (by lia) e)))))
 rw[<- sz]
 exact z8
theorem Vm{a:Addr}{o:Obj}{Q:Option Obj->Shared->Prop}(ho:s.heap.get? a=some o)(h:Q (some o) s):wpAny (model P w) A (loadIfAlive a) Q E s:=fun Γ p _=>by
 unfold loadIfAlive
 rw[Sem.wp_loadIfAlive,ho]
 simpa using h
theorem ZN{Q:Bool->Shared->Prop}{T:Nat}{ot:Obj}{c:Bool}(hz:s.heap.get? (B+4)=some { cls:=.type "zip",data:=.fields #[rawInt T,.bool c,.bool false,.ref (B+2),.ref (B+3)] })(hT:s.heap.get? T=some ot)
  (q:∀h1,h1.get? (B+4)=some { cls:=.type "zip",data:=.fields #[rawInt T,.bool true,.bool false,.ref (B+2),.ref (B+3)] }->h1.objs.size=s.heap.objs.size->(∀(d:Nat) o,d≠B+4->s.heap.get? d=some o->h1.get? d=some o)->Q false { s with heap:=h1 }) :
  wpAny (model P w) A (uU (.ref (B+4))) Q E s:=by
 unfold uU
 refine wpAny_bind (wpAny_field hz rfl (x:=rawInt T) rfl ?_)
 refine wpAny_bind (m:=loadIfAlive ((T:Int).toNat)) (Vm (o:=ot) (by rw[tM];exact hT) ?_)
 rw[if_neg (by simp)]
 refine wpAny_bind (wpAny_field hz rfl (x:=.bool c) rfl ?_)
 cases c with
 |true =>
  rw[if_neg (by decide)]
  exact wpAny_pure (q _ hz rfl fun d o _ e=>e)
 |false =>
  rw[if_pos (by decide)]
  exact wpAny_bind (wpAny_setField_rec hz (by simp) fun h1 z1 u1=>wpAny_pure (q h1 z1 u1.1 fun d o n e=>(u1.2 d n).trans e))
theorem Vn{Q:Value->Shared->Prop}{T:Nat}{ot:Obj}{c:Bool}(Z:ZS k m s.heap B l r n (rawInt T) (.bool c))(hT:s.heap.get? T=some ot)(hl:Sq k s.heap l xs)(hr:Sq m s.heap r ys)(ll:l < B)(rl:r < B)(hx:xs[n]?=some x)(hy:ys[n]?=some y)
  (q:∀h',ZS k m h' B l r (n+1) (rawInt T) (.bool true)->IsPair h' s.heap.objs.size x y->h'.objs.size=s.heap.objs.size+1->KeptZ B s.heap h'->Q (.ref s.heap.objs.size) { s with heap:=h' }) :
  wpAny (model P w) A (Builtin.«zip.__next__» ⟨[.ref (B+4)],[]⟩) (fun fin s'=>∃v,fin=.done (.ret v)/\Q v s') E s:=by
 obtain⟨a,b,hto⟩:=Z.to
 refine wpAny_bind (m:=field (.ref (B+4)) 2) (wpAny_field Z.z rfl (x:=.bool false) rfl ?_)
 refine wpAny_bind (m:=field (.ref (B+4)) 3) (wpAny_field Z.z rfl (x:=.ref (B+2)) rfl (wpAny_bind (wpAny_seqItems Z.ti rfl ?_)))
 refine wpAny_bind (m:=uU (.ref (B+4))) (ZN Z.z hT fun h1 z1 s1 k1=>?_)
 rw[if_neg uu]
 refine wpAny_bind ?_
 rw[<- Array.forIn_toList]
 simp only[List.forIn_cons,List.forIn_nil]
 refine wpAny_bind (wpAny_bind (wpAny_holding (wpAny_bind (m:=uQ (.ref B)) ?_)))
 refine xA (Z.i.at fun o=>k1 _ o (by lia)) (hl.at fun o=>k1 _ o (by lia)) hx fun h2 i2 u2=>wpAny_pure (wpAny_pure ?_)
 have k2:∀(c:Nat) o,c≠B->h1.get? c=some o->h2.get? c=some o:=fun c o n e=>(u2.2 c n).trans e
 refine wpAny_bind (wpAny_bind (wpAny_holding (wpAny_bind (m:=uQ (.ref (B+1))) ?_)))
 refine xA (Z.j.at fun o e=>k2 _ o (by lia) (k1 _ o (by lia) e)) (hr.at fun o e=>k2 _ o (by lia) (k1 _ o (by lia) e)) hy fun h4 i4 u4=>wpAny_pure (wpAny_pure (wpAny_pure ?_))
 have k4:∀(c:Nat) o,c≠B+1->h2.get? c=some o->h4.get? c=some o:=fun c o n e=>(u4.2 c n).trans e
 have sz:h4.objs.size=s.heap.objs.size:=by rw[u4.1,u2.1];exact s1
 refine wpAny_bind (wpAny_newTuple (hsz:=sN2) (wpAny_pure ⟨.ref h4.objs.size,rfl,?_⟩))
 have p5:IsPair (h4.push { cls:=.type "tuple",data:=.seq #[x,y] }) h4.objs.size x y:=uA _ rfl
 have s5:(h4.push { cls:=.type "tuple",data:=.seq #[x,y] }).objs.size=h4.objs.size+1:=Ut ..
 rw[sz]at p5 s5 ⊢
 have k5:∀(c:Nat) o,h4.get? c=some o->(h4.push { cls:=.type "tuple",data:=.seq #[x,y] }).get? c=some o:=fun c o e=>ug _ e
 exact q _ ⟨k5 _ _ (k4 _ _ (by lia) (k2 _ _ (by lia) z1)),k5 _ _ (k4 _ _ (by lia) (k2 _ _ (by lia) (k1 _ _ (by lia) Z.ti))),⟨a,b,k5 _ _ (k4 _ _ (by lia) (k2 _ _ (by lia) (k1 _ _ (by lia) hto)))⟩,
  i2.at fun o e=>k5 _ _ (k4 _ _ (by lia) e),i4.at fun o e=>k5 _ _ e⟩ p5 s5 fun c o hc e=>k5 _ _ (k4 _ _ (by lia) (k2 _ _ (by lia) (k1 _ _ (by lia) e)))
theorem QF{Q:PySem.Fin->Shared->Prop}(hA:A.handled=none)(Z:ZS k m s.heap B l r n .none g)(hl:Sq k s.heap l xs)(hr:Sq m s.heap r ys)(ll:l < B)(rl:r < B)(hx:xs[n]?=none\/ys[n]?=none)
  (q:∀h' e,KeptZ B s.heap h'->(∃o,h'.get? e=some o/\o.cls=.type "StopIteration")->E (.ref e) { s with heap:=h' }):wpAny (model P w) A (Builtin.«zip.__next__» ⟨[.ref (B+4)],[]⟩) Q E s:=by
 obtain⟨a,b,hto⟩:=Z.to
 refine wpAny_bind (m:=field (.ref (B+4)) 2) (wpAny_field Z.z rfl (x:=.bool false) rfl ?_)
 refine wpAny_bind (m:=field (.ref (B+4)) 3) (wpAny_field Z.z rfl (x:=.ref (B+2)) rfl (wpAny_bind (wpAny_seqItems Z.ti rfl ?_)))
 refine wpAny_bind (m:=uU (.ref (B+4))) ?_
 unfold uU
 refine wpAny_bind (wpAny_field Z.z rfl (x:=.none) rfl (wpAny_pure ?_))
 rw[if_pos rfl]
 refine wpAny_bind (wpAny_rule (wpAny_bind (wpAny_field Z.z rfl (x:=.ref (B+3)) rfl (wpAny_bind (wpAny_setField_rec Z.z (by simp) fun h1 z1 u1=>wpAny_bind ?_)))))
 replace z1:h1.get? (B+4)=some { cls:=.type "zip",data:=.fields #[.ellipsis,g,.bool false,.ref (B+2),.ref (B+3)] }:=z1
 have k1:∀(c:Nat) o,c≠B+4->s.heap.get? c=some o->h1.get? c=some o:=fun c o n e=>(u1.2 c n).trans e
 have nz:∀{h:Heap}{e:Nat}{v:Value}{o:Obj},h.get? (B+4)=some { cls:=.type "zip",data:=.fields #[v,g,.bool false,.ref (B+2),.ref (B+3)] }->h.get? e=some o->o.cls=.type "StopIteration"->e≠B+4:=fun h1 h2 h3 e=>by
  rw[e,h1]at h2
  cases h2
  simp at h3
 simp only[List.zipIdx_cons,List.zipIdx_nil,List.forIn_cons,List.forIn_nil]
 refine wpAny_bind (wpAny_bind (wpAny_onRaise (wpAny_bind (m:=uQ (.ref B)) ?_)))
 cases e1:xs[n]? with
 |none =>
  refine j4 hA (Z.i.at fun o=>k1 _ o (by lia)) (hl.at fun o=>k1 _ o (by lia)) e1 fun h2 e u2 he=>?_
  obtain⟨oe,he,ce⟩:=he
  have k2:∀(c:Nat) o,c≠B->h1.get? c=some o->h2.get? c=some o:=fun c o n e=>u2 c o n e
  have z2:=k2 _ _ (show B+4≠B by lia) z1
  refine wpAny_setField_rec z2 (by simp) fun h3 z3 u3=>q h3 e (fun c o hc x=>(u3.2 c (show(c:Nat)≠B+4 by lia)).trans (k2 _ _ (by lia) (k1 _ _ (by lia) x))) ⟨oe,(u3.2 e (nz z2 he ce)).trans he,ce⟩
 |some x =>
  have hy:ys[n]?=none:=hx.resolve_left (by rw[e1];simp)
  refine xA (Z.i.at fun o=>k1 _ o (by lia)) (hl.at fun o=>k1 _ o (by lia)) e1 fun h2 i2 u2=>wpAny_pure ?_
  have k2:∀(c:Nat) o,c≠B->h1.get? c=some o->h2.get? c=some o:=fun c o n e=>(u2.2 c n).trans e
  have to2:IsPair h2 (B+3) a b:=k2 _ _ (by lia) (k1 _ _ (by lia) hto)
  refine wpAny_bind (wpAny_seqItems to2 rfl (wpAny_bind (wpAny_updateSeq_pair to2 fun h3 to3 u3=>?_)))
  have k3:∀(c:Nat) o,c≠B+3->h2.get? c=some o->h3.get? c=some o:=fun c o n e=>(u3.2 c n).trans e
  refine wpAny_bind (wpAny_letGo (wpAny_pure (wpAny_bind (wpAny_bind (wpAny_onRaise (wpAny_bind (m:=uQ (.ref (B+1))) ?_))))))
  refine j4 hA (Z.j.at fun o e=>k3 _ o (by lia) (k2 _ o (by lia) (k1 _ o (by lia) e))) (hr.at fun o e=>k3 _ o (by lia) (k2 _ o (by lia) (k1 _ o (by lia) e))) hy fun h4 e u4 he=>?_
  obtain⟨oe,he,ce⟩:=he
  have k4:∀(c:Nat) o,c≠B+1->h3.get? c=some o->h4.get? c=some o:=fun c o n e=>u4 c o n e
  have z4:=k4 _ _ (show B+4≠B+1 by lia) (k3 _ _ (by lia) (k2 _ _ (by lia) z1))
  refine wpAny_setField_rec z4 (by simp) fun h5 z5 u5=>q h5 e (fun c o hc x=>(u5.2 c (show(c:Nat)≠B+4 by lia)).trans (k4 _ _ (by lia) (k3 _ _ (by lia) (k2 _ _ (by lia) (k1 _ _ (by lia) x))))) ⟨oe,(u5.2 e (nz z4 he ce)).trans he,ce⟩
theorem j5{Q:PySem.Fin->Shared->Prop}{T:Nat}{ot:Obj}{c:Bool}(hA:A.handled=none)(Z:ZS k m s.heap B l r n (rawInt T) (.bool c))(hT:s.heap.get? T=some ot)(hl:Sq k s.heap l xs)(hr:Sq m s.heap r ys)(ll:l < B)(rl:r < B)(hx:xs[n]?=none\/ys[n]?=none)
  (q:∀h' e,KeptZ B s.heap h'->(∃o,h'.get? e=some o/\o.cls=.type "StopIteration")->E (.ref e) { s with heap:=h' }):wpAny (model P w) A (Builtin.«zip.__next__» ⟨[.ref (B+4)],[]⟩) Q E s:=by
 refine wpAny_bind (m:=field (.ref (B+4)) 2) (wpAny_field Z.z rfl (x:=.bool false) rfl ?_)
 refine wpAny_bind (m:=field (.ref (B+4)) 3) (wpAny_field Z.z rfl (x:=.ref (B+2)) rfl (wpAny_bind (wpAny_seqItems Z.ti rfl ?_)))
 refine wpAny_bind (m:=uU (.ref (B+4))) (ZN Z.z hT fun h1 z1 s1 k1=>?_)
 rw[if_neg uu]
 refine wpAny_bind ?_
 rw[<- Array.forIn_toList]
 simp only[List.forIn_cons,List.forIn_nil]
 refine wpAny_bind (wpAny_bind (wpAny_holding (wpAny_bind (m:=uQ (.ref B)) ?_)))
 cases e1:xs[n]? with
 |none=>exact j4 hA (Z.i.at fun o=>k1 _ o (by lia)) (hl.at fun o=>k1 _ o (by lia)) e1 fun h2 e u2 he=>q h2 e (fun c o hc x=>u2 _ _ (show(c:Nat)≠B by lia) (k1 _ _ (by lia) x)) he
 |some x =>
  have hy:ys[n]?=none:=hx.resolve_left (by rw[e1];simp)
  refine xA (Z.i.at fun o=>k1 _ o (by lia)) (hl.at fun o=>k1 _ o (by lia)) e1 fun h2 i2 u2=>wpAny_pure (wpAny_pure ?_)
  have k2:∀(c:Nat) o,c≠B->h1.get? c=some o->h2.get? c=some o:=fun c o n e=>(u2.2 c n).trans e
  refine wpAny_bind (wpAny_bind (wpAny_holding (wpAny_bind (m:=uQ (.ref (B+1))) ?_)))
  exact j4 hA (Z.j.at fun o e=>k2 _ o (by lia) (k1 _ o (by lia) e)) (hr.at fun o e=>k2 _ o (by lia) (k1 _ o (by lia) e)) hy fun h4 e u4 he=>q h4 e (fun c o hc x=>u4 _ _ (show(c:Nat)≠B+1 by lia) (k2 _ _ (by lia) (k1 _ _ (by lia) x))) he
def ZF(B:Nat)(h:Heap)(f g:Value):Prop:=f=.none\/∃(T:Nat)(c:Bool)(o:Obj),f=rawInt T/\g=.bool c/\h.get? T=some o/\B+5 < T
theorem Vo{Q:Option Value->Shared->Prop}(Z:ZS k m s.heap B l r n f g)(hf:ZF B s.heap f g)(hl:Sq k s.heap l xs)(hr:Sq m s.heap r ys)(ll:l < B)(rl:r < B)(hx:xs[n]?=some x)(hy:ys[n]?=some y)
  (q:∀h' (T:Nat) (c:Bool),ZS k m h' B l r (n+1) (rawInt T) (.bool c)->(T=s.heap.objs.size\/B+5 < T/\∃o,s.heap.get? T=some o)->IsPair h' s.heap.objs.size x y->h'.objs.size=s.heap.objs.size+1->KeptZ B s.heap h'->Q (some (.ref s.heap.objs.size)) { s with heap:=h' }) :
  wpAny (model P w) A (pyNext (.ref (B+4))) Q E s:=by
 have ty:s.TypeIs (.ref (B+4)) "zip":=⟨_,Z.z,rfl⟩
 unfold pyNext
 refine wpAny_bind (wpAny_attempt (wpAny_callSpecial?_slot ty F.slot_zip_next (wpAny_call_entry F.slot_zip_next ty F.entry_zip_next ?_ (F.args_zip_next_1 (.ref (B+4))))))
 rcases hf with rfl|⟨T,c,o,rfl,rfl,hT,lT⟩
 ·exact ZM Z hl hr ll rl hx hy fun h' z p sz kz=>wpAny_pure (q h' _ _ z (.inl rfl) p sz kz)
 ·exact Vn Z hT hl hr ll rl hx hy fun h' z p sz kz=>wpAny_pure (q h' _ _ z (.inr ⟨lT,o,hT⟩) p sz kz)
theorem ZO{Q:Option Value->Shared->Prop}(hA:A.handled=none)(Z:ZS k m s.heap B l r n f g)(hf:ZF B s.heap f g)(hl:Sq k s.heap l xs)(hr:Sq m s.heap r ys)(ll:l < B)(rl:r < B)(hx:xs[n]?=none\/ys[n]?=none)
  (q:∀h',KeptZ B s.heap h'->Q none { s with heap:=h' }):wpAny (model P w) A (pyNext (.ref (B+4))) Q E s:=by
 have ty:s.TypeIs (.ref (B+4)) "zip":=⟨_,Z.z,rfl⟩
 unfold pyNext
 refine wpAny_bind (wpAny_attempt (wpAny_callSpecial?_slot ty F.slot_zip_next (wpAny_call_entry F.slot_zip_next ty F.entry_zip_next ?_ (F.args_zip_next_1 (.ref (B+4))))))
 have fin:∀h' e,KeptZ B s.heap h'->(∃o,h'.get? e=some o/\o.cls=.type "StopIteration")->wpAny (model P w) A (do
   if <- isInstance (.ref e) (.type "StopIteration")then pure none else throw (.ref e)) Q E { s with heap:=h' }:=by
  intro h' e kz ⟨o,ho,hc⟩
  exact wpAny_bind (wpAny_isInstance (T:="StopIteration") (b:=true) ⟨o,ho,hc⟩ isSubtype_stop (wpAny_pure (q _ kz)))
 rcases hf with rfl|⟨T,c,o,rfl,rfl,hT,lT⟩
 ·exact QF hA Z hl hr ll rl hx fun h' e kz he=>fin h' e kz he
 ·exact j5 hA Z hT hl hr ll rl hx fun h' e kz he=>fin h' e kz he
end
structure ZL(k m:Bool)(h0 h:Heap)(B l r n:Nat)(xs ys acc:Array Value)(c:Nat)(f g:Value):Prop where
 zs:ZS k m h B l r n f g
 zf:ZF B h f g
 hl:Sq k h l xs
 hr:Sq m h r ys
 sz:h.objs.size=B+6+n
 lst:h.get? (B+5)=some { cls:=.type "list",data:=.seq acc c }
 asz:acc.size=n
 par:∀i x y,i < n->xs[i]?=some x->ys[i]?=some y->acc[i]?=some (.ref (B+6+i))/\IsPair h (B+6+i) x y
 old:∀(b:Nat) o,b < B->h0.get? b=some o->h.get? b=some o
section
variable{P:Program}{w:World}{A:Around}{R:Result->Shared->Prop}{h0:Heap}{k m:Bool}{B l r N:Nat}{xs ys:Array Value}{res:Value}
theorem ZP(hA:A.handled=none)(ll:l < B)(rl:r < B)(hN:N<=sizeLine)(hx:N<=xs.size)(hy:N<=ys.size)(he:xs.size<=N\/ys.size<=N):∀(d n:Nat)(s:Shared)(acc:Array Value)(c:Nat)(f g:Value),n+d=N->ZL k m h0 s.heap B l r n xs ys acc c f g ->
  (∀h' acc' c',h'.get? (B+5)=some { cls:=.type "list",data:=.seq acc' c' }->acc'.size=N->(∀i x y,i < N->xs[i]?=some x->ys[i]?=some y->acc'[i]?=some (.ref (B+6+i))/\IsPair h' (B+6+i) x y)->(∀(b:Nat) o,b < B->h0.get? b=some o->h'.get? b=some o)->R (.ok (.ret res)) { s with heap:=h' }) ->
  codeAny (model P w) A (.builtin "list.extend.loop" ⟨[.ref (B+5),.ref (B+4),res],[]⟩) R s
 |0,n,s,acc,c,f,g,hd,Z,q=>by
  have e:n=N:=by lia
  subst e
  refine codeAny_builtin F.entry_extend_loop ?_
  rw[Around.under_plainId F.plain_extend_loop _]
  refine wpAny_bind (m:=pyNext (.ref (B+4))) (ZO (A:=A.in1) hA Z.zs Z.zf Z.hl Z.hr ll rl ?_ fun h' kz=>wpAny_pure (q h' acc c (kz _ _ (by lia) Z.lst) Z.asz ?_ fun b o hb x=>kz _ _ (by lia) (Z.old b o hb x)))
  ·rcases he with he|he
   ·exact .inl (Array.getElem?_eq_none (by lia))
   ·exact .inr (Array.getElem?_eq_none (by lia))
  ·intro i x y hi h1 h2
   obtain⟨p1,p2⟩:=Z.par i x y hi h1 h2
   exact⟨p1,kz _ _ (by lia) p2⟩
 |d+1,n,s,acc,c,f,g,hd,Z,q=>by
  refine codeAny_builtin F.entry_extend_loop ?_
  rw[Around.under_plainId F.plain_extend_loop _]
  have hx':n < xs.size:=by lia
  have hy':n < ys.size:=by lia
  refine wpAny_bind (m:=pyNext (.ref (B+4))) (Vo (A:=A.in1) Z.zs Z.zf Z.hl Z.hr ll rl (Array.getElem?_eq_getElem hx') (Array.getElem?_eq_getElem hy') fun h' T ct z hT p sz kz=>?_)
  have s0:=Z.sz
  rw[s0]at p sz
  have l1:h'.get? (B+5)=some { cls:=.type "list",data:=.seq acc c }:=kz _ _ (by lia) Z.lst
  have as:=Z.asz
  have up:∀(b:Nat) o,b≠B+5->h'.get? b=some o->(h'.update (B+5) (Obj.mapSeq (·.push (.ref (B+6+n))))).get? b=some o:=fun b o nb e=>(UP _ _ (Ne.symm nb)).trans e
  rw[s0]
  refine wpAny_bind (m:=updateSeq (B+5) (·.push (.ref (B+6+n)))) (wpAny_updateSeq l1 rfl (wpAny_pure ⟨plainId_quiet F.plain_extend_loop _,ZP hA ll rl hN hx hy he d (n+1) _ (acc.push (.ref (B+6+n))) _ (rawInt T) (.bool ct) (by lia) ⟨?_,?_,?_,?_,?_,UF _ l1 rfl,?_,?_,?_⟩ q⟩) (by lia) (by show(acc.push _).size<=sizeLine+1;rw[Array.size_push];lia))
  ·exact z.at fun b o h1 h2 e=>up b o (by lia) e
  ·rcases hT with e|⟨lT,o,hT⟩
   ·rw[s0]at e
    subst e
    exact .inr ⟨_,ct,_,rfl,rfl,up _ _ (by lia) p,by lia⟩
   ·exact .inr ⟨T,ct,o,rfl,rfl,up _ _ (by lia) (kz _ _ (by lia) hT),lT⟩
  ·exact Z.hl.at fun o e=>up _ o (by lia) (kz _ o (by lia) e)
  ·exact Z.hr.at fun o e=>up _ o (by lia) (kz _ o (by lia) e)
  ·show(h'.update _ _).objs.size=_
   rw[Heap.size_update,sz]
   lia
  ·rw[Array.size_push,as]
  ·intro i x y hi h1 h2
   by_cases c1:i=n
   ·subst c1
    rw[Array.getElem?_eq_getElem hx']at h1
    rw[Array.getElem?_eq_getElem hy']at h2
    cases h1
    cases h2
    refine⟨?_,up _ _ (by lia) p⟩
    rw[Array.getElem?_push,if_pos as.symm]
   ·obtain⟨p1,p2⟩:=Z.par i x y (by lia) h1 h2
    refine⟨?_,up _ _ (by lia) (kz _ _ (by lia) p2)⟩
    rw[Array.getElem?_push,if_neg (by lia)]
    exact p1
  ·exact fun b o hb x=>up _ _ (by lia) (kz _ _ (by lia) (Z.old b o hb x))
end
theorem QG:typeLookup (.type "zip") "__len__"=pure none:=by rw[typeLookup_type,builtinLookup_eq_fast];kernel_rfl
theorem Vp:typeLookup (.type "zip") "__length_hint__"=pure none:=by rw[typeLookup_type,builtinLookup_eq_fast];kernel_rfl
section
variable{P:Program}{w:World}{A:Around}{E:Value->Shared->Prop}{s:Shared}{k m:Bool}{B l r N:Nat}{xs ys:Array Value}
theorem Vq{Q:Value->Shared->Prop}(hA:A.handled=none)(Z:ZS k m s.heap B l r 0 .none (.bool false))(hl:Sq k s.heap l xs)(hr:Sq m s.heap r ys)(ll:l < B)(rl:r < B)(sz:s.heap.objs.size=B+5)
  (hN:N<=sizeLine) (hx:N<=xs.size) (hy:N<=ys.size) (he:xs.size<=N\/ys.size<=N)
  (q:∀h' acc' c',h'.get? (B+5)=some { cls:=.type "list",data:=.seq acc' c' }->acc'.size=N->(∀i x y,i < N->xs[i]?=some x->ys[i]?=some y->acc'[i]?=some (.ref (B+6+i))/\IsPair h' (B+6+i) x y)->(∀(b:Nat) o,b < B->s.heap.get? b=some o->h'.get? b=some o)->Q (.ref (B+5)) { s with heap:=h' }) :
  wpAny (model P w) A (call (.type "list") [.ref (B+4)]) Q E s:=by
 refine callType_codes (Q₁:=fun obj s₁=>obj=.ref (B+5)/\s₁={ s with heap:=s.heap.push { cls:=.type "list",data:=.seq #[] } }) F.called_list (F.typeCall_list_1 _) F.entry_list_init (code_list_new _ ⟨by rw[sz],rfl⟩) ?_
 rintro obj s1 ⟨rfl,rfl⟩
 have l0:(s.heap.push { cls:=.type "list",data:=.seq #[] }).get? (B+5)=some { cls:=.type "list",data:=.seq #[] }:=by
  rw[<- sz]
  exact uA _ rfl
 have z0:(s.heap.push { cls:=.type "list",data:=.seq #[] }).objs.size=B+6:=by rw[Ut,sz]
 have up:∀(b:Nat) o,s.heap.get? b=some o->(s.heap.push { cls:=.type "list",data:=.seq #[] }).get? b=some o:=fun b o e=>ug _ e
 generalize s.heap.push { cls:=.type "list",data:=.seq #[] }=h at l0 z0 up
 refine⟨⟨_,l0,rfl⟩,F.args_list_init_2 _ _,?_⟩
 refine wpAny_bind (m:=Builtin.List.listItems (.ref (B+5))) ?_
 unfold Builtin.List.listItems
 refine wpAny_bind (wpAny_seqItems l0 rfl (wpAny_pure ?_))
 refine wpAny_bind (m:=updateSeq (B+5) (fun _=>#[])) (wpAny_updateSeq l0 rfl ?_)
 have l1:=UF (Obj.mapSeq (fun _=>(#[]:Array Value))) l0 rfl
 have u1:∀(b:Nat) o,b≠B+5->h.get? b=some o->(h.update (B+5) (Obj.mapSeq (fun _=>(#[]:Array Value)))).get? b=some o:=fun b o n e=>(UP _ _ (Ne.symm n)).trans e
 have z1:(h.update (B+5) (Obj.mapSeq (fun _=>(#[]:Array Value)))).objs.size=B+6:=by rw[Heap.size_update,z0]
 refine wpAny_bind (wpAny_letGo ?_)
 show wpAny _ _ (Builtin.List.listExtendWith (.ref (B+5)) (.ref (B+4)) .none) _ _ _
 generalize h.update (B+5) (Obj.mapSeq (fun _=>(#[]:Array Value)))=h1 at l1 u1 z1 ⊢
 replace up:∀(b:Nat) o,b < B+5->s.heap.get? b=some o->h1.get? b=some o:=fun b o n e=>u1 b o (by lia) (up b o e)
 have Z1:ZS k m h1 B l r 0 .none (.bool false):=Z.at fun b o h1 h2 e=>up b o (by lia) e
 unfold Builtin.List.listExtendWith
 refine wpAny_bind (wpAny_typeOf (T:="zip") ⟨_,Z1.z,rfl⟩ ?_)
 have n1:Builtin.List.listSameRef (.ref (B+5)) (.ref (B+4))=false:=by simp[Builtin.List.listSameRef]
 have n2:(Value.type "zip" == Value.type "list" || Value.type "zip" == Value.type "tuple")=false:=by decide
 rw[n1,tZ,n2,if_neg uu]
 refine wpAny_bind (wpAny_pyIter_zip Z1.z (wpAny_bind (wpAny_holding ?_)))
 unfold Builtin.List.listLengthHint
 refine wpAny_bind (wpAny_specialOf (T:="zip") ⟨_,Z1.z,rfl⟩ QG ?_)
 refine wpAny_bind (m:=specialOf (Value.ref (B+4)) (Str.ofString "__length_hint__")) (wpAny_specialOf (T:="zip") ⟨_,Z1.z,rfl⟩ Vp (wpAny_pure ?_))
 refine wpAny_bind (m:=rule "list.extend.makes-room") (wpAny_rule (wpAny_bind ?_))
 refine wpAny_bind (m:=updateSeq (B+5) (·.push .none)) (wpAny_updateSeq l1 rfl ?_)
 have l2:=UF (Obj.mapSeq (·.push Value.none)) l1 rfl
 refine wpAny_updateSeq (a:=B+5) (f:=(·.pop)) (hz:=by seq_fits) l2 rfl ?_
 have l3:=UF (Obj.mapSeq (·.pop)) l2 rfl
 have u3:∀(b:Nat) o,b≠B+5->h1.get? b=some o->((h1.update (B+5) (Obj.mapSeq (·.push Value.none))).update (B+5) (Obj.mapSeq (·.pop))).get? b=some o:=fun b o n e=>(UP _ _ (Ne.symm n)).trans ((UP _ _ (Ne.symm n)).trans e)
 refine wpAny_pure ⟨plainId_quiet F.plain_extend_loop _,ZP (h0:=s.heap) (A:=A.in1) (acc:=#[]) hA ll rl hN hx hy he N 0 _ _ .none (.bool false) (by lia) ⟨Z1.at fun b o h1 h2 e=>u3 b o (by lia) e,.inl rfl,?_,?_,?_,l3,rfl,?_,?_⟩ ?_⟩
 ·exact hl.at fun o e=>u3 _ o (by lia) (up _ o (by lia) e)
 ·exact hr.at fun o e=>u3 _ o (by lia) (up _ o (by lia) e)
 ·show(Heap.update (Heap.update _ _ _) _ _).objs.size=_
  rw[Heap.size_update,Heap.size_update,z1]
 ·intro i x y hi
  lia
 ·exact fun b o hb e=>u3 _ _ (by lia) (up _ _ (by lia) e)
 ·exact fun h' acc' c' h1 h2 h3 h4=>⟨rfl,q h' acc' c' h1 h2 h3 h4⟩
end
theorem jp(g:Nat->Nat):∀l:List Nat,Vals (l.map fun i=>V.ref (g i)) (l.map fun i=>Value.ref (g i))
 |[]=>.nil
 |i::l=>.cons rfl (jp g l)
def hpZ(H:Hp)(B N:Nat)(f:Nat->List V):Hp:=fun(b:Nat)=>if b=B+5 then some (.lst ((uC N).map fun i=>V.ref (B+6+i)))else if B+6<=b/\b < B+6+N then some (.tup (f (b-(B+6))))else H b
theorem xg{H:Hp}{B N:Nat}{f:Nat->List V}{b:Nat}(h:b < B+5):hpZ H B N f b=H b:=by
 unfold hpZ
 rw[if_neg (by lia),if_neg (by lia)]
theorem Xt{H:Hp}{B N:Nat}{f:Nat->List V}:hpZ H B N f (B+5)=some (.lst ((uC N).map fun i=>V.ref (B+6+i))):=if_pos rfl
theorem Xu{H:Hp}{B N:Nat}{f:Nat->List V}{i:Nat}(h:i < N):hpZ H B N f (B+6+i)=some (.tup (f i)):=by
 unfold hpZ
 rw[if_neg (by lia),if_pos (by lia)]
 rw[show B+6+i-(B+6)=i by lia]
theorem Inv.zipped{X:Cx}{pins:List (Addr×Obj)}{σ:St}{H:Hp}{s:Shared}{h':Heap}{B N:Nat}{f:Nat->List V}{us:Nat->Array Value}{acc:Array Value}{c:Nat}(I:Inv X pins σ H s)(hB:s.heap.objs.size=B)(k:∀(b:Nat) o,b < B->s.heap.get? b=some o->h'.get? b=some o)
  (hl:h'.get? (B+5)=some { cls:=.type "list",data:=.seq acc c }) (hN:N<=sizeLine) (hs:acc.size=N) (ha:∀i,i < N->acc[i]?=some (.ref (B+6+i))) (ht:∀i,i < N->(f i).length<=sizeLine/\Vals (f i) (us i).toList/\h'.get? (B+6+i)=some { cls:=.type "tuple",data:=.seq (us i) }) :
  Inv X pins σ (hpZ H B N f) { s with heap:=h' }:=by
 have lt:∀{b:Nat}{u},H b=some u->b < B:=fun e=>by rw[<- hB];exact I.hok.lt e
 have lt':∀{b:Nat}{o},s.heap.get? b=some o->b < B:=fun e=>by rw[<- hB];exact uv e
 refine I.un (t':=s.toks) ⟨fun b o e _ _ _=>k b o (lt' e) e,fun b o e _ _ _=>⟨o.slots,k b o (lt' e) e⟩,fun b o e n _=>by rw[xg (by have:=lt' e;lia)];exact n,fun b o e _=>⟨o,k b o (lt' e) e⟩,
  fun b xs e=>by rw[xg (by have:=lt e;lia)];exact e,fun b u xs e=>by rw[xg (by have:=lt e;lia)];exact e,fun b ps e=>⟨#[],by rw[xg (by have:=lt e;lia),e];simp⟩⟩ fun(b:Nat) u e=>?_
 by_cases c1:b=B+5
 ·subst c1
  rw[Xt]at e
  cases e
  refine⟨by simpa using hN,acc.toList,c,?_,by simpa using hl⟩
  have e2:acc.toList=(uC N).map fun i=>Value.ref (B+6+i):=by
   apply List.ext_getElem?
   intro i
   by_cases hi:i < N
   ·have:=ha i hi
    simp[hi]
    simpa using this
   ·simp[hi]
    lia
  rw[e2]
  exact jp _ _
 ·by_cases c2:B+6<=b/\b < B+6+N
  ·obtain⟨i,rfl⟩:∃i,b=B+6+i:=⟨b-(B+6),by lia⟩
   have hi:i < N:=by lia
   rw[Xu hi]at e
   cases e
   obtain⟨t1,t2,t3⟩:=ht i hi
   exact⟨t1,(us i).toList,t2,⟨_,t3,rfl,rfl,0,rfl⟩⟩
  ·have e':H b=some u:=by
    unfold hpZ at e
    rw[if_neg c1,if_neg c2]at e
    exact e
   exact(I.hok b u e').stay (fun d v _ q=>k d v (lt' q) q) (fun d q=>by rw[xg (by have:=lt q;lia)];exact q) fun d xs q=>by rw[xg (by have:=lt q;lia)];exact q
def zc6(K:ub):List V->Hp->VK->Prop:=fun vs H Q=>∃a b xs ys,vs=[.ref a,.ref b]/\(SqL K H a xs\/SqT K H a xs)/\(SqL K H b ys\/SqT K H b ys) /\
 ∀(H':Hp)(p:Addr)(ps:List Addr),Same H H'->H p=none->H' p=some (.lst (ps.map V.ref))->ps.length=min xs.length ys.length->(∀t∈ps,H t=none/\t≠p)->ps.Nodup->(∀(i:Nat) x y,xs[i]?=some x->ys[i]?=some y->∃t,ps[i]?=some t/\H' t=some (.tup [x,y]))->Q (.ref p) H'
def za8(K:ub)(ta:TA):TE:=fun σ H Q=>ta σ H fun vs H1=>zc6 K vs H1 Q
theorem Inv.sq{X:Cx}{pins:List (Addr×Obj)}{σ:St}{H:Hp}{s:Shared}{a:Addr}{xs:List V}(I:Inv X pins σ H s)(h:SqL X.K H a xs\/SqT X.K H a xs):∃(k:Bool)(its:List Value),Vals xs its/\Sq k s.heap a its.toArray/\xs.length<=sizeLine/\(a:Nat) < s.heap.objs.size:=by
 rcases h with h|h
 ·obtain⟨its,r,p,z⟩:=I.list h
  have⟨o,n,e,_⟩:=p
  exact⟨true,its,r,p.isList,z,uv e⟩
 ·obtain⟨its,r,p,z⟩:=I.tuple h
  have⟨o,e,_⟩:=p
  exact⟨false,its,r,p,z,uv e⟩
section
variable{X:Cx}{a b:Expr}{ta:TA}{p1 p2 pos1 pos2:Pos}
theorem QH(hc:X.calm=true)(hgL:Gl X "list")(hmL:X.mg "list"=none)(hgZ:Gl X "zip")(hmZ:X.mg "zip"=none)(ha:PA X [a,b] ta)
  (h1:starEach [a,b] X.env=[(false,eval a X.env),(false,eval b X.env)]:=by rfl) (h2:starEach [b] X.env=[(false,eval b X.env)]:=by rfl):PE X (.Call (.Name "list" p1) [.Call (.Name "zip" p2) [a,b] [] pos2] [] pos1) (za8 X.K ta):=by
 intro pins s σ H Q I h
 refine Call_ (yU I hgL hmL Tf (Ue (Calls.spliced_cons (Call_ (yU I hgZ hmZ boot_zip (Ue (thn (ha pos2 pins s σ H _ I h) fun us s1 g=>?_) (by rw[h1,h2]) (by rw[h2];rfl))))) rfl rfl))
 obtain⟨vs,H1,I1,r1,a1,b1,xs,ys,rfl,hq1,hq2,q⟩:=g
 obtain⟨u,u',rfl,e1,e2⟩:=Xh r1
 cases e1
 cases e2
 obtain⟨k1,i1,v1,q1,z1,l1⟩:=I1.sq hq1
 obtain⟨k2,i2,v2,q2,z2,l2⟩:=I1.sq hq2
 refine ZK q1 q2 fun h' Z sz kp=>Calls.spliced_nil ?_
 have hh:X.A.handled=none:=I1.ok.hd hc
 have n1:=v1.length
 have n2:=v2.length
 refine Vq (s:={ s1 with heap:=h' }) (N:=min xs.length ys.length) hh Z (q1.at fun o=>kp _ o) (q2.at fun o=>kp _ o) l1 l2 sz (by lia) (by rw[ur];lia) (by rw[ur];lia) (by rw[ur,ur];lia) fun h'' acc c hl hs hp ho=>?_
 have pairs:∀i,i < min xs.length ys.length->∃x y u v,xs[i]?=some x/\ys[i]?=some y/\i1[i]?=some u/\i2[i]?=some v/\RelV x u/\RelV y v:=fun i hi=>by
  have c1:i < xs.length:=by lia
  have c2:i < ys.length:=by lia
  obtain⟨u,e1,r1⟩:=v1.get (ui c1)
  obtain⟨v,e2,r2⟩:=v2.get (ui c2)
  exact⟨_,_,u,v,ui c1,ui c2,e1,e2,r1,r2⟩
 have I2:Inv X pins σ (hpZ H1 s1.heap.objs.size (min xs.length ys.length) fun i=>[xs.getD i .non,ys.getD i .non]) { s1 with heap:=h'' }:=by
  refine I1.zipped (us:=fun i=>#[i1.getD i .none,i2.getD i .none]) (acc:=acc) (c:=c) rfl (fun b o hb e=>ho b o hb (kp _ _ e)) hl (by lia) hs (fun i hi=>?_) fun i hi=>?_
  ·obtain⟨x,y,u,v,_,_,e1,e2,_⟩:=pairs i hi
   exact(hp i u v hi (by simpa using e1) (by simpa using e2)).1
  ·obtain⟨x,y,u,v,f1,f2,e1,e2,r1,r2⟩:=pairs i hi
   refine⟨sN2,?_,?_⟩
   ·rw[uV,uV,f1,f2]
    rw[uV,uV,e1,e2]
    exact .cons r1 (.cons r2 .nil)
   ·rw[uV,uV,e1,e2]
    exact(hp i u v hi (by simpa using e1) (by simpa using e2)).2
 have old:∀{c:Nat}{o},H1 c=some o->c < s1.heap.objs.size:=fun e=>I1.hok.lt e
 refine⟨.ref (s1.heap.objs.size+5),_,I2,rfl,q _ _ ((uC (min xs.length ys.length)).map fun i=>s1.heap.objs.size+6+i) (fun c o e=>?_) (I1.hok.fresh (UB _ _)) ?_ (by simp) ?_ ?_ ?_⟩
 ·rw[xg (by have:=old e;lia)]
  exact e
 ·rw[Xt,tS]
  rfl
 ·intro t ht
  obtain⟨i,_,rfl⟩:=uy.mp ht
  refine⟨I1.hok.fresh ?_,?_⟩
  ·show s1.heap.objs.size<=s1.heap.objs.size+6+i
   lia
  ·show s1.heap.objs.size+6+i≠s1.heap.objs.size+5
   lia
 ·refine List.Pairwise.map _ (fun i j (ne:i≠j) e=>ne ?_) List.nodup_range
  have e':s1.heap.objs.size+6+i=s1.heap.objs.size+6+j:=e
  exact Nat.add_left_cancel e'
 ·intro i x y hx hy
  have c1:i < xs.length:=(uc.mp hx).1
  have c2:i < ys.length:=(uc.mp hy).1
  refine⟨s1.heap.objs.size+6+i,?_,?_⟩
  ·rw[ue,tH (by lia)]
   rfl
  ·rw[Xu (by lia),uV,uV,hx,hy]
   rfl
theorem w5(hc:X.calm=true)(hgL:Gl X "list")(hmL:X.mg "list"=none)(hgZ:Gl X "zip")(hmZ:X.mg "zip"=none)(ha:jA X [a,b] ta)(h1:zw a=false:=by rfl)(h2:zw b=false:=by rfl):
  jE X (.Call (.Name "list" p1) [.Call (.Name "zip" p2) [a,b] [] pos2] [] pos1) (za8 X.K ta):=⟨QH hc hgL hmL hgZ hmZ ha.out (by rw[zC h1,zC h2];rfl) (by rw[zC h2];rfl)⟩
end
def SqK(k:Bool)(K:ub)(H:Hp)(a:Addr)(xs:List V):Prop:=match k with
 |true=>SqL K H a xs
 |false=>SqT K H a xs
theorem Inv.sqk{X:Cx}{pins:List (Addr×Obj)}{σ:St}{H:Hp}{s:Shared}{k:Bool}{a:Addr}{xs:List V}(I:Inv X pins σ H s)(h:SqK k X.K H a xs):∃its:List Value,Vals xs its/\Sq k s.heap a its.toArray/\xs.length<=sizeLine/\(a:Nat) < s.heap.objs.size:=by
 cases k with
 |true =>
  obtain⟨its,r,p,z⟩:=I.list h
  have⟨o,n,e,_⟩:=p
  exact⟨its,r,p.isList,z,uv e⟩
 |false =>
  obtain⟨its,r,p,z⟩:=I.tuple h
  have⟨o,e,_⟩:=p
  exact⟨its,r,p,z,uv e⟩
theorem Inv.sqk_inj{X:Cx}{pins:List (Addr×Obj)}{σ:St}{H:Hp}{s:Shared}{k:Bool}{a:Addr}{xs ys:List V}(I:Inv X pins σ H s)(h:SqK k X.K H a xs)(h':SqK k X.K H a ys):xs=ys:=by
 cases k with
 |true=>exact I.list_inj h h'
 |false=>exact I.tuple_inj h h'
def Itz(K:ub)(k m:Bool)(a b:Addr):It :=
 ⟨fun i H=>∃xs ys x y,SqK k K H a xs/\SqK m K H b ys/\xs[i]?=some x/\ys[i]?=some y,
   fun i H v H'=>∃T x y,v=.ref T/\H T=none/\H'=upd H T (.tup [x,y])/\(∀xs,SqK k K H a xs->xs[i]?=some x)/\∀ys,SqK m K H b ys->ys[i]?=some y,
   fun i H=>∃xs ys,SqK k K H a xs/\SqK m K H b ys/\(xs.length<=i\/ys.length<=i)⟩
theorem KeptZ.of{B:Nat}{h h':Heap}(z:KeptZ B h h'):∀(b:Nat) o,b∉[B,B+1,B+2,B+3,B+4]->h.get? b=some o->h'.get? b=some o:=fun b o n e=>z b o (by simp only[um,UL,or_false,not_or]at n;lia) e
theorem Xv{k m:Bool}{h:Heap}{B l r n:Nat}{f g:Value}(Z:ZS k m h B l r n f g):∀b∈[B,B+1,B+2,B+3,B+4],∃o,h.get? b=some o/\∀v,o.data≠.cell v:=by
 intro b hb
 simp only[um,UL,or_false]at hb
 rcases hb with rfl|rfl|rfl|rfl|rfl
 ·obtain⟨o,e,_,d⟩:=Z.i.ex
  exact⟨o,e,fun v z=>by rw[d]at z;cases z⟩
 ·obtain⟨o,e,_,d⟩:=Z.j.ex
  exact⟨o,e,fun v z=>by rw[d]at z;cases z⟩
 ·exact⟨_,Z.ti,fun v z=>by cases z⟩
 ·obtain⟨x,y,e⟩:=Z.to
  exact⟨_,e,fun v z=>by cases z⟩
 ·exact⟨_,Z.z,fun v z=>by cases z⟩
theorem Vr{P:Program}{w:World}{K:ub}{elts:List Expr}{n:Nat}{pos:Pos}{k m:Bool}{a b:Addr}{B:Nat}(la:(a:Nat) < B)(lb:(b:Nat) < B):
  Turn P w K (.Tuple elts n pos) (Itz K k m a b) [B,B+1,B+2,B+3,B+4] (B+4) (fun i h=>ZS k m h B a b i .none (.bool false)) where
 mem:=by simp
 obj:=fun i h st=>Xv st
 keep:=fun i h h' st kp=>st.at fun c o h1 h2 e=>kp c (by
  have:c=B\/c=B+1\/c=B+2\/c=B+3\/c=B+4:=by lia
  simpa using this) o e
 item:=by
  intro X hP hw hK hc i pins s σ H E I hf st hg
  subst hP hw hK
  obtain⟨xs,ys,x,y,h1,h2,hx,hy⟩:=hg
  obtain⟨i1,v1,q1,z1,l1⟩:=I.sqk h1
  obtain⟨i2,v2,q2,z2,l2⟩:=I.sqk h2
  obtain⟨u,eu,ru⟩:=v1.get hx
  obtain⟨v,ev,rv⟩:=v2.get hy
  have ty:s.TypeIs (.ref (B+4)) "zip":=⟨_,st.z,rfl⟩
  unfold pyNext
  refine wpAny_bind (wpAny_attempt (wpAny_callSpecial?_slot ty F.slot_zip_next (wpAny_call_entry F.slot_zip_next ty F.entry_zip_next ?_ (F.args_zip_next_1 (.ref (B+4))))))
  refine ZM st q1 q2 la lb (by simpa using eu) (by simpa using ev) fun h' z p sz kz=>wpAny_pure ⟨_,rfl,?_⟩
  have new:ObjOk X.prog X.w (upd H s.heap.objs.size (.tup [x,y])) h' s.heap.objs.size (.tup [x,y]):=⟨sN2,[u,v],.cons ru (.cons rv .nil),⟨_,p,rfl,rfl,_,rfl⟩⟩
  have I1:Inv X pins σ (upd H s.heap.objs.size (.tup [x,y])) { s with heap:=h' }:=I.turnsLaid (t':=s.toks) (ch:=[B,B+1,B+2,B+3,B+4]) kz.of hf (ud _) new
  have hn:∀c∈[B,B+1,B+2,B+3,B+4],upd H s.heap.objs.size (.tup [x,y]) c=none:=fun c hc=>by
   obtain⟨o,e,_⟩:=Xv st c hc
   rw[zi (uS (uv e))]
   exact(hf c hc).1
  have hf1:∀c∈[B,B+1,B+2,B+3,B+4],FpOk X pins (upd H s.heap.objs.size (.tup [x,y])) c:=fun c hc=>⟨hn c hc,(hf c hc).2⟩
  refine wpAny_letOwnedTupleGo_zip z.z fun h3 z2 u2=>?_
  have I2:Inv X pins σ (upd H s.heap.objs.size (.tup [x,y])) { s with heap:=h3 }:=Inv.turns (s:={ s with heap:=h' }) (t':=s.toks) (ch:=[B,B+1,B+2,B+3,B+4]) I1 (fun c o hc e=>(u2.2 c fun z=>hc (by simp[z])).trans e) hf1
  refine⟨.ref s.heap.objs.size,_,I2,rfl,⟨_,x,y,rfl,I.fresh,rfl,fun zs hz=>by rw[I.sqk_inj hz h1];exact hx,fun zs hz=>by rw[I.sqk_inj hz h2];exact hy⟩,?_,hn⟩
  have up:∀(c:Nat) o,c≠B+4->h'.get? c=some o->h3.get? c=some o:=fun c o n e=>(u2.2 c n).trans e
  exact⟨z2,up _ _ (by lia) z.ti,let ⟨c,d,e⟩:=z.to;⟨c,d,up _ _ (by lia) e⟩,z.i.at fun o e=>up _ _ (by lia) e,z.j.at fun o e=>up _ _ (by lia) e⟩
 done:=by
  intro X hP hw hK hc i pins s σ H E I hf st hg
  subst hP hw hK
  obtain⟨xs,ys,h1,h2,hl⟩:=hg
  obtain⟨i1,v1,q1,z1,l1⟩:=I.sqk h1
  obtain⟨i2,v2,q2,z2,l2⟩:=I.sqk h2
  have n1:=v1.length
  have n2:=v2.length
  refine ZO (I.ok.hd hc) st (.inl rfl) q1 q2 la lb ?_ fun h' kz=>⟨rfl,I.turns (t':=s.toks) (ch:=[B,B+1,B+2,B+3,B+4]) kz.of hf⟩
  rcases hl with hl|hl
  ·exact .inl (by simp;lia)
  ·exact .inr (by simp;lia)
 self:=fun _ _ _ _ _ st h=>by
  have ty:Shared.TypeIs _ (.ref (B+4)) "zip":=⟨_,st.z,rfl⟩
  exact wpAny_pyIter_slot ty F.slot_zip_iter (wpAny_call_entry F.slot_zip_iter ty F.entry_zip_iter (wpAny_pure ⟨_,rfl,"zip",_,ty,F.slot_zip_next.lookup,h⟩) (F.args_zip_iter_1 (.ref (B+4))))
section
variable{X:Cx}{elts:List Expr}{n:Nat}{tpos:Pos}
def iZip(K:ub)(ta:TA):TI:=fun σ H R=>ta σ H fun vs H1=>∃a b k m xs ys,vs=[.ref a,.ref b]/\SqK k K H1 a xs/\SqK m K H1 b ys/\R (Itz K k m a b) H1
theorem zb2{a b:Expr}{ta:TA}{p pos:Pos}(hg:Gl X "zip")(hm:X.mg "zip"=none)(ha:PA X [a,b] ta)(h1:starEach [a,b] X.env=[(false,eval a X.env),(false,eval b X.env)]:=by rfl)(h2:starEach [b] X.env=[(false,eval b X.env)]:=by rfl):
  PI X (.Tuple elts n tpos) (.Call (.Name "zip" p) [a,b] [] pos) (iZip X.K ta):=by
 intro pins s σ H R I h
 refine Call_ (yU I hg hm boot_zip (Ue (thn (ha pos pins s σ H _ I h) fun us s1 g=>?_) (by rw[h1,h2]) (by rw[h2];rfl)))
 obtain⟨vs,H1,I1,r1,a1,b1,k,m,xs,ys,rfl,g1,g2,q⟩:=g
 obtain⟨u,u',rfl,e1,e2⟩:=Xh r1
 cases e1
 cases e2
 obtain⟨i1,v1,q1,z1,l1⟩:=I1.sqk g1
 obtain⟨i2,v2,q2,z2,l2⟩:=I1.sqk g2
 refine ZK q1 q2 fun h' Z sz kp=>?_
 have tz:=Vr (P:=X.prog) (w:=X.w) (K:=X.K) (elts:=elts) (n:=n) (pos:=tpos) (k:=k) (m:=m) l1 l2
 refine tz.self X.A 0 { s1 with heap:=h' } _ _ Z ⟨s1.heap.objs.size+4,_,_,_,H1,rfl,I1.kept (t':=s1.toks) kp,tz,Z,fun c hc=>?_,q⟩
 have hc':c=s1.heap.objs.size\/c=s1.heap.objs.size+1\/c=s1.heap.objs.size+2\/c=s1.heap.objs.size+3\/c=s1.heap.objs.size+4:=by simpa using hc
 have le:s1.heap.objs.size<=c:=by
  rcases hc' with e|e|e|e|e<;>rw[e]<;>first|exact ud _|exact UB _ _
 exact I1.fpOk le (I1.hok.fresh le)
theorem Vs{a b:Expr}{t:TA}{p pos:Pos}(hg:Gl X "zip")(hm:X.mg "zip"=none)(ha:jA X [a,b] t)(h1:zw a=false:=by rfl)(h2:zw b=false:=by rfl):jI X (.Tuple elts n tpos) (.Call (.Name "zip" p) [a,b] [] pos) (iZip X.K t) :=
 ⟨zb2 hg hm ha.out (by rw[zC h1,zC h2];rfl) (by rw[zC h2];rfl)⟩
end
structure Ca(P:Program)(w:World)(K:ub)(mg:Str->Option Value)(base:Heap)(CX:CXT)(k:Nat)(x:Str)(ps:List Str)(sp:Sp):Prop where
 ex:∃f fd,FnOk P w K mg base CX k f fd ps sp/\Binds K fd ps []/\u0 K (.ref f)=true/\mg x=some (.ref f)
structure Me(P:Program)(w:World)(K:ub)(mg:Str->Option Value)(base:Heap)(CX:CXT)(k:Nat)(C:Addr)(m:Str)(ps:List Str)(sp:Sp):Prop where
 ex:∃f fd,FnOk P w K mg base CX k f fd ps sp/\Binds K fd ps []/\Meth K C m f
structure Ma(P:Program)(w:World)(K:ub)(mg:Str->Option Value)(base:Heap)(CX:CXT)(k:Nat)(x:Str)(C:Addr)(ps:List Str)(sp:Sp):Prop where
 ex:∃f fd,Mk K C f/\FnOk P w K mg base CX k f fd ps sp/\Binds K fd ps []/\mg x=some (.ref C)
section
variable{P:Program}{w:World}{K:ub}{mg:Str->Option Value}{base:Heap}{CX:CXT}{k j:Nat}{x m:Str}{C:Addr}{ps:List Str}{sp sp':Sp}
end
section
variable{X:Cx}{CX:CXT}{k i:Nat}{C:Addr}{ps:List Str}{sp:Sp}{E:XK}{x m n f:Str}{p pos apos cpos np pos' epos hpos tpos:Pos}{e o a value:Expr}{es as:List Expr}{ta te tv to t1 t2:TE}{t:TA}
theorem zc7(F:Ca X.prog X.w X.K X.mg X.base CX k x ps sp)(hr:Room k X.A)(hg:Gl X x)(hx:yw CX X E)(ha:jA X (e::es) t)(hdb:(x == ("__debug__":Str))=false:=by decide)(h1:zw e=false:=by rfl)(h2:es.all (fun e=>!zw e)=true:=by rfl):
  jE X (.Call (.Name x p) (e::es) [] pos) (Zx sp [] E t):=let ⟨_,_,G,b,kp,mg⟩:=F.ex;zc4 G hr hg mg kp b .nil hx ha hdb h1 h2
theorem ZQ{pl:Sem Bool}(he:jE X o ta)(c:Cls X.K C)(F:Me X.prog X.w X.K X.mg X.base CX k C m ps sp)(hr:Room k X.A)(hx:yw CX X E)(ha:jA X (e::es) t)(h1:zw e=false:=by rfl)(h2:es.all (fun e=>!zw e)=true:=by rfl)
  (ht:eval (.Call (.Attribute o m apos) (e::es) [] pos) X.env=(do
   let ov <- eval o X.env
   standAt apos.atName
   let (f,first) <- holding [ov] (getMethod ov m pl)
   callWith pos f first (backTo pos (starEach (e::es) X.env)) (backToKw pos (keywordEach [] X.env))):=by rfl) :
  jE X (.Call (.Attribute o m apos) (e::es) [] pos) (zaZ C m sp [] E ta t):=let ⟨_,_,G,b,mt⟩:=F.ex;⟨Qm he.out c mt G hr b .nil hx ha.out (zC h1) (yn h2) ht⟩
theorem za9(F:Ma X.prog X.w X.K X.mg X.base CX k x C ps sp)(hr:Room (k+1) X.A)(hg:Gl X x)(hx:yw CX X E)(ha:jA X (e::es) t)(hdb:(x == ("__debug__":Str))=false:=by decide)(h1:zw e=false:=by rfl)(h2:es.all (fun e=>!zw e)=true:=by rfl):
  jE X (.Call (.Name x p) (e::es) [] pos) (Xi C sp [] E t):=let ⟨_,_,M,G,b,mg⟩:=F.ex;⟨Qn M G hr hg mg b .nil hx ha.out hdb (zC h1) (yn h2)⟩
theorem yC(he:jE X e ta)(hb:attributeBase e f X.env (eval e X.env)=eval e X.env:=by rfl):jE X (.Attribute e f pos) (tFld X.K ta f):=⟨zbL he.out hb⟩
theorem wB(ha:jE X o ta)(hv:jE X value tv)(hs:swapsWith value (some (.Attribute o f pos')) pos.line X.env=pure false:=by rfl):jS X (.Assign [.Attribute o f pos'] value pos) (sFld X.K ta tv f):=⟨zbM ha.out hv.out hs⟩
end
end L2
namespace L2
open PySem
section
variable{X:Cx}{x:Str}{pos p q p2:Pos}
theorem jA1{e1:Expr}{t1:TE}(h1:jE X e1 t1)(s1:zw e1=false:=by rfl):jA X [e1] (zQ t1 tNil):=(ja_c h1 zE s1)
theorem jA2{e1:Expr}{t1:TE}{e2:Expr}{t2:TE}(h1:jE X e1 t1)(h2:jE X e2 t2)(s1:zw e1=false:=by rfl)(s2:zw e2=false:=by rfl):jA X [e1,e2] (zQ t1 (zQ t2 tNil)):=(ja_c h1 (ja_c h2 zE s2) s1)
theorem jA3{e1:Expr}{t1:TE}{e2:Expr}{t2:TE}{e3:Expr}{t3:TE}(h1:jE X e1 t1)(h2:jE X e2 t2)(h3:jE X e3 t3)(s1:zw e1=false:=by rfl)(s2:zw e2=false:=by rfl)(s3:zw e3=false:=by rfl):jA X [e1,e2,e3] (zQ t1 (zQ t2 (zQ t3 tNil))):=(ja_c h1 (ja_c h2 (ja_c h3 zE s3) s2) s1)
theorem jA4{e1:Expr}{t1:TE}{e2:Expr}{t2:TE}{e3:Expr}{t3:TE}{e4:Expr}{t4:TE}(h1:jE X e1 t1)(h2:jE X e2 t2)(h3:jE X e3 t3)(h4:jE X e4 t4)(s1:zw e1=false:=by rfl)(s2:zw e2=false:=by rfl)(s3:zw e3=false:=by rfl)(s4:zw e4=false:=by rfl):jA X [e1,e2,e3,e4] (zQ t1 (zQ t2 (zQ t3 (zQ t4 tNil)))):=(ja_c h1 (ja_c h2 (ja_c h3 (ja_c h4 zE s4) s3) s2) s1)
theorem jA5{e1:Expr}{t1:TE}{e2:Expr}{t2:TE}{e3:Expr}{t3:TE}{e4:Expr}{t4:TE}{e5:Expr}{t5:TE}(h1:jE X e1 t1)(h2:jE X e2 t2)(h3:jE X e3 t3)(h4:jE X e4 t4)(h5:jE X e5 t5)(s1:zw e1=false:=by rfl)(s2:zw e2=false:=by rfl)(s3:zw e3=false:=by rfl)(s4:zw e4=false:=by rfl)(s5:zw e5=false:=by rfl):jA X [e1,e2,e3,e4,e5] (zQ t1 (zQ t2 (zQ t3 (zQ t4 (zQ t5 tNil))))):=(ja_c h1 (ja_c h2 (ja_c h3 (ja_c h4 (ja_c h5 zE s5) s4) s3) s2) s1)
theorem jA6{e1:Expr}{t1:TE}{e2:Expr}{t2:TE}{e3:Expr}{t3:TE}{e4:Expr}{t4:TE}{e5:Expr}{t5:TE}{e6:Expr}{t6:TE}(h1:jE X e1 t1)(h2:jE X e2 t2)(h3:jE X e3 t3)(h4:jE X e4 t4)(h5:jE X e5 t5)(h6:jE X e6 t6)(s1:zw e1=false:=by rfl)(s2:zw e2=false:=by rfl)(s3:zw e3=false:=by rfl)(s4:zw e4=false:=by rfl)(s5:zw e5=false:=by rfl)(s6:zw e6=false:=by rfl):jA X [e1,e2,e3,e4,e5,e6] (zQ t1 (zQ t2 (zQ t3 (zQ t4 (zQ t5 (zQ t6 tNil)))))):=(ja_c h1 (ja_c h2 (ja_c h3 (ja_c h4 (ja_c h5 (ja_c h6 zE s6) s5) s4) s3) s2) s1)
theorem jA7{e1:Expr}{t1:TE}{e2:Expr}{t2:TE}{e3:Expr}{t3:TE}{e4:Expr}{t4:TE}{e5:Expr}{t5:TE}{e6:Expr}{t6:TE}{e7:Expr}{t7:TE}(h1:jE X e1 t1)(h2:jE X e2 t2)(h3:jE X e3 t3)(h4:jE X e4 t4)(h5:jE X e5 t5)(h6:jE X e6 t6)(h7:jE X e7 t7)(s1:zw e1=false:=by rfl)(s2:zw e2=false:=by rfl)(s3:zw e3=false:=by rfl)(s4:zw e4=false:=by rfl)(s5:zw e5=false:=by rfl)(s6:zw e6=false:=by rfl)(s7:zw e7=false:=by rfl):jA X [e1,e2,e3,e4,e5,e6,e7] (zQ t1 (zQ t2 (zQ t3 (zQ t4 (zQ t5 (zQ t6 (zQ t7 tNil))))))):=(ja_c h1 (ja_c h2 (ja_c h3 (ja_c h4 (ja_c h5 (ja_c h6 (ja_c h7 zE s7) s6) s5) s4) s3) s2) s1)
theorem cA{k:Nat}{ps:List Str}{sp:Sp}{e:Expr}{es:List Expr}{t:TA}(F:Ca X.prog X.w X.K X.mg X.base CX0 k x ps sp)(hr:Room k X.A)(ha:jA X (e::es) t)(hg:Gl X x:=by rfl)(hdb:(x == ("__debug__":Str))=false:=by decide)(h1:zw e=false:=by rfl)(h2:es.all (fun e=>!zw e)=true:=by rfl):jE X (.Call (.Name x p) (e::es) [] pos) (Zx sp [] E0 t):=zc7 F hr hg xp ha hdb h1 h2
theorem xX{r:R2}{a b:Expr}{ta tb:TE}(hr:jIx X r)(ha:jE X a ta)(hb:jE X b tb)(hs:jV b:=by exact fun _ _=>rfl):jE X (.Subscript a b pos) (tOp r ta tb):=zP hr ha hb hs
theorem xT(i:Nat){n j}(hN:X.N[i]?=some x:=by rfl)(hv:Vis X.env.scope x:=by first|exact Or.inl rfl|exact Or.inr (Or.inl rfl)|exact Or.inr (Or.inr rfl))(hd:(x == ("__debug__":Str))=false:=by decide)(hcd:(x == ("__classdict__":Str))=false:=by decide):jE X (.Subscript (.Name x p) (.Constant (.int n) j q) pos) (tOp (rIxT X.K) (tVar i) (tC (.int n))):=zP zZ (jv i hN hv hd hcd) zj (fun _ _=>rfl)
theorem xL(i:Nat){n j}(hN:X.N[i]?=some x:=by rfl)(hv:Vis X.env.scope x:=by first|exact Or.inl rfl|exact Or.inr (Or.inl rfl)|exact Or.inr (Or.inr rfl))(hd:(x == ("__debug__":Str))=false:=by decide)(hcd:(x == ("__classdict__":Str))=false:=by decide):jE X (.Subscript (.Name x p) (.Constant (.int n) j q) pos) (tOp (rIxL X.K) (tVar i) (tC (.int n))):=zP zI (jv i hN hv hd hcd) zj (fun _ _=>rfl)
theorem sE{e:Expr}{te:TE}(i:Nat)(hN:X.N.Nodup)(he:jE X e te)(hi:X.N[i]?=some x:=by rfl)(hx:Loc X.env.scope x:=by first|exact Or.inl rfl|exact Or.inr rfl)(hs:swapsWith e (some (.Name x q)) pos.line X.env=pure false:=by rfl)(hf:X.fn x=true\/X.env.scope.names.lookup x=some .local:=by first|exact .inl rfl|exact .inr rfl|assumption):jS X (.Assign [.Name x q] e pos) (tAsg te (xl i)):=zbZ hN hi hx he hs hf
theorem gN(i:Nat)(hN:X.N.Nodup)(hi:X.N[i]?=some x:=by rfl)(hx:Loc X.env.scope x:=by first|exact Or.inl rfl|exact Or.inr rfl)(hf:X.fn x=true\/X.env.scope.names.lookup x=some .local:=by first|exact .inl rfl|exact .inr rfl|assumption):jG X (.Name x pos) (xl i):=QA hN hi hx hf
theorem tN{op:CmpOp}{r:R2}{a c:Expr}{ta tb:TE}(ho:jOp X (compareOp op) r)(ha:jE X a ta)(hb:jE X c tb)(hm:behindInMarks op c=false:=by exact wy _):jT X (.Compare a [op] [c] pos) (Zw (tOp r ta tb)):=yk ho ha hb hm
theorem jL{e:Expr}{te:TE}(hm:X.mg "len"=none)(h:jE X e te)(hg:Gl X "len":=by rfl)(h1:zw e=false:=by rfl):jE X (.Call (.Name "len" p) [e] [] pos) (tCB (fun xs H Q=>∃p ys,xs=[.ref p]/\(SqL X.K H p ys\/SqT X.K H p ys)/\Q (.int ys.length) H) (zQ te tNil)):=yJ vw hg hm PySem.boot_len (ja_c h zE h1) (by decide) (by decide) h1 rfl
theorem aB{p q:Prop}[Decidable p](h:¬ p:=by decide):p->q:=fun c=>absurd c h
end
end L2
namespace L2
open PySem PySem.Spec PySem.Calls PyProof.Rows
section
variable{P:Program}{w:World}{A:Around}{E:Value->Shared->Prop}{s:Shared}{K:ub}
end
section
variable{X:Cx}{e C:Addr}{oe:Obj}{ex:Expr}{te:TE}{name:Str}{pos:Pos}{f:Addr}
end
section
variable{X:Cx}{Ch:Addr}{x n:Str}{i k:Nat}{np hpos tpos:Pos}{b0:Stmt}{suite:List Stmt}{th:Addr->Obj->TS}{ps:List Str}{sp:Sp}{y:Str}{p cpos epos:Pos}{a:Expr}{as:List Expr}{t:TA}
end
end L2
namespace L2
open PySem PySem.Spec PyProof.Rows
section
variable{P:Program}{w:World}{A:Around}{E:Value->Shared->Prop}
end
section
variable{X:Cx}{pos:Pos}
end
end L2
namespace L2
open PySem
theorem zF:sizeLine=16777216:=by decide
def FnIn(K:ub)(x qual:Str)(st:Stmt)(f:Addr):Prop:=∃(oc:Value)(od:Option Addr)(kV doc pm:Value)(an:Option Addr)(cdv ct:Value)(osl:Array (Option Value)),K.lookup f=some ⟨oc,od,.func (Ui x qual (zX st) (zL st) (zo st) .none kV doc pm an cdv ct),osl⟩/\UM K cdv qual=true/\u0 K (.ref f)=true
theorem FnIn.fn{K:ub}{x qual:Str}{st:Stmt}{f:Addr}(h:FnIn K x qual st f):∃fd,Fun K x qual st f fd/\u0 K (.ref f)=true:=by
 obtain⟨_,_,_,_,_,_,_,_,_,l,c,k⟩:=h
 exact⟨_,W9 l c k,k⟩
def DfIn(K:ub)(x:Str)(st:Stmt):Prop:=∃f,Up K mainGlobals x=some (some (.ref f))/\FnIn K x x st f
def MeIn(K:ub)(C:Addr)(x qual:Str)(st:Stmt):Prop:=∃f,u9 K (.ref C) x=some (some (.ref f))/\PySem.W.isFn K (.ref f)=true/\FnIn K x qual st f
theorem MeIn.me{P:Program}{w:World}{K:ub}{mg:Str->Option Value}{base:Heap}{CX:CXT}{k:Nat}{C:Addr}{x qual:Str}{st:Stmt}{ps:List Str}{sp:Sp}(h:MeIn K C x qual st)(hb:∀(kV doc pm:Value)(an:Option Addr)(cdv ct:Value)(us:List Value),us.length=ps.length->bindArgs (Ui x qual (zX st) (zL st) (zo st) .none kV doc pm an cdv ct) ⟨us,[]⟩=pure (ps.zip us))
  (ok:∀f fd,Fun K x qual st f fd->FnOk P w K mg base CX k f fd ps sp):Me P w K mg base CX k C x ps sp:=by
 obtain⟨f,a,n,g⟩:=h
 obtain⟨fd,F,kp⟩:=g.fn
 exact⟨f,fd,ok f fd F,F.binds hb,a,n,kp⟩
theorem MeIn.ma{P:Program}{w:World}{K:ub}{mg:Str->Option Value}{base:Heap}{CX:CXT}{k:Nat}{C:Addr}{x qual:Str}{st:Stmt}{ps:List Str}{sp:Sp}(h:MeIn K C "__init__" qual st)(hb:∀(kV doc pm:Value)(an:Option Addr)(cdv ct:Value)(us:List Value),us.length=ps.length->bindArgs (Ui "__init__" qual (zX st) (zL st) (zo st) .none kV doc pm an cdv ct) ⟨us,[]⟩=pure (ps.zip us))
  (mk:PySem.W.makesIn K C=true) (kp:u0 K (.ref C)=true) (hm:mg x=some (.ref C)) (ok:∀f fd,Fun K "__init__" qual st f fd->FnOk P w K mg base CX k f fd ps sp):Ma P w K mg base CX k x C ps sp:=by
 obtain⟨f,a,n,g⟩:=h
 obtain⟨fd,F,_⟩:=g.fn
 exact⟨f,fd,⟨mk,a,n,kp⟩,ok f fd F,F.binds hb,hm⟩
theorem DfIn.ca{P:Program}{w:World}{K:ub}{mg:Str->Option Value}{base h:Heap}{CX:CXT}{k:Nat}{x:Str}{st:Stmt}{ps:List Str}{sp:Sp}(X:K.In h)(G:h.Ns mainGlobals mg)(d:DfIn K x st)(hb:∀(kV doc pm:Value)(an:Option Addr)(cdv ct:Value)(us:List Value),us.length=ps.length->bindArgs (Ui x x (zX st) (zL st) (zo st) .none kV doc pm an cdv ct) ⟨us,[]⟩=pure (ps.zip us))
  (ok:∀f fd,Fun K x x st f fd->FnOk P w K mg base CX k f fd ps sp):Ca P w K mg base CX k x ps sp:=by
 obtain⟨f,a,g⟩:=d
 obtain⟨fd,F,kp⟩:=g.fn
 exact⟨f,fd,ok f fd F,F.binds hb,kp,tY X G a⟩
theorem DfIn.mk{K:ub}{x:Str}{st:Stmt}{f:Addr}{oc:Value}{od:Option Addr}{kV doc pm:Value}{an:Option Addr}{cdv ct:Value}{osl:Array (Option Value)}(a:Up K mainGlobals x=some (some (.ref f)))(l:K.lookup f=some ⟨oc,od,.func (Ui x x (zX st) (zL st) (zo st) .none kV doc pm an cdv ct),osl⟩)(c:UM K cdv x=true)(k:u0 K (.ref f)=true):DfIn K x st:=⟨f,a,oc,od,kV,doc,pm,an,cdv,ct,osl,l,c,k⟩
theorem MeIn.mk{K:ub}{C:Addr}{x qual:Str}{st:Stmt}{f:Addr}{oc:Value}{od:Option Addr}{kV doc pm:Value}{an:Option Addr}{cdv ct:Value}{osl:Array (Option Value)}(a:u9 K (.ref C) x=some (some (.ref f)))(l:K.lookup f=some ⟨oc,od,.func (Ui x qual (zX st) (zL st) (zo st) .none kV doc pm an cdv ct),osl⟩)(c:UM K cdv qual=true)(k:u0 K (.ref f)=true)(n:PySem.W.isFn K (.ref f)=true):MeIn K C x qual st:=⟨f,a,n,oc,od,kV,doc,pm,an,cdv,ct,osl,l,c,k⟩
structure OwnIn(K:ub)(x:Str)(C:Addr):Prop where
 n:Up K mainGlobals x=some (some (.ref C))
 pg:tQ K C Str.empty=true
 hd:Tc K C=true
 po:PySem.W.plainOver K C=true
 sa:u9 K (.ref C) "__setattr__"=some (some (.builtin "object.__setattr__"))
 mks:PySem.W.makesIn K C=true
 kp:u0 K (.ref C)=true
theorem OwnIn.cls{K:ub}{x:Str}{C:Addr}(o:OwnIn K x C):Cls K C:=⟨o.pg,o.hd,o.po,o.sa⟩
theorem usS{n:Nat}{p:List Value->Prop}(h:∀a us,us.length=n->p (a::us)):∀us:List Value,us.length=n+1->p us:=fun us=>by
 cases us with
 |nil=>exact fun e=>by cases e
 |cons a r=>exact fun e=>h a r (Nat.succ.inj e)
theorem us1{p:List Value->Prop}(h:∀a,p [a]):∀us:List Value,us.length=1->p us:=usS fun a us e=>by rw[Ux.mp e];exact h a
theorem us2{p:List Value->Prop}(h:∀a b,p [a,b]):∀us:List Value,us.length=2->p us:=usS fun a=>us1 (p:=fun l=>p (a::l)) (h a)
theorem us3{p:List Value->Prop}(h:∀a b c,p [a,b,c]):∀us:List Value,us.length=3->p us:=usS fun a=>us2 (p:=fun l=>p (a::l)) (h a)
theorem us4{p:List Value->Prop}(h:∀a b c d,p [a,b,c,d]):∀us:List Value,us.length=4->p us:=usS fun a=>us3 (p:=fun l=>p (a::l)) (h a)
theorem us5{p:List Value->Prop}(h:∀a b c d e,p [a,b,c,d,e]):∀us:List Value,us.length=5->p us:=usS fun a=>us4 (p:=fun l=>p (a::l)) (h a)
theorem us6{p:List Value->Prop}(h:∀a b c d e f,p [a,b,c,d,e,f]):∀us:List Value,us.length=6->p us:=usS fun a=>us5 (p:=fun l=>p (a::l)) (h a)
theorem us7{p:List Value->Prop}(h:∀a b c d e f g,p [a,b,c,d,e,f,g]):∀us:List Value,us.length=7->p us:=usS fun a=>us6 (p:=fun l=>p (a::l)) (h a)
theorem cutD{t:TS}{D:Ends}{σ:St}{H:Hp}{P:St->Hp->Prop}(h:∀D':Ends,(∀σ H,P σ H->D'.nx σ H)->t D' σ H)(p:∀σ H,P σ H->D.nx σ H):t D σ H:=h D p
theorem cutR{t:TS}{D:Ends}{σ:St}{H:Hp}{P:St->Hp->Prop}(h:∀D':Ends,D'.rt=D.rt->(∀σ H,P σ H->D'.nx σ H)->t D' σ H)(p:∀σ H,P σ H->D.nx σ H):t D σ H:=h D rfl p
section
variable{a b c d e u:TS}{D:Ends}{σ:List (Option V)}{H:Hp}
theorem cut1(h:∀v:TS,u=v->(tSeq a v:TS) D σ H):(tSeq a u:TS) D σ H:=h u rfl
theorem cut2(h:∀v:TS,u=v->(tSeq a (tSeq b v):TS) D σ H):(tSeq a (tSeq b u):TS) D σ H:=h u rfl
theorem cut3(h:∀v:TS,u=v->(tSeq a (tSeq b (tSeq c v)):TS) D σ H):(tSeq a (tSeq b (tSeq c u)):TS) D σ H:=h u rfl
theorem cut4(h:∀v:TS,u=v->(tSeq a (tSeq b (tSeq c (tSeq d v))):TS) D σ H):(tSeq a (tSeq b (tSeq c (tSeq d u))):TS) D σ H:=h u rfl
theorem cut5(h:∀v:TS,u=v->(tSeq a (tSeq b (tSeq c (tSeq d (tSeq e v)))):TS) D σ H):(tSeq a (tSeq b (tSeq c (tSeq d (tSeq e u)))):TS) D σ H:=h u rfl
theorem ixT{K:ub}{Q:VK}{p:Addr}{xs:List V}{i:Int}{v:V}(h:H p=some (.tup xs))(a:atI xs i=some v)(q:Q v H):tC (.int i) σ H fun y H2=>rIxT K (.ref p) y H2 Q:=⟨p,xs,i,v,rfl,rfl,SqT.of h,a,q⟩
theorem ixL{K:ub}{Q:VK}{p:Addr}{xs:List V}{i:Int}{v:V}(h:H p=some (.lst xs))(a:atI xs i=some v)(q:Q v H):tC (.int i) σ H fun y H2=>rIxL K (.ref p) y H2 Q:=⟨p,xs,i,v,rfl,rfl,SqL.of h,a,q⟩
theorem nxtC{E:Ends}(h:E.nx σ H):wQ E σ H:=h
end
end L2
namespace L2
open PySem PySem.Spec PyProof.Rows
def Itv(K:ub)(a:Addr)(n:Nat):It :=
 ⟨fun i H=>i < n/\∃xs x,SqL K H a xs/\xs[n-1-i]?=some x,fun i H x H'=>H'=H/\∀xs,SqL K H a xs->xs[n-1-i]?=some x,fun i _=>n<=i⟩
theorem Vt{P:Program}{w:World}{K:ub}{tg:Expr}(a it:Addr)(n:Nat):Turn P w K tg (Itv K a n) [it] it (fun i h=>i<=n/\h.IsRevIter it a ((n:Int)-1-(i:Nat))) where
 mem:=by simp
 obj:=fun i h st b hb=>by
  have e:b=it:=by simpa using hb
  subst e
  obtain⟨_,o,e,c,d⟩:=st
  exact⟨o,e,fun v z=>by rw[d]at z;cases z⟩
 keep:=fun i h h' st k=>⟨st.1,st.2.at fun o e=>k it (by simp) o e⟩
 item:=by
  intro X hP hw hK hc i pins s σ H E I hf st hg
  subst hP hw hK
  obtain⟨hi,xs,x,hq,hx⟩:=hg
  obtain⟨its,rv,p,hz⟩:=I.list hq
  obtain⟨u,hu,ru⟩:=rv.get hx
  obtain⟨f0,f1,f2,f3,f4,f5⟩:=hf it (by simp)
  obtain⟨_,st2⟩:=st
  have e1:(n:Int)-1-(i:Nat)=((n-1-i:Nat):Int):=by lia
  rw[e1]at st2
  refine wpAny_pyNext_rev_item st2 p.isList (x:=u) (by simpa using hu) fun h' st' sb=>?_
  have I1:Inv X pins σ H { s with heap:=h' }:=I.turned (t':=s.toks) (fun b o hb e=>(sb.2 b hb).trans e) f0 f1 f3 f4 f5
  obtain⟨o,e,c,d⟩:=id st'
  refine⟨u,rfl,Xd (s:={ s with heap:=h' }) e c d (by decide) ⟨x,H,I1,ru,⟨rfl,fun ys hy=>by rw[I.list_inj hy hq];exact hx⟩,⟨hi,?_⟩,fun b hb=>(hf b hb).1⟩⟩
  have e2:(n:Int)-1-((i+1:Nat):Int)=((n-1-i:Nat):Int)-1:=by lia
  rw[e2]
  exact st'
 done:=by
  intro X hP hw hK hc i pins s σ H E I hf st hg
  subst hP hw hK
  obtain⟨f0,f1,f2,f3,f4,f5⟩:=hf it (by simp)
  obtain⟨h1,st2⟩:=st
  have h2:n<=i:=hg
  have e1:(n:Int)-1-(i:Nat)=-1:=by lia
  rw[e1]at st2
  exact wpAny_pyNext_rev_end (I.ok.hd hc) st2 fun h' eb=>⟨rfl,I.turned (t':=s.toks) (fun b o hb e=>eb b o hb e) f0 f1 f3 f4 f5⟩
 self:=fun _ _ _ _ _ st h=>wpAny_pyIter_revIter st.2 h
section
variable{X:Cx}{tg:Expr}
def iRev(K:ub)(ta:TA):TI:=fun σ H R=>ta σ H fun vs H1=>∃a xs,vs=[.ref a]/\SqL K H1 a xs/\R (Itv K a xs.length) H1
theorem zb3{a:Expr}{ta:TA}{p pos:Pos}(hg:Gl X "reversed")(hm:X.mg "reversed"=none)(ha:PA X [a] ta)(hs:starEach [a] X.env=[(false,eval a X.env)]:=by rfl):PI X tg (.Call (.Name "reversed" p) [a] [] pos) (iRev X.K ta):=by
 intro pins s σ H R I h
 refine Call_ (yU I hg hm boot_reversed (Ue (thn (ha pos pins s σ H _ I h) fun us s1 ⟨vs,H1,I1,r1,q1⟩=>?_) hs rfl))
 obtain⟨l,xs,e,hq,q⟩:=q1
 subst e
 obtain⟨u,rfl,rx⟩:=vo r1
 cases rx
 obtain⟨its,rv,pl,hz⟩:=I1.list hq
 have hl:=rv.length
 refine call_reversed_list pl.isList ?_
 have hr:(s1.heap.push (revObj l ((its.toArray.size:Int)-1))).IsRevIter s1.heap.objs.size l ((its.toArray.size:Int)-1):=⟨_,uA _ rfl,rfl,rfl⟩
 refine wpAny_pyIter_revIter (s:={ s1 with heap:=s1.heap.push (revObj l ((its.toArray.size:Int)-1)) }) hr ?_
 refine⟨s1.heap.objs.size,[s1.heap.objs.size],_,_,H1,rfl,I1.kept (t':=s1.toks) fun b o e=>ug _ e,Vt l _ xs.length,⟨uW _,?_⟩,fun b hb=>?_,q⟩
 ·have e:(xs.length:Int)-1-((0:Nat):Int)=(its.toArray.size:Int)-1:=by simp[hl]
  rw[e]
  exact hr
 have e:b=s1.heap.objs.size:=by simpa using hb
 subst e
 exact I1.fpOk (ud _) (I1.hok.fresh (ud _))
theorem zb4{a:Expr}{t:TA}{p pos:Pos}(hg:Gl X "reversed")(hm:X.mg "reversed"=none)(ha:jA X [a] t)(h:zw a=false:=by rfl):jI X tg (.Call (.Name "reversed" p) [a] [] pos) (iRev X.K t):=⟨zb3 hg hm ha.out (zC h)⟩
end
theorem QI{K:ub}{a:Addr}{xs:List V}{g:TG}{tb:TS}{D:Ends}{σ:St}{H:Hp}(Pv:Nat->St->Hp->Prop)(h0:Pv 0 σ H)(hl:∀i σ H,i<=xs.length->Pv i σ H->SqL K H a xs)
  (hs:∀i x σ H,xs.reverse[i]?=some x->Pv i σ H->g x σ H fun σ2 H2=>tb { D with nx:=Pv (i+1),ct:=Pv (i+1),bk:=D.nx } σ2 H2) (hd:∀σ H,Pv xs.length σ H->D.nx σ H) :
  ∃W:Nat->Nat->St->Hp->Prop,(∃m,W 0 m σ H)/\∀i m σ H,W i m σ H ->
   ((Itv K a xs.length).stop i H/\D.nx σ H)\/((Itv K a xs.length).go i H/\∃N:St->Hp->Prop,(∀σ' H',N σ' H'->∃m',m' < m/\W (i+1) m' σ' H')/\∀x H',(Itv K a xs.length).yld i H x H'->g x σ H' fun σ2 H2=>tb { D with nx:=N,ct:=N,bk:=D.nx } σ2 H2):=by
 refine⟨fun i m σ H=>m=xs.length-i/\i<=xs.length/\Pv i σ H,⟨xs.length,by simp,uW _,h0⟩,?_⟩
 rintro i m σ H ⟨rfl,hi,p⟩
 have q:=hl i σ H hi p
 by_cases hlt:i < xs.length
 ·refine .inr ⟨⟨hlt,xs,xs[xs.length-1-i],q,by rw[ui]⟩,Pv (i+1),fun σ' H' p'=>⟨xs.length-(i+1),by lia,rfl,hlt,p'⟩,fun x H' y=>?_⟩
  obtain⟨e,y⟩:=y
  subst e
  refine hs i x σ _ ?_ p
  rw[List.getElem?_reverse hlt]
  exact y xs q
 ·have e:i=xs.length:=by lia
  subst e
  exact .inl ⟨ud _,hd σ H p⟩
section
variable{g:TG}{tt:TT}{te:TE}{Q:VK}{σ:St}{H:Hp}
theorem Vu{K:ub}{a:Addr}{xs:List V}(Pv:Nat->St->List V->Hp->Prop)(h0:Pv 0 σ [] H)(hl:∀i τ ys H,i<=xs.length->Pv i τ ys H->SqT K H a xs)
  (hs:∀i x τ ys H,xs[i]?=some x->Pv i τ ys H->g x τ H fun τ2 H2=>tt τ2 H2 fun b H3=>if b=true then te τ2 H3 fun y H4=>ys.length < sizeLine/\Pv (i+1) τ2 (ys++[y]) H4 else Pv (i+1) τ2 ys H3)
  (hd:∀τ ys H,Pv xs.length τ ys H->∀p,H p=none->Q (.ref p) (upd H p (.lst ys))):∃W,(∃m,W 0 m σ [] H)/\lcBy (Itt K a) g tt te Q W:=by
 refine⟨fun i m τ ys H=>m=xs.length-i/\i<=xs.length/\Pv i τ ys H,⟨xs.length,by simp,uW _,h0⟩,?_⟩
 rintro i m τ ys H ⟨rfl,hi,p⟩
 have q:=hl i τ ys H hi p
 by_cases hlt:i < xs.length
 ·refine .inr ⟨⟨xs,xs[i],q,by simp[hlt]⟩,Pv (i+1),fun τ' ys' H' p'=>⟨xs.length-(i+1),by lia,rfl,hlt,p'⟩,fun x H' y=>?_⟩
  obtain⟨e,y⟩:=y
  subst e
  exact hs i x τ ys _ (y xs q) p
 ·have e:i=xs.length:=by lia
  subst e
  exact .inl ⟨⟨xs,q,ud _⟩,hd τ ys H p⟩
end
theorem old{H:Hp}{p q:Addr}{o u:HO}(hp:H p=none)(h:H q=some u):upd H p o q=some u:=by rw[zi (zk h hp)];exact h
theorem Same.new{H H1:Hp}{p:Addr}{o:HO}(s:Same H H1)(hp:H1 p=none):Same H (upd H1 p o):=fun b u q=>old hp (s b u q)
theorem Same.put{H H1:Hp}{p:Addr}{o:HO}(s:Same H H1)(hp:H p=none):Same H (upd H1 p o):=fun b u q=>by rw[zi (zk q hp)];exact s b u q
theorem ZR{x:V}(h:yh x=true):eqV x x=true:=by
 cases x<;>first
  |rfl
  | (show((_:Bool) == _)=true;simp)
  | (show((_:Int) == _)=true;simp)
  | (show((_:Str) == _)=true;simp)
  | (cases h)
section
variable{X:Cx}
end
section
variable(P:Program)(w:World)
end
section
variable{P:Program}{w:World}{H H':Hp}{h h':Heap}{a:Addr}{o:HO}
end
section
variable{P:Program}{w:World}{H:Hp}{h h':Heap}{x e:Addr}{o':HO}
end
section
variable{fs fs' ex ex':List Addr}{H H1 H2:Hp}{h h1 h2 h':Heap}{a x e:Addr}{o:HO}
end
section
variable{X:Cx}{pins:List (Addr×Obj)}{σ:List (Option V)}{H H':Hp}{s:Shared}{h':Heap}
end
section
variable{X:Cx}
variable{a b:Expr}{ta tb:TE}{pos:Pos}
variable{tA tB':TT}{rest:List Expr}
end
section
variable{X:Cx}{pins:List (Addr×Obj)}{σ:St}{H:Hp}{s:Shared}{a:Addr}{xs ys:List V}
end
section
variable{X:Cx}{pins:List (Addr×Obj)}{σ:St}{H:Hp}{s:Shared}{E:Value->Shared->Prop}
end
section
variable{X:Cx}{st:Stmt}{rest:List Stmt}{t u:TS}{e:Expr}{te:TE}{pos:Pos}
end
section
variable{X:Cx}{pos:Pos}
end
section
variable{X:Cx}{tg:Expr}
end
section
variable{X:Cx}{a b c:Expr}{ta tb tc:TE}{pos:Pos}
end
section
variable{prog:Program}{w:World}{A:Around}{E:Value->Shared->Prop}{s:Shared}{K:ub}{x dx C f:Addr}{mA:Str->Option Value}{name:Str}{v:Value}
end
section
variable{P:Program}{w:World}{H H':Hp}{h h':Heap}{a C dx:Addr}{fs fs':List (Str×V)}
end
section
variable{X:Cx}{pins:List (Addr×Obj)}{σ:St}{H:Hp}{s:Shared}{a C dx:Addr}{fs:List (Str×V)}{f:Str}{v:V}{A:Around}{E:Value->Shared->Prop}
end
section
variable{X:Cx}{o e value:Expr}{f:Str}{pos pos' tpos:Pos}{ta tv:TE}
end
section
variable{X:Cx}{pins:List (Addr×Obj)}{σ:St}{H:Hp}{s:Shared}{A:Around}{E:Value->Shared->Prop}{Q:Value->Shared->Prop}{c:Value}{b:Bool}
end
section
variable{X:Cx}{e:Expr}{es:List Expr}{te:TE}{t:TA}{pos:Pos}
end
section
variable{X:Cx}{pins:List (Addr×Obj)}{σ:St}{H:Hp}{s s':Shared}
end
section
variable{X:Cx}{CX:CXT}{k:Nat}{f C:Addr}{fd:FuncData}{ps:List Str}{sp:Sp}{dvs:List V}{ds:List Value}{E:XK}{x m:Str}{p pos apos:Pos}{e o:Expr}{es:List Expr}{ta:TE}{t:TA}
end
section
variable{X:Cx}{CX:CXT}{k:Nat}{f C:Addr}{fd:FuncData}{ps ks:List Str}{sp:Sp}{E:XK}{x m:Str}{p pos apos kpos:Pos}{e o:Expr}{es:List Expr}{kws:List Keyword}{te ta:TE}{t tk:TA}{nm:Option Str}
variable{g:List Value->List Value->List Value}{gV:List V->List V->List V}
end
section
variable{X:Cx}{x:Str}{p pos:Pos}{e:Expr}{es:List Expr}{t:TA}{id T:String}{r:List V->Hp->VK->Prop}
end
section
variable{κ:Type}[DecidableEq κ]
def valV(kvs:List (κ×V))(k:κ):Option V:=(kvs.find? fun kv=>decide (kv.1=k)).map (·.2)
def putK(kvs:List (κ×V))(k:κ)(v:V):List (κ×V) :=
 if(kvs.any fun kv=>decide (kv.1=k))=true then kvs.map (fun kv=>if kv.1=k then(kv.1,v)else kv)else kvs++[(k,v)]
theorem ye{p:κ×V}{r:List (κ×V)}{k:κ}(e:p.1=k):valV (p::r) k=some p.2:=by simp[valV,tK,e]
theorem yf{p:κ×V}{r:List (κ×V)}{k:κ}(e:¬ p.1=k):valV (p::r) k=valV r k:=by simp[valV,tK,e]
theorem xq(k:κ):∀kvs:List (κ×V),(kvs.any fun kv=>decide (kv.1=k))=(valV kvs k).isSome
 |[]=>rfl
 |p::r=>by
  rw[tF]
  by_cases e:p.1=k
  ·simp only[ye e,decide_eq_true e,Bool.true_or,Option.isSome_some]
  ·rw[yf e,decide_eq_false e,tZ];exact xq k r
theorem ZT(k j:κ)(y:V):∀kvs:List (κ×V),valV (kvs.map fun kv=>if kv.1=k then(kv.1,y)else kv) j=(valV kvs j).map fun x=>if j=k then y else x
 |[]=>rfl
 |p::r=>by
  have ih:=ZT k j y r
  rw[uH]
  by_cases h:p.1=k
  ·rw[if_pos h]
   by_cases e:p.1=j
   ·rw[ye (p:=(p.1,y)) e,ye e,U9,if_pos (e.symm.trans h)]
   ·rw[yf (p:=(p.1,y)) e,yf e,ih]
  ·rw[if_neg h]
   by_cases e:p.1=j
   ·rw[ye (p:=p) e,ye e,U9,if_neg (fun z=>h (e.trans z))]
   ·rw[yf (p:=p) e,yf e,ih]
theorem jq(k j:κ)(y:V):∀kvs:List (κ×V),valV kvs k=none->valV (kvs++[(k,y)]) j=if j=k then some y else valV kvs j
 |[],_=>by
  by_cases e:k=j
  ·rw[if_pos e.symm];exact ye (p:=(k,y)) e
  ·rw[if_neg (fun z=>e z.symm)];exact yf (p:=(k,y)) e
 |p::r,hn=>by
  rw[List.cons_append]
  have hk:¬ p.1=k:=fun z=>by rw[ye z]at hn;cases hn
  rw[yf hk]at hn
  have ih:=jq k j y r hn
  by_cases e:p.1=j
  ·rw[ye e,ye e,if_neg (fun z=>hk (e.trans z))]
  ·rw[yf e,yf e,ih]
theorem y0(kvs:List (κ×V))(k j:κ)(y:V):valV (putK kvs k y) j=if j=k then some y else valV kvs j:=by
 unfold putK
 by_cases a:(kvs.any fun kv=>decide (kv.1=k))=true
 ·rw[if_pos a,ZT]
  rw[xq]at a
  by_cases e:j=k
  ·obtain⟨x,hx⟩:=tX.mp a
   rw[if_pos e,e,hx,U9,if_pos rfl]
  ·rw[if_neg e]
   cases valV kvs j with
   |none=>rfl
   |some x=>rw[U9,if_neg e]
 ·rw[if_neg a]
  refine jq k j y kvs ?_
  rw[xq]at a
  cases q:valV kvs k with
  |none=>rfl
  |some x=>rw[q]at a;exact(a rfl).elim
theorem yb(kvs:List (κ×V))(k:κ)(v:V):(putK kvs k v).length<=kvs.length+1:=by
 unfold putK
 split
 ·rw[ua];lia
 ·rw[uf,ul,List.length_nil];lia
theorem RelO.isSome_eq{o:Option V}{u:Option Value}(r:RelO o u):o.isSome=u.isSome:=by
 cases o with
 |none=>cases u with
  |none=>rfl
  |some _=>exact(show False from r).elim
 |some _=>cases u with
  |none=>exact(show False from r).elim
  |some _=>rfl
theorem RelO.getD{o:Option V}{u:Option Value}{d:V}{d':Value}(r:RelO o u)(rd:RelV d d'):RelV (o.getD d) (u.getD d'):=by
 cases o with
 |none=>cases u with
  |none=>exact rd
  |some _=>exact(show False from r).elim
 |some _=>cases u with
  |none=>exact(show False from r).elim
  |some _=>exact r
theorem KV.val{kvs:List (κ×V)}{vs:List (κ×Value)}(r:KV kvs vs)(k:κ):RelO (valV kvs k) (valueAt vs k):=by
 unfold KV at r
 induction r with
 |nil=>exact True.intro
 |@cons p q ps qs h t ih =>
  obtain⟨h1,h2⟩:=h
  by_cases e:p.1=k
  ·have e':q.1=k:=h1.symm.trans e
   have b:valueAt (q::qs) k=some q.2:=by simp[valueAt,tK,e']
   rw[ye e,b];exact h2
  ·have e':¬ q.1=k:=fun z=>e (h1.trans z)
   have b:valueAt (q::qs) k=valueAt qs k:=by simp[valueAt,tK,e']
   rw[yf e,b];exact ih
theorem KV.any{kvs:List (κ×V)}{vs:List (κ×Value)}(r:KV kvs vs)(k:κ):(kvs.any fun kv=>decide (kv.1=k))=vs.any fun kv=>decide (kv.1=k):=by
 unfold KV at r
 induction r with
 |nil=>rfl
 |cons h t ih=>rw[tF,tF,ih,h.1]
theorem KV.repl{kvs:List (κ×V)}{vs:List (κ×Value)}(r:KV kvs vs)(k:κ){y:V}{u:Value}(ry:RelV y u):
  KV (kvs.map fun kv=>if kv.1=k then(kv.1,y)else kv) (vs.map fun kv=>if kv.1=k then(kv.1,u)else kv):=by
 unfold KV at r ⊢
 induction r with
 |nil=>exact .nil
 |@cons p q ps qs h t ih =>
  rw[uH,uH]
  refine .cons ?_ ih
  obtain⟨h1,h2⟩:=h
  by_cases e:p.1=k
  ·rw[if_pos e,if_pos (h1.symm.trans e)];exact⟨h1,ry⟩
  ·rw[if_neg e,if_neg (fun z=>e (h1.trans z))];exact⟨h1,h2⟩
theorem KV.put{kvs:List (κ×V)}{vs:List (κ×Value)}(r:KV kvs vs)(k:κ){y:V}{u:Value}(ry:RelV y u):KV (putK kvs k y) (stored vs k u):=by
 unfold putK stored
 rw[r.any k]
 by_cases e:(vs.any fun kv=>decide (kv.1=k))=true
 ·rw[if_pos e,if_pos e];exact r.repl k ry
 ·rw[if_neg e,if_neg e];exact Paired.snoc r ⟨rfl,ry⟩
theorem KV.length{kvs:List (κ×V)}{vs:List (κ×Value)}(r:KV kvs vs):kvs.length=vs.length:=Paired.length r
end
theorem jr{P:Program}{w:World}{k:Key}{u:Value}(r:RelV (kV k) u):(z6 P w).is k u=true:=by
 cases k with
 |inl i=>obtain⟨t,e⟩:=(show ∃t,u=Value.int i t from r);subst e;exact Zt P w i t
 |inr x=>obtain⟨t,e⟩:=(show ∃t,u=Value.str x t from r);subst e;exact Zu P w x t
theorem js{P:Program}{w:World}:∀{ks:List Key}{us:List Value},Vals (ks.map kV) us->ItemsAre (z6 P w) ks us
 |[],_,r=>by rw[List.map_nil]at r;cases r;exact .nil
 |k::ks,_,r=>by
  rw[uH]at r
  cases r with
  |cons h t=>exact .cons (jr h) (js t)
abbrev KT(H:Hp):List (List Key×V)->List (List Key×Addr×Value)->Prop:=Paired fun p q=>p.1=q.1/\H q.2.1=some (.tup (p.1.map kV))/\RelV p.2 q.2.2
theorem KT.val{H:Hp}{kvs:List (List Key×V)}{xs:List (List Key×Addr×Value)}(r:KT H kvs xs)(k:List Key):RelO (valV kvs k) ((atKey xs k).map (·.2)):=by
 induction r with
 |nil=>exact True.intro
 |@cons p q ps qs h t ih =>
  obtain⟨h1,_,h2⟩:=h
  by_cases e:p.1=k
  ·have e':q.1=k:=h1.symm.trans e
   have b:atKey (q::qs) k=some q.2:=by simp[atKey,tK,e']
   rw[ye e,b];exact h2
  ·have e':¬ q.1=k:=fun z=>e (h1.trans z)
   have b:atKey (q::qs) k=atKey qs k:=by simp[atKey,tK,e']
   rw[yf e,b];exact ih
theorem KT.repl{H:Hp}{kvs:List (List Key×V)}{xs:List (List Key×Addr×Value)}(r:KT H kvs xs)(k:List Key){y:V}{u:Value}(ry:RelV y u):
  KT H (kvs.map fun kv=>if kv.1=k then(kv.1,y)else kv) (xs.map (putAt k u)):=by
 induction r with
 |nil=>exact .nil
 |@cons p q ps qs h t ih =>
  rw[uH,uH]
  refine .cons ?_ ih
  obtain⟨h1,h2,h3⟩:=h
  unfold putAt
  by_cases e:p.1=k
  ·rw[if_pos e,if_pos (h1.symm.trans e)];exact⟨h1,h2,ry⟩
  ·rw[if_neg e,if_neg (fun z=>e (h1.trans z))];exact⟨h1,h2,h3⟩
theorem KT.put{H:Hp}{kvs:List (List Key×V)}{xs:List (List Key×Addr×Value)}(r:KT H kvs xs)(k:List Key){b:Addr}{y:V}{u:Value}(hb:H b=some (.tup (k.map kV)))(ry:RelV y u):
  KT H (putK kvs k y) (storedH xs k b u):=by
 have e:(kvs.any fun kv=>decide (kv.1=k))=(atKey xs k).isSome:=by
  rw[xq,(r.val k).isSome_eq,Option.isSome_map]
 unfold putK storedH
 rw[e]
 by_cases q:(atKey xs k).isSome=true
 ·rw[if_pos q,if_pos q];exact r.repl k ry
 ·rw[if_neg q,if_neg q];exact Paired.snoc r ⟨rfl,hb,ry⟩
theorem KT.keeps{H H':Hp}{kvs:List (List Key×V)}{xs:List (List Key×Addr×Value)}(r:KT H kvs xs)(ht:∀b ys,H b=some (.tup ys)->H' b=some (.tup ys)):KT H' kvs xs :=
 Paired.mapP r fun _ _ z=>⟨z.1,ht _ _ z.2.1,z.2.2⟩
section
variable{P:Program}{w:World}{H:Hp}{h:Heap}{a:Addr}
theorem zba{u:HO}(ok:HOk P w H h)(e:Rd H a u):ObjOk P w H h a u:=e.ok ok
theorem vy{kvs:List (Key×V)}(ok:HOk P w H h)(e:Rd H a (.dK kvs)):kvs.length<=sizeLine/\(a == sysModules)=false/\∃vs,KV kvs vs/\h.DictOf (z6 P w) a vs :=
 show ObjOk P w H h a (.dK kvs)from zba ok e
theorem zc8{kvs:List (Key×V)}(ok:HOk P w H h)(e:H a=some (.dK kvs)):kvs.length<=sizeLine/\(a == sysModules)=false/\∃vs,KV kvs vs/\h.DictOf (z6 P w) a vs:=vy ok (.inl e)
theorem xM{ks:List Key}(ok:HOk P w H h)(e:H a=some (.tup (ks.map kV))):(tupleKind (z6 P w)).is h ks a:=by
 obtain⟨_,its,r,o,h1,h2,_,n,h3⟩:=(show ObjOk P w H h a (.tup (ks.map kV))from ok a _ e)
 exact⟨o,its.toArray,n,h1,h2,h3,by simpa using js r⟩
theorem vz{kvs:List (List Key×V)}(ok:HOk P w H h)(e:Rd H a (.dT kvs)):kvs.length<=sizeLine/\(a == sysModules)=false /\
  ∃xs,KT H kvs xs/\h.DictOfH (tupleKind (z6 P w)) a xs:=by
 obtain⟨z,y,xs,r,o,es,ep,h1,h2,h3,h4,h5⟩:=(show ObjOk P w H h a (.dT kvs)from zba ok e)
 refine⟨z,y,xs,r,o,es,ep,h1,h2,h3,h4,fun x hx=>?_,h5⟩
 have all:∀{l:List (List Key×V)}{m:List (List Key×Addr×Value)},KT H l m->∀x∈m,(tupleKind (z6 P w)).is h x.1 x.2.1:=by
  intro l m q
  induction q with
  |nil=>intro x hx;exact nomatch hx
  |@cons p q ps qs hq t ih =>
   intro x hx
   rcases um.mp hx with e|hx
   ·subst e
    exact xM ok (by rw[<- hq.1];exact hq.2.1)
   ·exact ih x hx
 exact all r x hx
theorem zbb{kvs:List (List Key×V)}(ok:HOk P w H h)(e:H a=some (.dT kvs)):kvs.length<=sizeLine/\(a == sysModules)=false /\
  ∃xs,KT H kvs xs/\h.DictOfH (tupleKind (z6 P w)) a xs:=vz ok (.inl e)
end
def DGet(H:Hp)(a:Addr)(y:V)(r:Option V):Prop :=
 (∃kvs k,Rd H a (.dK kvs)/\y=kV k/\r=valV kvs k)\/∃kvs k b,Rd H a (.dT kvs)/\y=.ref b/\H b=some (.tup (k.map kV))/\r=valV kvs k
def DPut(H:Hp)(a:Addr)(y v:V)(H':Hp):Prop :=
 (∃kvs k,H a=some (.dK kvs)/\y=kV k/\kvs.length < sizeLine/\H'=upd H a (.dK (putK kvs k v))) \/
 ∃kvs k b,H a=some (.dT kvs)/\y=.ref b/\H b=some (.tup (k.map kV))/\kvs.length < sizeLine/\H'=upd H a (.dT (putK kvs k v))
theorem DGet.k{H:Hp}{a:Addr}{kvs:List (Key×V)}{k:Key}(e:H a=some (.dK kvs)):DGet H a (kV k) (valV kvs k):=.inl ⟨kvs,k,.inl e,rfl,rfl⟩
theorem DGet.t{H:Hp}{a b:Addr}{kvs:List (List Key×V)}{k:List Key}(e:H a=some (.dT kvs))(eb:H b=some (.tup (k.map kV))):DGet H a (.ref b) (valV kvs k):=.inr ⟨kvs,k,b,.inl e,rfl,eb,rfl⟩
theorem DPut.k{H:Hp}{a:Addr}{kvs:List (Key×V)}{k:Key}{v:V}(e:H a=some (.dK kvs))(hl:kvs.length < sizeLine):DPut H a (kV k) v (upd H a (.dK (putK kvs k v))):=.inl ⟨kvs,k,e,rfl,hl,rfl⟩
theorem DPut.t{H:Hp}{a b:Addr}{kvs:List (List Key×V)}{k:List Key}{v:V}(e:H a=some (.dT kvs))(eb:H b=some (.tup (k.map kV)))(hl:kvs.length < sizeLine):
  DPut H a (.ref b) v (upd H a (.dT (putK kvs k v))):=.inr ⟨kvs,k,b,e,rfl,eb,hl,rfl⟩
section
variable{X:Cx}{pins:List (Addr×Obj)}{σ:St}{H:Hp}{s:Shared}{a:Addr}{y v:V}{u r:Value}{o:Option V}{A:Around}{E:Value->Shared->Prop}
theorem Inv.big(I:Inv X pins σ H s):sysModules < s.heap.objs.size:=by
 have h:mainGlobals < s.heap.objs.size:=(I.mod.glob.keeps I.bk).lt
 exact Nat.lt_trans (by decide) h
theorem Wj{Q:Value->Shared->Prop}(hu:A.units+1 < cLine)(I:Inv X pins σ H s)(g:DGet H a y (some v))(ry:RelV y u)(h:∀w' s',Inv X pins σ H s'->RelV v w'->Q w' s'):
  wpAny (model X.prog X.w) A (getItem (.ref a) u) Q E s:=by
 rcases g with⟨kvs,k,e,ey,l⟩|⟨kvs,k,b,e,ey,eb,l⟩
 ·subst ey
  obtain⟨z,hd,vs,rel,dd⟩:=vy I.hok e
  obtain⟨w',hw,rw'⟩:=RelO.some_of (v:=v) (o:=valueAt vs k) (by rw[l];exact rel.val k)
  exact wpAny_getItem_of (jr ry) dd.mapOf hw (h w' _ (I.tok _) rw')
 ·subst ey
  cases(show u=Value.ref b from ry)
  obtain⟨z,hd,xs,rel,dd⟩:=vz I.hok e
  obtain⟨w',hw,rw'⟩:=RelO.some_of (v:=v) (o:=(atKey xs k).map (·.2)) (by rw[l];exact rel.val k)
  obtain⟨p,hp,hp2⟩:=uh.mp hw
  refine wpAny_getItem_heap (tupleKind_room_in1 hu) (xM I.hok eb) dd hp ?_
  rw[hp2]
  exact h w' _ (I.tok _) rw'
theorem d_in{Q:Value->Shared->Prop}(hu:A.units+1 < cLine)(I:Inv X pins σ H s)(g:DGet H a y o)(ry:RelV y u)(h:∀s',Inv X pins σ H s'->Q (.bool o.isSome) s'):
  wpAny (model X.prog X.w) A (compareOp .In u (.ref a)) Q E s:=by
 rcases g with⟨kvs,k,e,ey,l⟩|⟨kvs,k,b,e,ey,eb,l⟩
 ·subst ey
  obtain⟨z,hd,vs,rel,dd⟩:=vy I.hok e
  refine wpAny_in_of (jr ry) hd dd.mapOf ?_
  rw[<- (rel.val k).isSome_eq,<- l]
  exact h _ (I.tok _)
 ·subst ey
  cases(show u=Value.ref b from ry)
  obtain⟨z,hd,xs,rel,dd⟩:=vz I.hok e
  refine wpAny_in_heap (tupleKind_room_in1 hu) (xM I.hok eb) hd dd ?_
  have q:=(rel.val k).isSome_eq
  rw[Option.isSome_map]at q
  rw[<- q,<- l]
  exact h _ (I.tok _)
theorem QJ{Q:Value->Shared->Prop}(hu:A.units+1 < cLine)(I:Inv X pins σ H s)(g:DGet H a y o)(ry:RelV y u)(h:∀s',Inv X pins σ H s'->Q (.bool (!o.isSome)) s'):
  wpAny (model X.prog X.w) A (compareOp .NotIn u (.ref a)) Q E s:=by
 rcases g with⟨kvs,k,e,ey,l⟩|⟨kvs,k,b,e,ey,eb,l⟩
 ·subst ey
  obtain⟨z,hd,vs,rel,dd⟩:=vy I.hok e
  refine wpAny_notIn_of (jr ry) hd dd.mapOf ?_
  rw[<- (rel.val k).isSome_eq,<- l]
  exact h _ (I.tok _)
 ·subst ey
  cases(show u=Value.ref b from ry)
  obtain⟨z,hd,xs,rel,dd⟩:=vz I.hok e
  refine wpAny_notIn_heap (tupleKind_room_in1 hu) (xM I.hok eb) hd dd ?_
  have q:=(rel.val k).isSome_eq
  rw[Option.isSome_map]at q
  rw[<- q,<- l]
  exact h _ (I.tok _)
theorem j6{h':Heap}{t':Nat}{ob:HO}(I:Inv X pins σ H s)(mu:Mut (H a))(hs:Heap.SameBut a s.heap h')(he:∃q,h'.get? a=some q)(new:ObjOk X.prog X.w (upd H a ob) h' a ob):
  Inv X pins σ (upd H a ob) { s with heap:=h',toks:=t' } :=
 I.write (x:=a) (e:=a) mu (.inl rfl) (fun b q hb z=>(hs.2 b hb).trans z) he new
theorem zb5{P:Program}{w:World}{H':Hp}{h':Heap}{kvs:List (Key×V)}{vs:List (Key×Value)}(z:kvs.length<=sizeLine)(hd:(a == sysModules)=false)(rel:KV kvs vs)(dd:h'.DictOf (z6 P w) a vs):
  ObjOk P w H' h' a (.dK kvs):=⟨z,hd,vs,rel,dd⟩
theorem Wk{H':Hp}{Q:Unit->Shared->Prop}(hu:A.units+1 < cLine)(I:Inv X pins σ H s)(g:DPut H a y v H')(ry:RelV y u)(rv:RelV v r)(h:∀s',Inv X pins σ H' s'->Q () s'):
  wpAny (model X.prog X.w) A (setItem (.ref a) u r) Q E s:=by
 rcases g with⟨kvs,k,e,ey,l,eH⟩|⟨kvs,k,b,e,ey,eb,l,eH⟩
 ·subst ey eH
  obtain⟨z,hd,vs,rel,dd⟩:=zc8 I.hok e
  have hz:vs.length<=sizeLine:=by rw[<- rel.length];exact z
  have hl:(putK kvs k v).length<=sizeLine:=by have:=yb kvs k v;lia
  refine wpAny_setItem_pairs (hsz:=hz) (jr ry) dd fun h' dd' hs=>h _ ?_
  have he:∃q,h'.get? a=some q:=let ⟨q,_,_,hq,_⟩:=dd';⟨q,hq⟩
  exact j6 I (by rw[e];exact True.intro) hs he (zb5 hl hd (rel.put k rv) dd')
 ·subst ey eH
  cases(show u=Value.ref b from ry)
  obtain⟨z,hd,xs,rel,dd⟩:=zbb I.hok e
  have hz:xs.length<=sizeLine:=by rw[<- Paired.length rel];exact z
  have hl:(putK kvs k v).length<=sizeLine:=by have:=yb kvs k v;lia
  refine wpAny_setItem_heap (hsz:=hz) (tupleKind_room_in1 hu) (xM I.hok eb) dd fun h' dd' hs=>h _ ?_
  obtain⟨q,es,ep,hq,h2,h3,h4,_,h5⟩:=dd'
  refine j6 I (by rw[e];exact True.intro) hs ⟨q,hq⟩ ⟨hl,hd,_,(rel.put k eb rv).keeps fun c ys ec=>?_,q,es,ep,hq,h2,h3,h4,h5⟩
  rw[zi (yN ec e (fun z=>nomatch z))]
  exact ec
end
section
variable{X:Cx}{pins:List (Addr×Obj)}{σ:St}{H:Hp}{s:Shared}{a:Addr}{kvs:List (Key×V)}{k:Key}{u:Value}{A:Around}{E:Value->Shared->Prop}
end
def NoSl(i:Expr):Prop:=∀ov iv,subscripted i false ov iv=operate [ov,iv] (getItem ov iv)
theorem QK{prog:Program}{w:World}{A:Around}{E:Value->Shared->Prop}{s:Shared}{env:Env}{value slice:Expr}{pos:Pos}{T id:String}{Q:Value->Shared->Prop}
  (hl:typeLookup (.type T) "__getitem__"=pure (some (.builtin id))) (hs:NoSl slice)
  (h:wpAny (model prog w) A (eval value env) (fun o s₁=>wpAny (model prog w) A (eval slice env) (fun i s₂=>s₂.TypeIs o T/\wpAny (model prog w) A (getItem o i) Q E s₂) E s₁) E s) :
  wpAny (model prog w) A (eval (.Subscript value slice pos) env) Q E s:=by
 refine Subscript_ (wpAny_mono h (fun o s₁ h₁=>wpAny_mono h₁ (fun i s₂ h₂=>?_) fun _ _ x=>x) fun _ _ x=>x)
 obtain⟨hT,h₂⟩:=h₂
 unfold subscriptTail
 refine wpAny_bind ?_
 rw[getitemInPython_of_ne hT.not_modules]
 refine wpAny_bind (wpAny_specialOf hT hl ?_)
 have fin:wpAny (model prog w) A (subscripted slice false o i) (fun r s₃=>wpAny (model prog w) A (letTemporaryGo value o r >>= fun _=>pure r) Q E s₃) E s₂:=by
  rw[hs o i]
  exact wpAny_operating (wpAny_mono h₂ (fun r s₃ h₃=>wpAny_bind (wpAny_letTemporaryGo (wpAny_pure h₃))) fun _ _ x=>x)
 first
  |exact wpAny_pure (wpAny_bind fin)
  |exact wpAny_bind (wpAny_pure (wpAny_bind fin))
  |exact wpAny_bind fin
theorem ZU{X:Cx}{pins:List (Addr×Obj)}{σ:St}{H:Hp}{s:Shared}{a:Addr}{y:V}{o:Option V}(I:Inv X pins σ H s)(g:DGet H a y o):s.TypeIs (.ref a) "dict":=by
 rcases g with⟨kvs,k,e,_,_⟩|⟨kvs,k,b,e,_,_,_⟩
 ·obtain⟨_,_,vs,_,dd⟩:=vy I.hok e
  exact dd.typeIs
 ·obtain⟨_,_,xs,_,dd⟩:=vz I.hok e
  exact dd.typeIs
def zbc(td ty:TE):TE:=fun σ H Q=>td σ H fun x H1=>ty σ H1 fun y H2=>∃a v,x=.ref a/\DGet H2 a y (some v)/\Q v H2
def tDIn(ty td:TE):TE:=fun σ H Q=>ty σ H fun y H1=>td σ H1 fun x H2=>∃a o,x=.ref a/\DGet H2 a y o/\Q (.bl o.isSome) H2
def Xw(ty td:TE):TE:=fun σ H Q=>ty σ H fun y H1=>td σ H1 fun x H2=>∃a o,x=.ref a/\DGet H2 a y o/\Q (.bl (!o.isSome)) H2
def zbd(td ty tv:TE):TS:=fun D σ H=>tv σ H fun v H1=>td σ H1 fun x H2=>ty σ H2 fun y H3=>∃a H4,x=.ref a/\DPut H3 a y v H4/\D.nx σ H4
section
variable{X:Cx}{o i e value:Expr}{pos pos' tpos:Pos}{td ty tv:TE}
theorem QL(hu:X.A.units+1 < cLine)(ho:PE X o td)(hi:PE X i ty)(hs:NoSl i):PE X (.Subscript o i pos) (zbc td ty):=by
 intro pins s σ H Q I h
 refine QK PySem.F.slot_dict_getitem.lookup hs (thn (ho pins s σ H _ I h) fun u s1 ⟨x,H1,I1,rx,q1⟩=>thn (hi pins s1 σ H1 _ I1 q1) fun iv s2 ⟨y,H2,I2,ry,a,v,ex,g,q2⟩=>?_)
 subst ex
 obtain rfl:u=Value.ref a:=rx
 exact⟨ZU I2 g,Wj hu I2 g ry fun w' s3 I3 rw'=>⟨v,H2,I3,rw',q2⟩⟩
theorem zb6(hu:X.A.units+1 < cLine)(hi:PE X i ty)(ho:PE X o td):PC X .In i o (tDIn ty td):=by
 intro pins s σ H Q I h
 refine thn (hi pins s σ H _ I h) fun iv s1 ⟨y,H1,I1,ry,q1⟩=>thn (ho pins s1 σ H1 _ I1 q1) fun u s2 ⟨x,H2,I2,rx,a,ov,ex,g,q2⟩=>?_
 subst ex
 obtain rfl:u=Value.ref a:=rx
 exact d_in hu I2 g ry fun s3 I3=>⟨.bl ov.isSome,H2,I3,rfl,q2⟩
theorem Wl(hu:X.A.units+1 < cLine)(hi:PE X i ty)(ho:PE X o td):PC X .NotIn i o (Xw ty td):=by
 intro pins s σ H Q I h
 refine thn (hi pins s σ H _ I h) fun iv s1 ⟨y,H1,I1,ry,q1⟩=>thn (ho pins s1 σ H1 _ I1 q1) fun u s2 ⟨x,H2,I2,rx,a,ov,ex,g,q2⟩=>?_
 subst ex
 obtain rfl:u=Value.ref a:=rx
 exact QJ hu I2 g ry fun s3 I3=>⟨.bl (!ov.isSome),H2,I3,rfl,q2⟩
theorem QM(hu:X.A.units+1 < cLine)(ho:PE X o td)(hi:PE X i ty)(hv:PE X value tv)(hs:swapsWith value (some (.Subscript o i pos')) pos.line X.env=pure false):
  PS X (.Assign [.Subscript o i pos'] value pos) (zbd td ty tv):=by
 intro pins s σ H D I h
 refine wpAny_Assign_Subscript (thn (hv pins s σ H _ I h) fun r s1 ⟨v,H1,I1,rv,q1⟩=>thn (ho pins s1 σ H1 _ I1 q1) fun u s2 ⟨x,H2,I2,rx,q2⟩=>thn (hi pins s2 σ H2 _ I2 q2) fun iv s3 ⟨y,H3,I3,ry,a,H4,ex,g,q3⟩=>?_) hs
 subst ex
 obtain rfl:u=Value.ref a:=rx
 exact Wk hu I3 g ry rv fun s4 I4=>⟨σ,H4,I4,q3⟩
end
theorem Vv{P:Program}{w:World}{H:Hp}(h:Heap)(hb:sysModules < h.objs.size):ObjOk P w H (h.push { cls:=.type "dict",data:=.dict #[] }) h.objs.size (.dK []) :=
 ⟨uW _,beq_eq_false_iff_ne.mpr (Ne.symm (uS hb)),[],.nil,Heap.DictOf.new h⟩
theorem Vw{P:Program}{w:World}{H:Hp}(h:Heap)(hb:sysModules < h.objs.size):ObjOk P w H (h.push { cls:=.type "dict",data:=.dict #[] }) h.objs.size (.dT []) :=
 ⟨uW _,beq_eq_false_iff_ne.mpr (Ne.symm (uS hb)),[],.nil,_,#[],0,uA _ rfl,⟨rfl,rfl,rfl⟩,rfl,rfl,List.nodup_nil⟩
def Vx:TE:=fun _ H Q=>∀p,H p=none->Q (.ref p) (upd H p (.dK []))
def Vy:TE:=fun _ H Q=>∀p,H p=none->Q (.ref p) (upd H p (.dT []))
section
variable{X:Cx}{pos:Pos}
theorem Vz:PE X (.Dict [] [] pos) Vx:=fun pins s σ H Q I h =>
 wpAny_Dict_empty ⟨.ref s.heap.objs.size,_,I.laid (a:=s.heap.objs.size) (o:=.dK []) (t':=s.toks) (fun _ _ q=>ug _ q) (ud _) (Vv s.heap I.big),rfl,h _ (I.hok.fresh (ud _))⟩
theorem VA:PE X (.Dict [] [] pos) Vy:=fun pins s σ H Q I h =>
 wpAny_Dict_empty ⟨.ref s.heap.objs.size,_,I.laid (a:=s.heap.objs.size) (o:=.dT []) (t':=s.toks) (fun _ _ q=>ug _ q) (ud _) (Vw s.heap I.big),rfl,h _ (I.hok.fresh (ud _))⟩
end
structure M2(X:Cx)(o:Expr)(m:Str)(apos:Pos)(e f:Expr)(cpos:Pos):Prop where
 base:attributeBase o m X.env (eval o X.env)=eval o X.env
 few:((backTo cpos (starEach [e,f] X.env)).all (fun x=>!x.1) && (backToKw cpos (keywordEach [] X.env)).all (fun x=>x.1.isSome)
  && decide (([e,f]:List Expr).length+([]:List Keyword).length+(if([]:List Keyword).isEmpty then 0 else 1) < 30))=true
 line:(apos.endLine == cpos.line)=true
 trees:backTo cpos (starEach [e,f] X.env)=[(false,eval e X.env),(false,eval f X.env)]
def IsD(H:Hp)(a:Addr):Prop:=(∃kvs,Rd H a (.dK kvs))\/∃kvs,Rd H a (.dT kvs)
theorem VB{X:Cx}{pins:List (Addr×Obj)}{σ:St}{H:Hp}{s:Shared}{a:Addr}(I:Inv X pins σ H s)(d:IsD H a):
  s.TypeIs (.ref a) "dict"/\(∀b,Value.ref a=.ref b->∃ob,s.heap.get? b=some ob/\ob.dict=none)/\(a == sysModules)=false:=by
 rcases d with⟨kvs,e⟩|⟨kvs,e⟩
 ·obtain⟨_,hd,vs,_,dd⟩:=vy I.hok e
  refine⟨dd.typeIs,fun b q=>?_,hd⟩
  cases q
  obtain⟨ob,_,_,h1,h2,_⟩:=dd
  exact⟨ob,h1,h2.2.1⟩
 ·obtain⟨_,hd,xs,_,dd⟩:=vz I.hok e
  refine⟨dd.typeIs,fun b q=>?_,hd⟩
  cases q
  obtain⟨ob,_,_,h1,h2,_⟩:=dd
  exact⟨ob,h1,h2.2.1⟩
section
variable{X:Cx}{pins:List (Addr×Obj)}{σ:St}{H:Hp}{s:Shared}{a:Addr}{y d:V}{u r:Value}{o:Option V}{A:Around}{E:Value->Shared->Prop}
theorem zb7{Q:Value->Shared->Prop}(hu:A.units+1 < cLine)(I:Inv X pins σ H s)(g:DGet H a y o)(ry:RelV y u)(rd:RelV d r)(h:∀w' s',Inv X pins σ H s'->RelV (o.getD d) w'->Q w' s'):
  wpAny (model X.prog X.w) A (call (.builtin "dict.get") [.ref a,u,r]) Q E s:=by
 rcases g with⟨kvs,k,e,ey,l⟩|⟨kvs,k,b,e,ey,eb,l⟩
 ·subst ey
  obtain⟨z,hd,vs,rel,dd⟩:=vy I.hok e
  refine call_meetsIn PySem.F.slot_dict_get dd.typeIs PySem.F.entry_dict_get (PySem.F.args_dict_get_3 _ _ _) (meets_dict_get_default (z6 X.prog X.w) a (jr ry) hd r) ⟨_,dd.mapOf,h _ _ (I.tok _) ?_⟩
  rw[l]
  exact(rel.val k).getD rd
 ·subst ey
  cases(show u=Value.ref b from ry)
  obtain⟨z,hd,xs,rel,dd⟩:=vz I.hok e
  refine call_meetsIn PySem.F.slot_dict_get dd.typeIs PySem.F.entry_dict_get (PySem.F.args_dict_get_3 _ _ _) (meetsH_dict_get_default (tupleKind (z6 X.prog X.w)) a b hd r) ⟨tupleKind_room_in1 hu,k,xs,xM I.hok eb,dd,h _ _ (I.tok _) ?_⟩
  rw[l]
  exact(rel.val k).getD rd
end
def VC(td ty tx:TE):TE:=fun σ H Q=>td σ H fun x H1=>∃a,x=.ref a/\IsD H1 a/\ty σ H1 fun y H2=>tx σ H2 fun z H3=>∃o,DGet H3 a y o/\Q (o.getD z) H3
section
variable{X:Cx}{o e f:Expr}{apos cpos:Pos}{td ty tx:TE}
theorem VD(hu:X.A.units+1 < cLine)(ho:PE X o td)(he:PE X e ty)(hf:PE X f tx)(m:M2 X o "get" apos e f cpos):PE X (.Call (.Attribute o "get" apos) [e,f] [] cpos) (VC td ty tx):=by
 intro pins s σ H Q I h
 refine wpAny_Call_method m.base m.few m.line PySem.F.plainAttrs_dict PySem.F.slot_dict_get PySem.F.type_dict_get (thn (ho pins s σ H _ I h) fun u s1 ⟨x,H1,I1,rx,a,ex,d,q1⟩=>?_)
 subst ex
 obtain rfl:u=Value.ref a:=rx
 obtain⟨t1,t2,_⟩:=VB I1 d
 refine⟨t1,t2,?_⟩
 rw[m.trees]
 refine Calls.callWith_builtin rfl (Calls.evalArgs_plain (Calls.spliced_cons (thn (he pins s1 σ H1 _ I1 q1) fun iv s2 ⟨y,H2,I2,ry,q2⟩ =>
  Calls.spliced_cons (thn (hf pins s2 σ H2 _ I2 q2) fun fv s3 ⟨z,H3,I3,rz,ov,g,q3⟩=>Calls.spliced_nil ?_))))
 exact zb7 hu I3 g ry rz fun w' s4 I4 rw'=>⟨_,H3,I4,rw',q3⟩
end
section
variable{X:Cx}{pins:List (Addr×Obj)}{σ:St}{H:Hp}{s:Shared}{a:Addr}{kvs:List (Key×V)}{A:Around}{E:Value->Shared->Prop}
end
section
variable{X:Cx}{pins:List (Addr×Obj)}{σ:St}{H:Hp}{s:Shared}{a:Addr}{y:V}{u:Value}{A:Around}{E:Value->Shared->Prop}
end
end L2
namespace Att
open PySem PySem.W PySem.Calls PyProof.Rows
section
variable{prog:Program}{w:World}{A:Around}{E:Value->Shared->Prop}{s:Shared}{K:Frag}
end
end Att
namespace L2
open PySem PySem.Spec PyProof.Rows
section
variable{P:Program}{w:World}{K:ub}{mg:Str->Option Value}{base:Heap}
end
section
variable{X:Cx}
end
section
variable{κ:Type}[DecidableEq κ]
end
section
variable{X:Cx}{pos:Pos}
theorem vA:jE X (.Dict [] [] pos) Vx:=⟨Vz⟩
end
theorem SqK.l{K:ub}{H:Hp}{a:Addr}{xs:List V}(h:H a=some (.lst xs)):SqK true K H a xs:=SqL.of h
theorem Xx{K:ub}{k m:Bool}{a b:Addr}{xs ys:List V}{g:TG}{tb:TS}{D:Ends}{σ:St}{H:Hp}(hlen:xs.length=ys.length)(Pv:Nat->St->Hp->Prop)(h0:Pv 0 σ H)(hl:∀i σ H,i<=xs.length->Pv i σ H->SqK k K H a xs/\SqK m K H b ys)
  (hs:∀i x y T σ H,xs[i]?=some x->ys[i]?=some y->H T=none->Pv i σ H->g (.ref T) σ (upd H T (.tup [x,y])) fun σ2 H2=>tb { D with nx:=Pv (i+1),ct:=Pv (i+1),bk:=D.nx } σ2 H2) (hd:∀σ H,Pv xs.length σ H->D.nx σ H) :
  ∃W:Nat->Nat->St->Hp->Prop,(∃m,W 0 m σ H)/\∀i n σ H,W i n σ H ->
   ((Itz K k m a b).stop i H/\D.nx σ H)\/((Itz K k m a b).go i H/\∃N:St->Hp->Prop,(∀σ' H',N σ' H'->∃m',m' < n/\W (i+1) m' σ' H')/\∀x H',(Itz K k m a b).yld i H x H'->g x σ H' fun σ2 H2=>tb { D with nx:=N,ct:=N,bk:=D.nx } σ2 H2):=by
 refine⟨fun i m σ H=>m=xs.length-i/\i<=xs.length/\Pv i σ H,⟨xs.length,by simp,uW _,h0⟩,?_⟩
 rintro i n σ H ⟨rfl,hi,p⟩
 obtain⟨q1,q2⟩:=hl i σ H hi p
 by_cases hlt:i < xs.length
 ·refine .inr ⟨⟨xs,ys,xs[i],ys[i]'(by lia),q1,q2,by simp[hlt],by simp[<- hlen,hlt]⟩,Pv (i+1),fun σ' H' p'=>⟨xs.length-(i+1),by lia,rfl,hlt,p'⟩,fun x H' y=>?_⟩
  obtain⟨T,x,y,rfl,hT,rfl,e1,e2⟩:=y
  exact hs i x y T σ H (e1 xs q1) (e2 ys q2) hT p
 ·have e:i=xs.length:=by lia
  subst e
  exact .inl ⟨⟨xs,ys,q1,q2,.inl (ud _)⟩,hd σ H p⟩
def lay(H:Hp):List (Addr×HO)->Hp
 |[]=>H
 |p::r=>upd (lay H r) p.1 p.2
section
variable{X:Cx}{pins:List (Addr×Obj)}{σ:St}{H:Hp}{s:Shared}{h':Heap}
end
section
variable{X:Cx}
theorem xB{o i value:Expr}{td ty tv:TE}{pos pos':Pos}{k:Nat}(hr:Room k X.A)(ho:jE X o td)(hi:jE X i ty)(hv:jE X value tv)(hs:swapsWith value (some (.Subscript o i pos')) pos.line X.env=pure false:=by rfl):
  jS X (.Assign [.Subscript o i pos'] value pos) (zbd td ty tv):=⟨QM (by have:=hr.units;lia) ho.out hi.out hv.out hs⟩
end
section
variable{X:Cx}{pos:Pos}
theorem z9(K:ub)(h:X.K=K:=by rfl):jIx X (rIxT K):=h ▸ zZ
theorem xZ(K:ub){es:List Expr}{k:Nat}{gs:TGs}{n:Nat}(hc:X.calm=true)(g:jGs X es gs)(h:X.K=K:=by rfl)(hn:(assignEach es X.env).length=n:=by rfl)(hst:(assignEach es X.env).findIdx? (·.1)=none:=by rfl):jG X (.Tuple es k pos) (gTup K n gs):=h ▸ yi hc g hn hst
theorem xr(K:ub)(h:X.K=K:=by rfl):jCa X (.builtin "len") (fun xs H Q=>∃p ys,xs=[.ref p]/\(SqL K H p ys\/SqT K H p ys)/\Q (.int ys.length) H):=h ▸ vw
end
end L2
namespace K11
open PySem
def sg(c:Nat):Str:=⟨#[c]⟩
theorem vB(a:Array Nat):∀(k:Nat)(acc:Array Nat),((uT k a).foldl (· ++ ·) acc).size=acc.size+k*a.size
 |0,acc=>by simp
 |k+1,acc=>by
  rw[UC,Ul,vB a k,Array.size_append,tP]
  lia
theorem QN{z:Str}{n:Int}(hz:z.length=1):(Txt.mul z n).length<=n.toNat:=by
 unfold Txt.mul
 split
 ·simp[Str.empty,Str.length]
 ·rename_i h
  split
  ·rw[hz];lia
  ·show((uT n.toNat z.cps).foldl (· ++ ·) #[]).size<=n.toNat
   have e:z.cps.size=1:=hz
   rw[vB,e]
   simp
theorem zb8{z:Str}{n:Int}(hz:z.length=1)(h0:0<=n)(h1:n<=1000):MulOk z n:=by
 have hs:sizeLine=16777216:=by decide
 refine⟨?_,fun a b=>?_,fun a b=>?_⟩
 ·have e1:decide (n < -(2 ^ 63:Int))=false:=decide_eq_false (by lia)
  have e2:decide (n ≥ 2 ^ 63)=false:=decide_eq_false (by lia)
  rw[e1,e2];rfl
 ·rw[hz]
  have:(1:Int)<=(2 ^ 63-1) / n:=Int.le_ediv_of_mul_le (by lia) (by lia)
  intro c
  have c':(1:Int) > (2 ^ 63-1) / n:=c
  lia
 ·rw[hz]
  unfold Builtin.Str.tooLong
  exact decide_eq_false (by rw[hs];lia)
end K11
namespace K11
open PySem PySem.Spec PyProof.Rows Builtin Builtin.Str
abbrev cl(z:Str):List Nat:=z.cps.toList
theorem xt(z:Str):(cl z).length=z.length:=by simp[Str.length]
theorem yD(x y:Str):cl (x++y)=cl x++cl y:=by
 show(x.cps++y.cps).toList=_
 simp
theorem j7{sep x y:Str}{r:List Str}:cl (Str.join sep (x::y::r))=cl x++(cl sep++cl (Str.join sep (y::r))):=by
 show cl (x++sep++Str.join sep (y::r))=_
 rw[yD,yD,Ur]
end K11
namespace GN
open PySem L2
def top(i:Nat):Stmt:=PySem.Challenge.pw_reusewise_k51_reasons_that_are_so.main.body.getD i (.Pass ⟨0,0,0,0⟩)
abbrev VE:Stmt:=top 1
abbrev YD:Stmt:=wZ (top 4) 0
abbrev j8:Stmt:=top 5
abbrev VF:Stmt:=top 6
abbrev YE:Stmt:=top 8
abbrev VG:Stmt:=top 9
abbrev sTog:Stmt:=top 10
abbrev wC:Stmt:=top 11
abbrev y8:Stmt:=top 12
abbrev j9:Stmt:=top 13
abbrev xN:Stmt:=top 14
abbrev vC:Stmt:=top 15
abbrev yX:Stmt:=top 2
abbrev wD:Stmt:=top 3
abbrev vD:Stmt:=top 17
abbrev vE:Stmt:=top 18
abbrev YF:Stmt:=wZ (top 19) 0
abbrev xO:Stmt:=wZ (top 19) 1
abbrev vF:Stmt:=wZ (top 19) 2
abbrev vG:Stmt:=top 20
abbrev wE:Stmt:=top 21
abbrev wF:Stmt:=top 22
abbrev wG:Stmt:=top 23
abbrev vH:Stmt:=top 24
abbrev YG:Stmt:=top 25
abbrev VH:Stmt:=top 27
abbrev sNm:Stmt:=top 28
abbrev YH:Stmt:=top 29
abbrev YI:Stmt:=top 30
abbrev YJ:Stmt:=top 31
abbrev VI:Stmt:=top 32
abbrev YK:Stmt:=top 33
abbrev Za:Stmt:=top 34
abbrev VJ:Stmt:=top 35
abbrev YL:Stmt:=top 36
abbrev VL:Stmt:=top 37
abbrev Xy:Stmt:=top 38
abbrev sDef:Stmt:=top 39
abbrev vI:Stmt:=top 40
abbrev sLaw:Stmt:=top 54
abbrev YM:Stmt:=top 41
abbrev wH:Stmt:=top 42
abbrev VM:Stmt:=top 43
abbrev Xz:Stmt:=top 44
abbrev wI:Stmt:=top 45
abbrev w6:Stmt:=top 46
abbrev YN:Stmt:=top 47
abbrev VN:Stmt:=top 48
abbrev YO:Stmt:=top 49
abbrev Zb:Stmt:=top 50
abbrev Zc:Stmt:=top 51
abbrev YQ:Stmt:=top 52
abbrev vJ:Stmt:=top 53
end GN
namespace L2
open PySem
section
variable{X:Cx}{o i:Expr}{to ti:TE}{pos:Pos}
theorem XA(ho:jE X o to)(hi:jE X i ti)(ha:∀v,assign (.Subscript o i pos) X.env v=(do
   let ov <- holding [v] (eval o X.env)
   let iv <- holding [v,ov] (eval i X.env)
   standAt pos
   holding [v,ov,iv] (setItem ov iv v)
   release [v,ov,iv] []):=by intro _;rfl):jG X (.Subscript o i pos) (gSub to ti za3):=⟨zby ho.out hi.out W6 ha⟩
theorem zb9:jOp X (binaryOp .Mult) rRep:=⟨zbX⟩
theorem YR:jMt X "list.reverse" ZC:=⟨Yx⟩
theorem QO(hc:X.calm=true):jCa X (.builtin "max") (fun xs H Q=>∃i j,xs=[.int i,.int j]/\Q (.int (if j > i then j else i)) H):=⟨X7 hc⟩
end
end L2
namespace GN
open PySem L2 K11
theorem zn{H:Hp}{p:Addr}(h:H p=none)(o:HO):Same H (upd H p o):=fun b u q=>by rw[zi (zk q h)];exact q
def LIM:Nat:=4611686018427387904
def Sta(K:ub)(H:Hp)(st:Addr)(B:Nat):Prop:=∃(a:Addr)(ns:List Int)(k:Nat),H st=some (.lst [.ref a,.int (k:Nat)])/\(a=st->∀H',SqL K H' a (ns.map V.int))/\SqL K H a (ns.map V.int)/\k<=B
structure Kp(st:Addr)(H H':Hp):Prop where
 k:∀b u,b≠st->H b=some u->H' b=some u
 s:∀a k,H st=some (.lst [.ref a,.int k])->∃k',H' st=some (.lst [.ref a,.int k'])
theorem Kp.refl{st:Addr}{H:Hp}:Kp st H H:=⟨fun _ _ _ h=>h,fun _ k h=>⟨k,h⟩⟩
theorem Kp.trans{st:Addr}{H H1 H2:Hp}(a:Kp st H H1)(b:Kp st H1 H2):Kp st H H2:=⟨fun c u n h=>b.k c u n (a.k c u n h),fun x k h=>let ⟨k',h'⟩:=a.s x k h;b.s x k' h'⟩
theorem Kp.of{st:Addr}{H H1:Hp}(a:Same H H1):Kp st H H1:=⟨fun c u _ h=>a c u h,fun _ k h=>⟨k,a _ _ h⟩⟩
theorem Kp.new{st p:Addr}{H H1:Hp}{o:HO}(a:Kp st H H1)(h:H1 p=none):Kp st H (upd H1 p o):=a.trans (.of (zn h o))
theorem Kp.put{st p:Addr}{H H1:Hp}{o:HO}(a:Kp st H H1)(h:H p=none):Kp st H (upd H1 p o):=⟨fun b u n q=>by rw[zi (zk q h)];exact a.k b u n q,fun x k q=>by
 obtain⟨k',h'⟩:=a.s x k q
 exact⟨k',by rw[zi (zk q h)];exact h'⟩⟩
theorem Kp.seq{K:ub}{st a:Addr}{H H':Hp}{xs:List V}(e:Kp st H H')(n:a≠st)(h:SqL K H a xs):SqL K H' a xs:=by
 rcases h with(h|⟨o,h⟩)|h
 ·exact .inl (.inl (e.k _ _ n h))
 ·exact .inl (.inr ⟨o,e.k _ _ n h⟩)
 ·exact .inr h
theorem Kp.free{st p:Addr}{H H':Hp}(e:Kp st H H')(n:p≠st)(h:H' p=none):H p=none:=by
 cases q:H p with
 |none=>rfl
 |some o =>
  rw[e.k p o n q]at h
  cases h
section
variable{K:ub}{H H':Hp}{st:Addr}{B B':Nat}
theorem Sta.ex(h:Sta K H st B):∃o,H st=some o:=let ⟨_,_,_,e,_⟩:=h;⟨_,e⟩
theorem Sta.mono(h:Sta K H st B)(l:B<=B'):Sta K H st B':=let ⟨a,ns,k,h1,h2,h3,h4⟩:=h;⟨a,ns,k,h1,h2,h3,Uc h4 l⟩
theorem Sta.same(h:Sta K H st B)(s:Same H H'):Sta K H' st B:=let ⟨a,ns,k,h1,h2,h3,h4⟩:=h;⟨a,ns,k,s _ _ h1,h2,s.seq h3,h4⟩
theorem Sta.new(h:Sta K H st B){p:Addr}(hp:H p=none)(o:HO):Sta K (upd H p o) st B:=h.same (zn hp o)
theorem Sta.ne{p:Addr}(h:Sta K H st B)(hp:H p=none):p≠st:=fun e=>by
 obtain⟨o,q⟩:=h.ex
 rw[e,q]at hp
 cases hp
theorem Sta.neR{p:Addr}{ts:List Addr}(h:Sta K H st B)(hp:H p=some (.lst (ts.map V.ref))):p≠st:=fun e=>by
 obtain⟨a,ns,k,h1,_⟩:=h
 rw[e,h1]at hp
 have e2:=congrArg (fun o=>match o with|some (HO.lst l)=>l|_=>[]) hp
 simp only at e2
 match ts,e2 with
 |[_,_],e2=>simp at e2
 |[],e2=>simp at e2
 |[_],e2=>simp at e2
 |_::_::_::_,e2=>simp at e2
theorem Sta.neI{p:Addr}{ts:List Int}(h:Sta K H st B)(hp:H p=some (.lst (ts.map V.int))):p≠st:=fun e=>by
 obtain⟨a,ns,k,h1,_⟩:=h
 rw[e,h1]at hp
 have e2:=congrArg (fun o=>match o with|some (HO.lst l)=>l|_=>[]) hp
 simp only at e2
 match ts,e2 with
 |[],e2=>simp at e2
 |_::_,e2=>simp at e2
theorem Sta.neS{p:Addr}{ts:List Str}(h:Sta K H st B)(hp:H p=some (.lst (ts.map V.str))):p≠st:=fun e=>by
 obtain⟨a,ns,k,h1,_⟩:=h
 rw[e,h1]at hp
 have e2:=congrArg (fun o=>match o with|some (HO.lst l)=>l|_=>[]) hp
 simp only at e2
 match ts,e2 with
 |[],e2=>simp at e2
 |_::_,e2=>simp at e2
theorem Sta.neW{p:Addr}{x:Str}{xs:List V}(h:Sta K H st B)(hp:H p=some (.lst (.str x::xs))):p≠st:=fun e=>by
 obtain⟨a,ns,k,h1,_⟩:=h
 rw[e,h1]at hp
 simp at hp
theorem Sta.put{H2:Hp}{p:Addr}{o:HO}(S0:Sta K H st B)(hp:H p=none)(k:Kp st H H2)(S2:Sta K H2 st B'):Sta K (upd H2 p o) st B':=by
 obtain⟨a,ns,i,h1,h2,h3,_⟩:=S0
 obtain⟨a',ns',i',g1,g2,g3,g4⟩:=S2
 obtain⟨k',h'⟩:=k.s a _ h1
 rw[g1]at h'
 have ea:a'=a:=by
  have:=congrArg (fun o=>match o with|some (HO.lst (V.ref x::_))=>x|_=>0) h'
  exact this
 subst ea
 have g1':upd H2 p o st=some (.lst [.ref a',.int ((i':Nat):Int)]):=by rw[zi (zk h1 hp)];exact g1
 have key:a'≠p->Sta K (upd H2 p o) st B':=fun n=>by
  refine⟨a',ns',i',g1',g2,?_,g4⟩
  rcases g3 with(g|⟨o,g⟩)|g
  ·exact .inl (.inl (by rw[zi n];exact g))
  ·exact .inl (.inr ⟨o,by rw[zi n];exact g⟩)
  ·exact .inr g
 rcases h3 with(h|⟨_,h⟩)|h
 ·exact key (zk h hp)
 ·exact key (zk h hp)
 ·exact⟨a',ns,i',g1',fun _ _=>.inr h,.inr h,g4⟩
def Tups(H H':Hp):Prop:=∀p xs,H p=some (.tup xs)->H' p=some (.tup xs)
theorem Tups.of(s:Same H H'):Tups H H':=fun p xs h=>s p _ h
theorem Tups.trans{H2:Hp}(a:Tups H H')(b:Tups H' H2):Tups H H2:=fun p xs h=>b p xs (a p xs h)
theorem Kp.tups(k:Kp st H H')(h:Sta K H st B):Tups H H':=fun p xs q=>k.k p _ (fun e=>by
 obtain⟨_,_,_,h1,_⟩:=h
 rw[e,h1]at q
 cases q) q
end
def yz(K:ub):Sp:=fun vs H Q _=>∃(st:Addr)(m:Int)(B:Nat),vs=[.ref st,.int m]/\Sta K H st B/\B < LIM/\0 < m/\∀(H':Hp)(r:Int),Kp st H H'->Sta K H' st (B+1)->0<=r->r < m->Q (.int r) H'
def LET:Str:="abcdefghijklmnopqrstuvwxyz"
theorem zca:cl LET=(uC 26).map (97 + ·):=by decide +kernel
def lt(i:Nat):Str:=sg (97+i)
theorem zcb{i:Nat}(h:i < 26):atI LET.cps.toList (i:Int)=some (97+i):=by
 refine zN ?_
 show(cl LET)[i]?=_
 rw[zca,ue,tH h]
 rfl
theorem Zd{m:Int}(h0:0<=m)(h:m < 26):atI LET.cps.toList m=some (97+m.toNat):=by
 have e:=zcb (i:=m.toNat) (by lia)
 rw[UZ h0]at e
 exact e
theorem Ze:LET.length=26:=by decide +kernel
def core(k:Nat):Str:=lt (k / 2 % 26)++("z":Str)++lt (k / 52 % 26)
def ys(k:Nat):Str:=Txt.mul "y" ((k % 2:Nat):Int)
def nm(z:Str)(b:Bool)(k:Nat):Str:=if b=true then core k++z++ys k else ys k++z++core k
theorem w9(k:Nat):cl (core k)=[97+k / 2 % 26,122,97+k / 52 % 26]:=by
 unfold core
 rw[yD,yD]
 rfl
theorem VO(k:Nat):(core k).length=3:=by rw[<- xt,w9];rfl
theorem zcc(k:Nat):(ys k).length<=1:=by
 have h:=QN (z:="y") (n:=((k % 2:Nat):Int)) rfl
 unfold ys
 lia
theorem XB(a b:Str):(a++b).length=a.length+b.length:=by rw[<- xt,yD,uf,xt,xt]
def spNm:Sp:=fun vs H Q _=>∃(p:Addr)(z:Str)(b:Bool)(xs:List V)(k:Nat),vs=[.ref p,.int (k:Nat)]/\H p=some (.lst (.str z::.bl b::xs))/\z.length<=6/\Q (.str (nm z b k)) H
def So(l:List Int):Prop:=∀x∈l,0<=x/\x<=2
theorem So.app{a b:List Int}(h:So a)(g:So b):So (a++b):=fun x hx=>(uE.mp hx).elim (h x) (g x)
theorem So.nil:So []:=fun x hx=>by cases hx
def XC(K:ub):Sp:=fun vs H Q _=>∃(st:Addr)(l m:Nat)(B:Nat),vs=[.ref st,.int (l:Nat),.int (m:Nat)]/\l<=m/\m<=9/\Sta K H st B/\B+11 < LIM/\∀(H':Hp)(p:Addr)(l:List Int),Kp st H H'->Sta K H' st (B+11)->H p=none->l.length<=m->So l->H' p=some (.lst (l.map V.int))->Q (.ref p) H'
section
variable{P:Program}{w:World}{K:ub}{mg:Str->Option Value}{base:Heap}{f:Addr}{fd:FuncData}
theorem scDraw:FnScope ["_law_state","_law_many","_law_k","_law_cell"] lS2 (zo VH):=.ok
theorem QP(F:Fun K "_law_draw" "_law_draw" VH f fd)(m_len:mg "len"=none):FnOk P w K mg base CX0 1 f fd lS2 (yz K):=by
 refine F.by scDraw (fun vs H Q E h=>?_) (fun cdv A outer s H vs Q E hr h=>?_)
 ·obtain⟨st,m,B,rfl,_⟩:=h
  rfl
 obtain⟨st,m,B,rfl,⟨a,ns,k,hst,hne,hS,hk⟩,hB,hm,q⟩:=h
 refine⟨_,
  (zg (sE 2 scDraw.nd (xL 0))
  (zg (yV (zx zU (jv 2) zj) (XA (jv 0) zj))
  (zg (zy (tN wU (jv 2) (jL m_len (xL 0)))
   (zh (zq (zx xf (xX zI (xL 0) (jv 2)) (jv 1)))) zt)
  (zg (sE 3 scDraw.nd (zx zU (zx j1 (jv 2) zj) zj))
  (zg (zy (tN jo (jL m_len (xL 0)) zj)
   (zh (sE 3 scDraw.nd (zx zU (jv 3) (zx j1 (xX zI (xL 0) (zx xf (zx j1 (jv 2) zj) (jL m_len (xL 0)))) (zx zU zj (jv 2)))))) zt)
  (zh (zq (zx xf (zx xf (jv 3) zj) (jv 1))))))))),?_⟩
 refine⟨_,rfl,ixL hst aI1 ?_⟩
 refine⟨_,rfl,_,_,rfl,rfl,_,rfl,st,_,1,1,rfl,rfl,hst,rfl,?_⟩
 have kp:Kp st H (upd H st (.lst [.ref a,.int ((k+1:Nat):Int)])):=⟨fun b u n h=>by rw[zi n];exact h,fun x y h=>by
  rw[hst]at h
  cases h
  exact⟨_,upd_same⟩⟩
 have hst1:=upd_same (H:=H) (a:=st) (o:=.lst [.ref a,.int ((k+1:Nat):Int)])
 have hS1:SqL K (upd H st (.lst [.ref a,.int ((k+1:Nat):Int)])) a (ns.map V.int):=by
  by_cases e:a=st
  ·exact hne e _
  ·exact kp.seq e hS
 have fin:∀r:Int,0<=r->r < m->Q (.int r) (upd H st (.lst [.ref a,.int ((k+1:Nat):Int)])):=fun r h0 h1=>q _ r kp ⟨a,ns,k+1,hst1,hne,hS1,by lia⟩ h0 h1
 show(tSeq _ _:TS) _ _ (upd H st (.lst [.ref a,.int ((k+1:Nat):Int)]))
 generalize upd H st (.lst [.ref a,.int ((k+1:Nat):Int)])=H1 at *
 have ix0:atI [V.ref a,V.int ((k+1:Nat):Int)] 0=some (.ref a):=aI0
 have mm:∀x:Int,0<=x % m/\x % m < m:=fun x=>⟨Int.emod_nonneg x (by lia),Int.emod_lt_of_pos x hm⟩
 refine⟨_,rfl,_,rfl,st,_,_,_,rfl,rfl,SqL.of hst1,ix0,_,_,rfl,.inl hS1,_,_,rfl,rfl,_,rfl,?_⟩
 rw[ua]
 refine ite2 (fun c=>?_) (fun c=>?_)
 ·rw[decide_eq_true_eq]at c
  have hi:k < ns.length:=by lia
  have hx:(ns.map V.int)[k]?=some (.int ns[k]):=by rw[ue,ui hi];rfl
  exact⟨_,rfl,st,_,_,_,rfl,rfl,SqL.of hst1,ix0,_,rfl,a,_,_,_,rfl,rfl,hS1,zN hx,_,rfl,_,_,rfl,rfl,hm,fin _ (mm _).1 (mm _).2⟩
 ·refine⟨_,rfl,_,_,rfl,rfl,.inr ⟨by decide,by decide⟩,_,_,rfl,rfl,?_⟩
  have tail:∀(c:Int)(D:Ends),D.rt=Q->(tRet (tOp (rI (fun _ j=>0 < j) fun i j=>V.int (i % j)) (tOp (rI (fun _ j=>0 < j) fun i j=>V.int (i % j)) (tVar 3) (tC (.int 2147483629))) (tVar 1)):TS) D [some (.ref st),some (.int m),some (.int (k:Nat)),some (.int c)] H1:=fun c D e=>by
   refine⟨_,rfl,_,_,rfl,rfl,(by show(0:Int) < _;decide),_,rfl,_,_,rfl,rfl,hm,?_⟩
   rw[e]
   exact fin _ (mm _).1 (mm _).2
  refine⟨_,rfl,st,_,_,_,rfl,rfl,SqL.of hst1,ix0,_,_,rfl,.inl hS1,_,_,rfl,rfl,_,rfl,?_⟩
  rw[ua]
  refine ite2 (fun c2=>?_) (fun c2=>tail _ _ rfl)
  rw[decide_eq_true_eq]at c2
  have hl:(0:Int) < (ns.length:Nat):=by lia
  have c0:=Int.emod_nonneg ((k:Nat)*7:Int) (show((ns.length:Nat):Int)≠0 by lia)
  have c1:=Int.emod_lt_of_pos ((k:Nat)*7:Int) hl
  have hi:(((k:Nat)*7:Int) % (ns.length:Nat)).toNat < ns.length:=by lia
  have hx:(ns.map V.int)[(((k:Nat)*7:Int) % (ns.length:Nat)).toNat]?=some (.int ns[(((k:Nat)*7:Int) % (ns.length:Nat)).toNat]):=by rw[ue,ui hi];rfl
  have hx2:atI (ns.map V.int) (((k:Nat)*7:Int) % (ns.length:Nat))=some (.int ns[(((k:Nat)*7:Int) % (ns.length:Nat)).toNat]):=by
   have e:=zN hx
   rw[UZ c0]at e
   exact e
  refine⟨_,rfl,_,rfl,st,_,_,_,rfl,rfl,SqL.of hst1,ix0,_,rfl,_,_,rfl,rfl,.inr ⟨by decide,by decide⟩,_,rfl,st,_,_,_,rfl,rfl,SqL.of hst1,ix0,_,_,rfl,.inl hS1,_,_,rfl,rfl,(by rw[ua];exact hl),?_⟩
  refine⟨a,_,_,_,rfl,rfl,hS1,(by rw[ua];exact hx2),_,rfl,_,_,rfl,rfl,_,_,rfl,rfl,.inr ⟨by show -(2 ^ 64) < (48271+(k:Nat):Int);lia,by show(48271+(k:Nat):Int) < 2 ^ 64;unfold LIM at hB;lia⟩,_,_,rfl,rfl,tail _ _ rfl⟩
theorem scNm:FnScope ["_law_world_here","_law_k","_law_letters","_law_core"] lS4 (zo sNm):=.ok
theorem zc9(F:Fun K "_law_name" "_law_name" sNm f fd):FnOk P w K mg base CX0 1 f fd lS4 spNm:=by
 refine F.by scNm (fun vs H Q E h=>?_) (fun cdv A outer s H vs Q E hr h=>?_)
 ·obtain⟨p,z,b,xs,k,rfl,_⟩:=h
  rfl
 obtain⟨p,z,b,xs,k,rfl,hp,hz,q⟩:=h
 refine⟨_,
  (zg (sE 2 scNm.nd zp)
  (zg (sE 3 scNm.nd (zx yB (zx yB (xX YB (jv 2) (zx xf (zx xc (jv 1) zj) zj)) zp) (xX YB (jv 2) (zx xf (zx xc (jv 1) zj) zj))))
  (zg (zy (yI (xL 0))
   (zh (zq (zx yB (zx yB (jv 3) (xL 0)) (zx vv zp (zx xf (jv 1) zj))))) zt)
  (zh (zq (zx yB (zx yB (zx vv zp (zx xf (jv 1) zj)) (xL 0)) (jv 3))))))),?_⟩
 have sl:=zF
 have e1:((k:Nat):Int) / 2 % 26=((k / 2 % 26:Nat):Int):=by lia
 have e2:((k:Nat):Int) / 52 % 26=((k / 52 % 26:Nat):Int):=by lia
 have e3:((k:Nat):Int) % 2=((k % 2:Nat):Int):=by lia
 have cl3:=VO k
 have yl:=zcc k
 have ec:(⟨#[97+(((k:Nat):Int) / 2 % 26).toNat]⟩:Str)++("z":Str)++(⟨#[97+(((k:Nat):Int) / 52 % 26).toNat]⟩:Str)=core k:=by
  rw[e1,e2]
  rfl
 suffices rest:∀c3:Str,c3=core k->(tSeq _ _:TS) { nx:=fun _ H'=>Q .non H',rt:=Q } [some (.ref p),some (.int (k:Nat)),some (.str LET),some (.str c3)] H by
  exact⟨_,rfl,_,rfl,_,_,rfl,rfl,⟨by decide,by decide⟩,_,_,rfl,rfl,(by show(0:Int) < _;decide),LET,_,_,rfl,rfl,by rw[Ze];decide,Zd (by lia) (by lia),_,_,rfl,rfl,by show 1+1<=sizeLine;decide,_,rfl,_,rfl,_,_,rfl,rfl,⟨by decide,by decide⟩,_,_,rfl,rfl,(by show(0:Int) < _;decide),LET,_,_,rfl,rfl,by rw[Ze];decide,Zd (by lia) (by lia),_,_,rfl,rfl,by show 2+1<=sizeLine;decide,rest _ ec⟩
 rintro _ rfl
 have mo:MulOk "y" (((k % 2:Nat):Int)):=zb8 rfl (by lia) (by lia)
 refine⟨_,rfl,ixL hp aI1 ⟨_,rfl,?_⟩⟩
 unfold nm at q
 cases b with
 |true =>
  rw[if_pos rfl]at q
  refine iteT ?_
  refine⟨_,rfl,_,rfl,ixL hp aI0 ⟨_,_,rfl,rfl,by lia,_,rfl,_,_,rfl,rfl,(by show(0:Int) < _;decide),_,_,rfl,rfl,by rw[e3];exact mo,?_⟩⟩
  rw[e3]
  exact⟨_,_,rfl,rfl,by rw[XB];show(core k).length+z.length+(ys k).length<=_;lia,q⟩
 |false =>
  rw[if_neg (by decide)]at q
  refine iteF ?_
  refine⟨_,rfl,_,_,rfl,rfl,(by show(0:Int) < _;decide),_,_,rfl,rfl,by rw[e3];exact mo,?_⟩
  rw[e3]
  refine⟨_,rfl,ixL hp aI0 ⟨_,_,rfl,rfl,by show(ys k).length+z.length<=_;lia,_,rfl,_,_,rfl,rfl,by show(Txt.mul "y" (((k % 2:Nat):Int))++z).length+(core k).length<=_;rw[XB];show(ys k).length+z.length+(core k).length<=_;lia,q⟩⟩
theorem QQ:FnScope lS14 lS14 (zo YH):=.ok
theorem QR:(["_law_state","_law_least","_law_most","_law_k"]:List Str).Nodup:=by decide +kernel
theorem VP(F:Fun K "_law_sorts" "_law_sorts" YH f fd)(GD:Ca P w K mg base CX0 1 "_law_draw" lS2 (yz K))(m_range:mg "range"=none):FnOk P w K mg base CX0 2 f fd lS14 (XC K):=by
 refine F.by QQ (fun vs H Q E h=>?_) (fun cdv A outer s H vs Q E hr h=>?_)
 ·obtain⟨st,l,m,B,rfl,_⟩:=h
  rfl
 obtain⟨st,l,m,B,rfl,hlm,hm,hS,hB,q⟩:=h
 refine⟨_,
  (zh (zq (yp ["_law_k"] rfl (zV rfl m_range (jA1 (zx zU (jv 1) (cA GD hr (jA2 (jv 0) (zx yr (zx zU (jv 2) zj) (jv 1))))))) (fun _ _ _ _ _=>(gN 3 QR)) (fun _ _ _ _ _=>zT) (fun _ _ _ _ _=>(cA GD hr (jA2 (jv 0) zj)))))),?_⟩
 have sl:=zF
 refine⟨_,rfl,_,rfl,_,rfl,_,_,rfl,rfl,_,rfl,_,_,rfl,rfl,st,_,B,rfl,hS,by lia,by lia,fun H1 r k1 S1 r0 r1=>?_⟩
 refine⟨_,_,rfl,rfl,_,rfl,by lia,by lia,yx (n:=(((l:Nat):Int)+r).toNat) (fun i τ ys H'=>Kp st H H'/\Sta K H' st (B+1+i)/\(∃x,τ=[some (.ref st),some (.int (l:Nat)),some (.int (m:Nat)),x])/\∃ns:List Int,ys=ns.map V.int/\ns.length=i/\So ns) ⟨k1,S1,⟨none,rfl⟩,[],rfl,rfl,.nil⟩ ?_ ?_⟩
 ·rintro i τ ys H2 hi ⟨k2,S2,⟨x,rfl⟩,ns,rfl,hl,hso⟩
  refine⟨_,rfl,st,3,B+1+i,rfl,S2,by lia,by decide,fun H3 r3 k3 S3 q0 q1=>⟨by rw[ua];lia,k2.trans k3,S3,⟨_,rfl⟩,ns++[r3],by simp,by simp[hl],hso.app fun x hx=>by rw[uj.mp hx];exact⟨q0,by lia⟩⟩⟩
 ·rintro τ ys H2 ⟨k2,S2,_,ns,rfl,hl,hso⟩ p hp
  exact q _ p ns (k2.new hp) ((S2.mono (by lia)).new hp _) (k2.free (S2.ne hp) hp) (by lia) hso upd_same
theorem ZV:∀{zs:List Str},(∀z∈zs,z.length=1)->(Str.join "" zs).length=zs.length
 |[],_=>rfl
 |[x],h=>h x uK
 |x::y::r,h=>by
  have ih:=ZV (zs:=y::r) fun z hz=>h z (uD _ hz)
  rw[<- xt,j7,uf,uf,xt,xt,xt,ih,h x uK]
  show 1+(0+(y::r).length)=(y::r).length+1
  lia
theorem VQ{zs:List Str}(h:∀z∈zs,z.length=1):wide "" zs=zs.length:=by
 unfold wide
 have e:∀{l:List Str},(∀z∈l,z.length=1)->(l.map (·.length)).sum=l.length:=by
  intro l
  induction l with
  |nil=>intro _;rfl
  |cons a l ih=>intro h;rw[uH,Uu,ih fun z hz=>h z (uD _ hz),h a uK,ul];lia
 rw[e h]
 rfl
abbrev TS3:=List (Str×List Int×Int)
inductive Tri(H:Hp):TS3->List Addr->Prop
 |nil:Tri H [] []
 |cons {z:Str} {s:List Int} {k:Int} {t q:Addr} {l:TS3} {ts:List Addr}:H t=some (.tup [.str z,.ref q,.int k])->H q=some (.lst (s.map V.int))->Tri H l ts->Tri H ((z,s,k)::l) (t::ts)
theorem Tri.keep{H H':Hp}{l:TS3}{ts:List Addr}(h:Tri H l ts)(t:Tups H H')(i:∀q (s:List Int),H q=some (.lst (s.map V.int))->H' q=some (.lst (s.map V.int))):Tri H' l ts:=by
 induction h with
 |nil=>exact .nil
 |cons a b _ ih=>exact .cons (t _ _ a) (i _ _ b) ih
theorem Tri.kp{K:ub}{st:Addr}{B:Nat}{H H':Hp}{l:TS3}{ts:List Addr}(h:Tri H l ts)(S:Sta K H st B)(k:Kp st H H'):Tri H' l ts:=h.keep (k.tups S) fun q s e=>k.k _ _ (S.neI e) e
theorem Tri.app{H:Hp}{a b:TS3}{p q:List Addr}(h:Tri H a p)(g:Tri H b q):Tri H (a++b) (p++q):=by
 induction h with
 |nil=>exact g
 |cons x y _ ih=>exact .cons x y ih
theorem Tri.len{H:Hp}{l:TS3}{ts:List Addr}(h:Tri H l ts):l.length=ts.length:=by
 induction h with
 |nil=>rfl
 |cons _ _ _ ih=>rw[ul,ul,ih]
theorem Tri.get{H:Hp}:∀{l:TS3}{ts:List Addr}{i:Nat}{t:Addr},Tri H l ts->ts[i]?=some t->∃z s k q,l[i]?=some (z,s,k)/\H t=some (.tup [.str z,.ref q,.int k])/\H q=some (.lst (s.map V.int))
 |_,_,_,_,.nil,e=>by simp at e
 |_,_,0,_,.cons a b _,e=>by
  simp at e
  subst e
  exact⟨_,_,_,_,rfl,a,b⟩
 |_,_,i+1,_,.cons _ _ c,e=>by
  obtain⟨z,s,k,q,h1,h2⟩:=Tri.get (i:=i) c (by simpa using e)
  exact⟨z,s,k,q,by simpa using h1,h2⟩
structure Wo where
 z:Str
 b:Bool
 tags:TS3
 defs:TS3
structure WOk(o:Wo):Prop where
 z:o.z.length<=6
 tn:o.tags.map (·.1)=(uC 4).map (nm o.z o.b)
 tk:o.tags.map (·.2.2)=[1,1,1,2]
 ts:∀p∈o.tags,p.2.1.length<=9/\So p.2.1
 dn:o.defs.map (·.1)=(uC 3).map fun k=>nm o.z o.b (2-k)
 ds:∀p∈o.defs,p.2.1.length<=3/\So p.2.1/\0<=p.2.2/\p.2.2<=2
structure IsW(H:Hp)(o:Wo)(w:Addr):Prop where
 ex:∃(tl dl:Addr)(ts ds:List Addr),H w=some (.lst [.str o.z,.bl o.b,.ref tl,.ref dl])/\H tl=some (.lst (ts.map V.ref))/\H dl=some (.lst (ds.map V.ref))/\Tri H o.tags ts/\Tri H o.defs ds
 ok:WOk o
theorem IsW.kp{K:ub}{st w:Addr}{B:Nat}{H H':Hp}{o:Wo}(h:IsW H o w)(S:Sta K H st B)(k:Kp st H H'):IsW H' o w:=by
 obtain⟨⟨tl,dl,ts,ds,h1,h2,h3,h4,h5⟩,ok⟩:=h
 exact⟨⟨tl,dl,ts,ds,k.k _ _ (S.neW h1) h1,k.k _ _ (S.neR h2) h2,k.k _ _ (S.neR h3) h3,h4.kp S k,h5.kp S k⟩,ok⟩
theorem IsW.same{w:Addr}{H H':Hp}{o:Wo}(h:IsW H o w)(s:Same H H'):IsW H' o w:=by
 obtain⟨⟨tl,dl,ts,ds,h1,h2,h3,h4,h5⟩,ok⟩:=h
 exact⟨⟨tl,dl,ts,ds,s _ _ h1,s _ _ h2,s _ _ h3,h4.keep (.of s) (fun _ _ e=>s _ _ e),h5.keep (.of s) (fun _ _ e=>s _ _ e)⟩,ok⟩
theorem WOk.tlen{o:Wo}(h:WOk o):o.tags.length=4:=by
 have e:=congrArg Tb h.tk
 rw[ua]at e
 exact e
theorem WOk.dlen{o:Wo}(h:WOk o):o.defs.length=3:=by
 have e:=congrArg Tb h.dn
 rw[ua,ua,Uw]at e
 exact e
def XD(K:ub):Sp:=fun vs H Q _=>∃(st:Addr)(B:Nat),vs=[.ref st]/\Sta K H st B/\B+200 < LIM/\∀(H':Hp)(w:Addr)(o:Wo),Kp st H H'->Sta K H' st (B+200)->IsW H' o w->Q (.ref w) H'
theorem Wm(k:Nat):(uT k [V.int 0]).flatten=(uT k (0:Int)).map V.int:=by
 induction k with
 |zero=>rfl
 |succ k ih=>rw[UC,tL,ih,UC,uH];rfl
theorem YS{H:Hp}:∀(nf:Nat->Str)(R:Nat->List Int->Int->Prop)(ts:List Addr),(∀k t,ts[k]?=some t->∃q s g,H t=some (.tup [.str (nf k),.ref q,.int g])/\H q=some (.lst (s.map V.int))/\R k s g)->∃l:TS3,Tri H l ts/\l.length=ts.length/\∀k p,l[k]?=some p->p.1=nf k/\R k p.2.1 p.2.2
 |_,_,[],_=>⟨[],.nil,rfl,fun k p h=>by simp at h⟩
 |nf,R,t::ts,h=>by
  obtain⟨q,s,g,h1,h2,h3⟩:=h 0 t rfl
  obtain⟨l,a,b,c⟩:=YS (fun k=>nf (k+1)) (fun k=>R (k+1)) ts fun k u hu=>h (k+1) u (by simpa using hu)
  refine⟨(nf 0,s,g)::l,.cons h1 h2 a,by rw[ul,ul,b],fun k p hp=>?_⟩
  cases k with
  |zero =>
   simp at hp
   subst hp
   exact⟨rfl,h3⟩
  |succ k=>exact c k p (by simpa using hp)
theorem names_of{α β:Type}{f:α->β}{g:Nat->β}{l:List α}{n:Nat}(hl:l.length=n)(h:∀k p,l[k]?=some p->f p=g k):l.map f=(uC n).map g:=by
 apply List.ext_getElem?
 intro k
 rw[ue,ue]
 rcases Nat.lt_or_ge k n with c|c
 ·rw[tH c,ui (by lia)]
  simp[h k _ (ui (by lia))]
 ·rw[List.getElem?_eq_none (by lia),List.getElem?_eq_none (by simp;lia)]
  rfl
theorem scWorld:FnScope ["_law_state","_law_letters","_law_stem","_law_world_here","_law_more","_law_some","_law_k"] ["_law_state"] (zo YI):=.ok
theorem VR(F:Fun K "_law_world" "_law_world" YI f fd)(GD:Ca P w K mg base CX0 1 "_law_draw" lS2 (yz K))(GN':Ca P w K mg base CX0 1 "_law_name" lS4 spNm)(GS:Ca P w K mg base CX0 2 "_law_sorts" lS14 (XC K))(m_range:mg "range"=none):FnOk P w K mg base CX0 3 f fd ["_law_state"] (XD K):=by
 refine F.by scWorld (fun vs H Q E h=>?_) (fun cdv A outer s H vs Q E hr h=>?_)
 ·obtain⟨st,B,rfl,_⟩:=h
  rfl
 obtain⟨st,B,rfl,S0,hB,q⟩:=h
 have hr1:Room 1 _:=hr.mono (by decide)
 refine⟨_,
  (zg (sE 1 scWorld.nd zp)
  (zg (sE 2 scWorld.nd (yu PySem.F.plainAttrs_str PySem.F.slot_str_join PySem.F.type_str_join QE zp (jA1 (Vh [6] [] rfl (zV rfl m_range (jA1 (cA GD hr1 (jA2 (jv 0) zj)))) (fun _ _ _ _ _=>(gN 6 scWorld.nd)) (fun _ _ _ _ _=>zT) (fun _ _ _ _ _=>(xX YB (jv 1) (cA GD hr1 (jA2 (jv 0) zj))))))))
  (zg (sE 3 scWorld.nd (zB (jA4 (jv 2) (xa zA (cA GD hr1 (jA2 (jv 0) zj)) zj (wy _)) (zB zE) (zB zE))))
  (zg (sE 4 scWorld.nd (zx zb9 (zB (jA1 zj)) (zx j1 (zx xc (cA GD hr1 (jA2 (jv 0) zj)) zj) (cA GD hr1 (jA2 (jv 0) zj)))))
  (zg (sE 5 scWorld.nd (zB (jA4 (zB zE) (zx yP (cA GS hr (jA3 (jv 0) zj zj)) (jv 4)) (cA GS hr (jA3 (jv 0) zj zj)) (zx yP (cA GS hr (jA3 (jv 0) zj zj)) (jv 4)))))
  (zg (zK PassesOwn.never rfl (zV rfl m_range (jA1 zj)) (gN 6 scWorld.nd)
   (zh (zD (yu uz uI uJ zH (xL 3) (jA1 (zu (jA3 (cA GN' hr1 (jA2 (jv 3) (jv 6))) (xX zI (jv 5) (jv 6)) (zx zU zj (zx xc (jv 6) zj)))))))))
  (zg (zK PassesOwn.never rfl (zV rfl m_range (jA1 zj)) (gN 6 scWorld.nd)
   (zh (zD (yu uz uI uJ zH (xL 3) (jA1 (zu (jA3 (cA GN' hr1 (jA2 (jv 3) (zx yr zj (jv 6)))) (cA GS hr (jA3 (jv 0) zj zj)) (cA GD hr1 (jA2 (jv 0) zj)))))))))
  (zh (zq (jv 3)))))))))),?_⟩
 have sl:=zF
 unfold LIM at hB
 have LM:LIM=4611686018427387904:=rfl
 refine cut5 fun r1_ hr1_=>?_
 refine⟨rfl,_,rfl,st,7,B,rfl,S0,by lia,by decide,fun H1 r k1 S1 r0 r1=>?_⟩
 refine⟨_,rfl,by lia,by lia,yx (n:=r.toNat) (fun i τ ys H'=>Kp st H H'/\Sta K H' st (B+1+i)/\(∃x,τ=[some (.ref st),some (.str LET),none,none,none,none,x])/\∃zs:List Str,ys=zs.map V.str/\zs.length=i/\∀z∈zs,z.length=1) ⟨k1,S1,⟨none,rfl⟩,[],rfl,rfl,fun z hz=>by cases hz⟩ ?_ ?_⟩
 ·rintro i τ ys H2 hi ⟨k2,S2,⟨x,rfl⟩,zs,rfl,hl,h1⟩
  refine⟨_,rfl,_,rfl,st,26,B+1+i,rfl,S2,by lia,by decide,fun H3 r3 k3 S3 q0 q1=>?_⟩
  refine⟨LET,_,_,rfl,rfl,by rw[Ze];decide,Zd q0 q1,by rw[ua];lia,k2.trans k3,S3,⟨_,rfl⟩,zs++[⟨#[97+r3.toNat]⟩],by simp,by simp[hl],?_⟩
  intro z hz
  rcases uE.mp hz with hz|hz
  ·exact h1 z hz
  ·rw[uj.mp hz]
   rfl
 rintro τ ys H2 ⟨k2,S2,_,zs,rfl,hl,h1⟩ pj hpj
 refine⟨"",pj,zs,rfl,rfl,SqL.of upd_same,by rw[VQ h1];lia,?_⟩
 have zl:(Str.join "" zs).length<=6:=by rw[ZV h1];lia
 replace k2:=k2.new (o:=.lst (zs.map V.str)) hpj
 replace S2:=(S2.mono (show _<=B+7 by lia)).new hpj (.lst (zs.map V.str))
 generalize upd H2 pj (.lst (zs.map V.str))=H3 at *
 generalize Str.join "" zs=z at *
 refine⟨_,rfl,_,rfl,st,2,B+7,rfl,S2,by lia,by decide,fun H4 r4 k4 S4 _ _=>?_⟩
 refine⟨rfl,sN0,fun tl h5=>⟨sN0,fun dl h6=>⟨sN4,fun w0 h7=>?_⟩⟩⟩
 generalize decide (V.int r4=V.int 1)=b at *
 have ntl:=S4.ne h5
 have S5:=S4.new h5 (.lst [])
 have ndl:=S5.ne h6
 have S6:=S5.new h6 (.lst [])
 have nw0:=S6.ne h7
 have S7:=S6.new h7 (.lst [.str z,.bl b,.ref tl,.ref dl])
 have ntd:tl≠dl:=zk (upd_same (H:=H4) (a:=tl) (o:=.lst [])) h6
 have htl:upd (upd (upd H4 tl (.lst [])) dl (.lst [])) w0 (.lst [.str z,.bl b,.ref tl,.ref dl]) tl=some (.lst []):=old h7 (old h6 upd_same)
 have hdl:upd (upd (upd H4 tl (.lst [])) dl (.lst [])) w0 (.lst [.str z,.bl b,.ref tl,.ref dl]) dl=some (.lst []):=old h7 upd_same
 have hw0:upd (upd (upd H4 tl (.lst [])) dl (.lst [])) w0 (.lst [.str z,.bl b,.ref tl,.ref dl]) w0=some (.lst [.str z,.bl b,.ref tl,.ref dl]):=upd_same
 have k7:Kp st H (upd (upd (upd H4 tl (.lst [])) dl (.lst [])) w0 (.lst [.str z,.bl b,.ref tl,.ref dl])):=(((k2.trans k4).new h5).new h6).new h7
 have f_tl:H tl=none:=(k2.trans k4).free ntl h5
 have f_dl:H dl=none:=(k2.trans k4).free ndl (by rw[<- zi (H:=H4) (a:=tl) (o:=.lst []) ntd.symm];exact h6)
 clear h5 h6 h7 S5 S6 k4 S4
 generalize upd (upd (upd H4 tl (.lst [])) dl (.lst [])) w0 (.lst [.str z,.bl b,.ref tl,.ref dl])=H5 at *
 refine⟨sN1,fun m0 h8=>?_⟩
 have S8:=S7.new h8 (.lst [.int 0])
 have nm0:=S7.ne h8
 refine⟨_,rfl,st,6,_,rfl,S8,by lia,by decide,fun H9 r9 k9 S9 q0 q1=>⟨_,_,rfl,rfl,⟨by decide,by decide⟩,_,rfl,st,7,_,rfl,S9,by lia,by decide,fun H10 r10 k10 S10 q2 q3=>?_⟩⟩
 have hmul:0<=r9 / 5*r10/\r9 / 5*r10<=6:=by
  have:r9 / 5=0\/r9 / 5=1:=by lia
  rcases this with e|e<;>rw[e]<;>lia
 have hm0:=(k9.trans k10).k _ _ nm0 (upd_same (H:=H5) (a:=m0) (o:=.lst [.int 0]))
 refine⟨_,_,rfl,rfl,.inl ⟨by lia,by lia⟩,m0,_,_,rfl,rfl,hm0,by lia,by lia,by show 1*_<=_;lia,fun pm h11=>?_⟩
 rw[Wm]
 generalize hz9:uT (r9 / 5*r10).toNat (0:Int)=zr
 have ozr:So zr:=by
  intro x hx
  rw[<- hz9]at hx
  rw[List.eq_of_mem_replicate hx]
  exact⟨by decide,by decide⟩
 have hzr:zr.length<=6:=by rw[<- hz9,UE];lia
 have k11:Kp st H5 (upd H10 pm (.lst (zr.map V.int))):=(((Kp.refl.new h8).trans k9).trans k10).new h11
 have S11:=S10.new h11 (.lst (zr.map V.int))
 have hpm:=upd_same (H:=H10) (a:=pm) (o:=.lst (zr.map V.int))
 clear hm0 h11 S10 S9 S8 k9 k10 h8
 generalize upd H10 pm (.lst (zr.map V.int))=H6 at *
 replace htl:=k11.k _ _ ntl htl
 replace hdl:=k11.k _ _ ndl hdl
 replace hw0:=k11.k _ _ nw0 hw0
 replace k11:=k7.trans k11
 refine⟨sN0,fun e0 h12=>?_⟩
 have S12:=S11.new h12 (.lst [])
 have ne0:=S11.ne h12
 refine⟨_,rfl,st,1,3,_,rfl,by decide,by decide,S12,by lia,fun H13 p1 l1 k13 S13 f1 b1 o1 hp1=>?_⟩
 have hpm13:=k13.k _ _ (S12.neI (old h12 hpm)) (old h12 hpm)
 refine⟨_,rfl,p1,pm,_,_,rfl,rfl,hp1,hpm13,by rw[ua,ua];lia,fun c1 h14=>?_⟩
 rw[<- ut]
 have S14:=S13.new h14 (.lst ((l1++zr).map V.int))
 refine⟨_,rfl,st,0,2,_,rfl,by decide,by decide,S14,by lia,fun H15 p2 l2 k15 S15 f2 b2 o2 hp2=>?_⟩
 refine⟨_,rfl,st,1,3,_,rfl,by decide,by decide,S15,by lia,fun H16 p3 l3 k16 S16 f3 b3 o3 hp3=>?_⟩
 have hpm14:=old (o:=.lst ((l1++zr).map V.int)) h14 hpm13
 have hpm15:=k15.k _ _ (S14.neI hpm14) hpm14
 have hpm16:=k16.k _ _ (S15.neI hpm15) hpm15
 refine⟨_,rfl,p3,pm,_,_,rfl,rfl,hp3,hpm16,by rw[ua,ua];lia,fun c3 h17=>?_⟩
 rw[<- ut]
 refine⟨sN4,fun sm h18=>?_⟩
 have S17:=S16.new h17 (.lst ((l3++zr).map V.int))
 have S18:=S17.new h18 (.lst [.ref e0,.ref c1,.ref p2,.ref c3])
 have k18:Kp st H6 (upd (upd H16 c3 (.lst ((l3++zr).map V.int))) sm (.lst [.ref e0,.ref c1,.ref p2,.ref c3])):=((((((Kp.refl.new h12).trans k13).new h14).trans k15).trans k16).new h17).new h18
 have he0:=(((((k13.new h14).trans k15).trans k16).new h17).new (o:=.lst [.ref e0,.ref c1,.ref p2,.ref c3]) h18).k _ _ ne0 (upd_same (H:=H6) (a:=e0) (o:=.lst []))
 have hc1:=(((k15.trans k16).new h17).new (o:=.lst [.ref e0,.ref c1,.ref p2,.ref c3]) h18).k c1 _ (S13.ne h14) (upd_same (H:=H13) (a:=c1) (o:=.lst ((l1++zr).map V.int)))
 have hp2':=((k16.new h17).new (o:=.lst [.ref e0,.ref c1,.ref p2,.ref c3]) h18).k _ _ (S15.neI hp2) hp2
 have hc3:=old (o:=.lst [.ref e0,.ref c1,.ref p2,.ref c3]) h18 (upd_same (H:=H16) (a:=c3) (o:=.lst ((l3++zr).map V.int)))
 have hsm:=upd_same (H:=upd H16 c3 (.lst ((l3++zr).map V.int))) (a:=sm) (o:=.lst [.ref e0,.ref c1,.ref p2,.ref c3])
 have k13':=(Kp.refl.new (o:=.lst []) h12).trans k13
 have k16':=((k13'.new (o:=.lst ((l1++zr).map V.int)) h14).trans k15).trans k16
 have apart:∀p,p≠st->H6 p=some (.lst [])->p≠e0/\p≠c1/\p≠p2/\p≠c3/\p≠sm:=fun p n hp=>by
  have g13:=k13'.k _ _ n hp
  have g16:=k16'.k _ _ n hp
  exact⟨zk hp h12,zk g13 h14,zk (old h14 g13) f2,zk g16 h17,zk (old h17 g16) h18⟩
 obtain⟨nt0,nt1,nt2,nt3,nts⟩:=apart tl ntl htl
 obtain⟨nd0,nd1,nd2,nd3,nds⟩:=apart dl ndl hdl
 replace htl:=k18.k _ _ ntl htl
 replace hdl:=k18.k _ _ ndl hdl
 replace hw0:=k18.k _ _ nw0 hw0
 have kA:=k11.trans k18
 have nwt:w0≠tl:=yN hw0 htl (by intro e;cases e)
 have nwd:w0≠dl:=yN hw0 hdl (by intro e;cases e)
 replace S18:=S18.mono (show _<=B+43 by lia)
 have n0s:=ne0
 have n1s:=S18.neI hc1
 have n2s:=S18.neI hp2'
 have n3s:=S18.neI hc3
 have nss:=S18.neR (ts:=[e0,c1,p2,c3]) hsm
 clear hp1 hpm13 hp3 hpm16 hpm15 hpm14 hpm hp2 S17 S16 S15 S14 S13 S12 S11 k13' k16' k13 k15 k16 k18 apart S7 k7 k11
 generalize upd (upd H16 c3 (.lst ((l3++zr).map V.int))) sm (.lst [.ref e0,.ref c1,.ref p2,.ref c3])=H0 at *
 let Fx:Hp->Prop:=fun H'=>∀b u,b≠st->b≠tl->b≠dl->H0 b=some u->H' b=some u
 have Fx.kp:∀{H1 H2:Hp},Fx H1->Kp st H1 H2->Fx H2:=fun f k b u n1 n2 n3 h=>k.k _ _ n1 (f b u n1 n2 n3 h)
 have Fx.tl:∀{H1:Hp}{o:HO},Fx H1->Fx (upd H1 tl o):=fun f b u n1 n2 n3 h=>by rw[zi n2];exact f b u n1 n2 n3 h
 have Fx.dl:∀{H1:Hp}{o:HO},Fx H1->Fx (upd H1 dl o):=fun f b u n1 n2 n3 h=>by rw[zi n3];exact f b u n1 n2 n3 h
 let AD:Nat->Addr:=fun k=>if k=0 then e0 else if k=1 then c1 else if k=2 then p2 else c3
 let SS:Nat->List Int:=fun k=>if k=0 then[]else if k=1 then l1++zr else if k=2 then l2 else l3++zr
 have hAD:∀{H':Hp}(k:Nat),Fx H'->H' (AD k)=some (.lst ((SS k).map V.int)):=fun{H'} k fx=>by
  show H' (if k=0 then e0 else if k=1 then c1 else if k=2 then p2 else c3)=some (.lst ((if k=0 then([]:List Int)else if k=1 then l1++zr else if k=2 then l2 else l3++zr).map V.int))
  by_cases c0:k=0
  ·rw[if_pos c0,if_pos c0];exact fx _ _ n0s nt0.symm nd0.symm he0
  ·rw[if_neg c0,if_neg c0]
   by_cases c1:k=1
   ·rw[if_pos c1,if_pos c1];exact fx _ _ n1s nt1.symm nd1.symm hc1
   ·rw[if_neg c1,if_neg c1]
    by_cases c2:k=2
    ·rw[if_pos c2,if_pos c2];exact fx _ _ n2s nt2.symm nd2.symm hp2'
    ·rw[if_neg c2,if_neg c2];exact fx _ _ n3s nt3.symm nd3.symm hc3
 have hSS:∀k,(SS k).length<=9/\So (SS k):=fun k=>by
  show(if k=0 then([]:List Int)else if k=1 then l1++zr else if k=2 then l2 else l3++zr).length<=9/\So (if k=0 then([]:List Int)else if k=1 then l1++zr else if k=2 then l2 else l3++zr)
  split
  ·exact⟨by decide,.nil⟩
  ·split
   ·exact⟨by rw[uf];lia,o1.app ozr⟩
   ·split
    ·exact⟨by lia,o2⟩
    ·exact⟨by rw[uf];lia,o3.app ozr⟩
 have aAD:∀k,k < 4->[V.ref e0,V.ref c1,V.ref p2,V.ref c3][k]?=some (V.ref (AD k)):=fun k hk=>by
  match k,hk with
  |0,_=>rfl
  |1,_=>rfl
  |2,_=>rfl
  |3,_=>rfl
 subst hr1_
 refine⟨_,rfl,by decide,by decide,wx (n:=4) (fun i σ H'=>Fx H'/\Kp st H H'/\Sta K H' st (B+43)/\H' dl=some (.lst [])/\(∃ts:List Addr,H' tl=some (.lst (ts.map V.ref))/\ts.length=i/\∀k t,ts[k]?=some t->H' t=some (.tup [.str (nm z b k),.ref (AD k),.int (1+((k:Nat):Int) / 3)]))/\∃x,σ=[some (.ref st),some (.str LET),some (.str z),some (.ref w0),some (.ref pm),some (.ref sm),x])
  ⟨fun b u _ _ _ h=>h,kA,S18,hdl,⟨[],htl,rfl,fun k t h=>by simp at h⟩,none,rfl⟩ ?_ ?_⟩
 ·rintro i σ H1 hi ⟨fx,kp,S1,hd1,⟨ts,ht1,hl1,hts⟩,x,rfl⟩
  have hw1:=fx _ _ nw0 nwt nwd hw0
  unfold xl
  dsimp only[List.set]
  refine cutD (fun D_ fin=>?_) (fun _ _ h=>h)
  refine⟨_,rfl,ixL hw1 aI2 ⟨.inl ⟨rfl,_,SqL.of ht1⟩,_,rfl,_,rfl,w0,z,b,_,i,(by show[V.ref w0,V.int (0+(i:Nat))]=_;rw[tT]),hw1,zl,?_⟩⟩
  refine⟨_,rfl,_,rfl,sm,_,_,_,rfl,rfl,SqL.of (fx _ _ nss nts.symm nds.symm hsm),(by rw[tT];exact zN (aAD i hi)),_,rfl,_,_,rfl,rfl,⟨by decide,by decide⟩,_,_,rfl,rfl,sN3,fun t ht=>?_⟩
  rw[tT]
  have tp:Tups H1 (upd (upd H1 t (.tup [.str (nm z b i),.ref (AD i),.int (1+((i:Nat):Int) / 3)])) tl (.lst (ts.map V.ref++[.ref t]))):=fun p xs hp=>by
   rw[zi (yN hp ht1 (by intro e;cases e))]
   exact old ht hp
  refine⟨tl,_,_,rfl,rfl,old ht ht1,by rw[ua];lia,fin _ _ ⟨Fx.tl (Fx.kp fx (Kp.refl.new ht)),(kp.new ht).put f_tl,Sta.put S0 f_tl (kp.new ht) (S1.new ht _),?_,⟨ts++[t],by rw[upd_same];simp,by simp[hl1],fun k u hu=>?_⟩,_,rfl⟩⟩
  ·rw[zi ntd.symm]
   exact old ht hd1
  ·rcases Nat.lt_or_ge k ts.length with c|c
   ·rw[uX c]at hu
    exact tp _ _ (hts k u hu)
   ·rw[Ug c]at hu
    have c':k=i:=by
     have:=(uc.mp hu).1
     simp at this
     lia
    subst c'
    rw[hl1,Nat.sub_self]at hu
    simp at hu
    subst hu
    rw[zi (zk ht1 ht).symm]
    exact upd_same
 rintro σ H1 ⟨fx1,kp1,S1,hd1,⟨ts,ht1,hl1,hts⟩,x,rfl⟩
 refine⟨_,rfl,by decide,by decide,wx (n:=3) (fun i σ H'=>Fx H'/\Kp st H H'/\Sta K H' st (B+43+12*i)/\(H' tl=some (.lst (ts.map V.ref))/\∀k t,ts[k]?=some t->H' t=some (.tup [.str (nm z b k),.ref (AD k),.int (1+((k:Nat):Int) / 3)]))/\(∃ds:List Addr,H' dl=some (.lst (ds.map V.ref))/\ds.length=i/\∀k t,ds[k]?=some t->∃(q:Addr)(s:List Int)(g:Int),H' t=some (.tup [.str (nm z b (2-k)),.ref q,.int g])/\H' q=some (.lst (s.map V.int))/\(s.length<=3/\So s/\0<=g/\g<=2)/\q≠dl/\q≠st)/\∃x,σ=[some (.ref st),some (.str LET),some (.str z),some (.ref w0),some (.ref pm),some (.ref sm),x])
  ⟨fx1,kp1,S1,⟨ht1,hts⟩,⟨[],hd1,rfl,fun k t h=>by simp at h⟩,_,rfl⟩ ?_ ?_⟩
 ·rintro i σ H2 hi ⟨fx,kp,S2,⟨ht2,hts2⟩,⟨ds,hd2,hl2,hds⟩,x,rfl⟩
  have hw1:=fx _ _ nw0 nwt nwd hw0
  have e2:(2:Int)-(0+(i:Nat))=((2-i:Nat):Int):=by lia
  unfold xl
  dsimp only[List.set]
  refine cutD (fun D_ fin=>?_) (fun _ _ h=>h)
  refine⟨_,rfl,ixL hw1 aI3 ⟨.inl ⟨rfl,_,SqL.of hd2⟩,_,rfl,_,rfl,_,_,rfl,rfl,w0,z,b,_,2-i,(by show[V.ref w0,V.int (2-(0+(i:Nat)))]=_;rw[e2]),hw1,zl,?_⟩⟩
  refine⟨_,rfl,st,0,3,_,rfl,by decide,by decide,S2,by lia,fun H3 p l k3 S3 f3 b3 o3 hp3=>?_⟩
  refine⟨_,rfl,st,3,_,rfl,S3,by lia,by decide,fun H4 r k4 S4 g0 g1=>⟨sN3,fun t ht=>?_⟩⟩
  have k24:=k3.trans k4
  have hp4:=k4.k _ _ (S3.neI hp3) hp3
  have hd4:=k24.k _ _ ndl hd2
  have ht4:=k24.k _ _ ntl ht2
  have npd:p≠dl:=(zk hd2 f3).symm
  have tp:Tups H2 (upd (upd H4 t (.tup [.str (nm z b (2-i)),.ref p,.int r])) dl (.lst (ds.map V.ref++[.ref t]))):=fun a xs ha=>by
   have g:=k24.tups S2 _ _ ha
   rw[zi (yN g hd4 (by intro e;cases e))]
   exact old ht g
  have kpt:=(kp.trans k24).new (o:=.tup [.str (nm z b (2-i)),.ref p,.int r]) ht
  refine⟨dl,_,_,rfl,rfl,old ht hd4,by rw[ua];lia,fin _ _ ⟨Fx.dl (Fx.kp fx (k24.new ht)),kpt.put f_dl,Sta.put S0 f_dl kpt ((S4.mono (by lia)).new ht _),⟨?_,fun k u hu=>tp _ _ (hts2 k u hu)⟩,⟨ds++[t],by rw[upd_same];simp,by simp[hl2],fun k u hu=>?_⟩,_,rfl⟩⟩
  ·rw[zi ntd]
   exact old ht ht4
  ·rcases Nat.lt_or_ge k ds.length with c|c
   ·rw[uX c]at hu
    obtain⟨q,s,g,h1,h2,h3,h4,h5⟩:=hds k u hu
    exact⟨q,s,g,tp _ _ h1,by rw[zi h4];exact old ht (k24.k _ _ h5 h2),h3,h4,h5⟩
   ·rw[Ug c]at hu
    have c':k=i:=by
     have:=(uc.mp hu).1
     simp at this
     lia
    subst c'
    rw[hl2,Nat.sub_self]at hu
    simp at hu
    subst hu
    exact⟨p,l,r,by rw[zi (zk hd4 ht).symm];exact upd_same,by rw[zi npd];exact old ht hp4,⟨b3,o3,g0,by lia⟩,npd,S3.neI hp3⟩
 rintro σ H2 ⟨fx,kp,S2,⟨ht2,hts2⟩,⟨ds,hd2,hl2,hds⟩,x,rfl⟩
 obtain⟨tags,hT,lT,aT⟩:=YS (H:=H2) (nm z b) (fun k s g=>(s.length<=9/\So s)/\g=1+((k:Nat):Int) / 3) ts fun k t h=>⟨AD k,SS k,_,hts2 k t h,hAD k fx,hSS k,rfl⟩
 obtain⟨defs,hD,lD,aD⟩:=YS (H:=H2) (fun k=>nm z b (2-k)) (fun k s g=>s.length<=3/\So s/\0<=g/\g<=2) ds fun k t h=>by
  obtain⟨q,s,g,h1,h2,h3,_⟩:=hds k t h
  exact⟨q,s,g,h1,h2,h3⟩
 refine⟨_,rfl,q _ w0 ⟨z,b,tags,defs⟩ kp (S2.mono (by lia)) ⟨⟨tl,dl,ts,ds,fx _ _ nw0 nwt nwd hw0,ht2,hd2,hT,hD⟩,?_⟩⟩
 refine⟨zl,names_of (by show tags.length=4;lia) fun k p h=>(aT k p h).1,?_,fun p hp=>?_,names_of (by show defs.length=3;lia) fun k p h=>(aD k p h).1,fun p hp=>?_⟩
 ·have e:([1,1,1,2]:List Int)=(uC 4).map fun k=>1+((k:Nat):Int) / 3:=by decide
  show tags.map (·.2.2)=[1,1,1,2]
  rw[e]
  exact names_of (by lia) fun k p h=>(aT k p h).2.2
 ·obtain⟨k,h⟩:=Uv.mp hp
  exact(aT k p h).2.1
 ·obtain⟨k,h⟩:=Uv.mp hp
  exact(aD k p h).2
inductive Tps(H:Hp):List (Str×Int)->List Addr->Prop
 |nil:Tps H [] []
 |cons {a:Str} {s:Int} {t:Addr} {l:List (Str×Int)} {ts:List Addr}:H t=some (.tup [.str a,.int s])->Tps H l ts->Tps H ((a,s)::l) (t::ts)
theorem Tps.keep{H H':Hp}(t:Tups H H'){l:List (Str×Int)}{ts:List Addr}(h:Tps H l ts):Tps H' l ts:=by
 induction h with
 |nil=>exact .nil
 |cons a _ ih=>exact .cons (t _ _ a) ih
theorem Tps.app{H:Hp}{a b:List (Str×Int)}{p q:List Addr}(h:Tps H a p)(g:Tps H b q):Tps H (a++b) (p++q):=by
 induction h with
 |nil=>exact g
 |cons x _ ih=>exact .cons x ih
theorem Tps.len{H:Hp}{l:List (Str×Int)}{ts:List Addr}(h:Tps H l ts):l.length=ts.length:=by
 induction h with
 |nil=>rfl
 |cons _ _ ih=>rw[ul,ul,ih]
theorem Tps.get{H:Hp}:∀{l:List (Str×Int)}{ts:List Addr}{i:Nat}{t:Addr},Tps H l ts->ts[i]?=some t->∃a s,l[i]?=some (a,s)/\H t=some (.tup [.str a,.int s])
 |_,_,_,_,.nil,e=>by simp at e
 |_,_,0,_,.cons a _,e=>by
  simp at e
  subst e
  exact⟨_,_,rfl,a⟩
 |_,_,i+1,_,.cons _ b,e=>by
  obtain⟨a,s,h1,h2⟩:=Tps.get (i:=i) b (by simpa using e)
  exact⟨a,s,by simpa using h1,h2⟩
theorem vK{α β:Type}{l:List α}{i:Nat}{x:α}(f:α->β)(h:l[i]?=some x):(l.take i).map f++[f x]=(l.take (i+1)).map f:=by
 rw[uw,h,ut]
 rfl
theorem xu{α:Type}{l:List α}{i:Nat}{x:α}(p:α->Bool)(h:l[i]?=some x):(l.take (i+1)).filter p=(l.take i).filter p++(if p x=true then[x]else[]):=by
 rw[uw,h,List.filter_append]
 congr 1
 cases e:p x<;>simp[e]
structure Sc(H:Hp)(l:List (Str×Int))(sc:Addr):Prop where
 ex:∃ts,H sc=some (.lst (ts.map V.ref))/\Tps H l ts
 n:l.length<=1000
 s:∀p∈l,0<=p.2/\p.2<=13
theorem Sc.kp{K:ub}{st sc:Addr}{B:Nat}{H H':Hp}{l:List (Str×Int)}(h:Sc H l sc)(S:Sta K H st B)(k:Kp st H H'):Sc H' l sc:=by
 obtain⟨⟨ts,h1,h2⟩,n,s⟩:=h
 exact⟨⟨ts,k.k _ _ (S.neR h1) h1,h2.keep (k.tups S)⟩,n,s⟩
theorem Sc.same{sc:Addr}{H H':Hp}{l:List (Str×Int)}(h:Sc H l sc)(k:Same H H'):Sc H' l sc:=by
 obtain⟨⟨ts,h1,h2⟩,n,s⟩:=h
 exact⟨⟨ts,k _ _ h1,h2.keep (.of k)⟩,n,s⟩
def vL(K:ub):Sp:=fun vs H Q _=>∃(st sc:Addr)(s:Int)(B:Nat)(l:List (Str×Int)),vs=[.ref st,.ref sc,.int s]/\Sta K H st B/\B+2 < LIM/\Sc H l sc/\l≠[]/\∀(H':Hp)(x:Str),Kp st H H'->Sta K H' st (B+2)->x∈l.map (·.1)->Q (.str x) H'
def Zf(K:ub):Sp:=fun vs H Q _=>∃(st sc q:Addr)(s:List Int)(B:Nat)(l:List (Str×Int)),vs=[.ref st,.ref sc,.ref q]/\Sta K H st B/\B+80 < LIM/\Sc H l sc/\l≠[]/\H q=some (.lst (s.map V.int))/\s.length<=40/\∀(H':Hp)(p:Addr)(xs:List Str),Kp st H H'->Sta K H' st (B+80)->H' p=some (.tup (xs.map V.str))->xs.length=s.length->(∀x∈xs,x∈l.map (·.1))->Q (.ref p) H'
theorem scPick:FnScope ["_law_state","_law_scope","_law_sort","_law_some"] lS6 (zo VI):=.ok
theorem Zg:(["_law_state","_law_scope","_law_sort","_law_some","_law_name_here","_law_one"]:List Str).Nodup:=by decide +kernel
theorem QS(F:Fun K "_law_pick" "_law_pick" VI f fd)(GD:Ca P w K mg base CX0 1 "_law_draw" lS2 (yz K))(m_len:mg "len"=none):FnOk P w K mg base CX0 2 f fd lS6 (vL K):=by
 refine F.by scPick (fun vs H Q E h=>?_) (fun cdv A outer s H vs Q E hr h=>?_)
 ·obtain⟨st,sc,s,B,l,rfl,_⟩:=h
  rfl
 obtain⟨st,sc,s,B,l,rfl,S0,hB,hSc,hl0,q⟩:=h
 obtain⟨⟨ts,hsc,hT⟩,hn,_⟩:=hSc
 refine⟨_,
  (zg (yq ["_law_name_here","_law_one"] (i:=3) scPick.nd rfl (Or.inl rfl) rfl (zG (jv 1)) (fun _ _ _ _ _=>(xZ K (n:=2) rfl (zv (gN 4 Zg) (zv (gN 5 Zg) zM)))) (fun _ _ _ _ _=>(yL (tN zA (jv 5) (jv 2)))) (fun _ _ _ _ _=>(jv 4)))
  (zg (zy (jW.pt (xk (tN (j3 hr) (jv 3) (zB zE)) (xb (tN zA (cA GD hr (jA2 (jv 0) zj)) zj))))
   (zh (yq ["_law_name_here","_law_one"] (i:=3) scPick.nd rfl (Or.inl rfl) rfl (zG (jv 1)) (fun _ _ _ _ _=>(xZ K (n:=2) rfl (zv (gN 4 Zg) (zv (gN 5 Zg) zM)))) (fun _ _ _ _ _=>zT) (fun _ _ _ _ _=>(jv 4)))) zt)
  (zh (zq (xX zI (jv 3) (cA GD hr (jA2 (jv 0) (jL m_len (jv 3))))))))),?_⟩
 have sl:=zF
 have LM:LIM=4611686018427387904:=rfl
 have htl:=hT.len
 refine(show ∀(u:TS)(D:Ends),(∀(H':Hp)(p:Addr)(xs:List Str),Kp st H H'->Sta K H' st (B+1)->H' p=some (.lst (xs.map V.str))->xs≠[]->(∀x∈xs,x∈l.map (·.1))->u D [some (.ref st),some (.ref sc),some (.int s),some (.ref p)] H')->(tSeq _ (tSeq _ u):TS) D _ H from ?key) _ _ ?rest
 case key =>
  intro u D tail
  refine⟨_,rfl,_,rfl,⟨_,SqL.of hsc⟩,zY (xs:=ts.map V.ref) (fun j τ ys H'=>H=H'/\(∃u v,τ=[some (.ref st),some (.ref sc),some (.int s),none,u,v])/\ys=((l.take j).filter fun a=>decide (V.int a.2=V.int s)).map fun a=>V.str a.1) ⟨rfl,⟨none,none,rfl⟩,rfl⟩ (fun j τ ys H' _ h=>by rw[<- h.1];exact SqL.of hsc) ?_ ?_⟩
  ·rintro j v τ ys H3 hv ⟨rfl,⟨u,v',rfl⟩,rfl⟩
   rw[ue]at hv
   obtain⟨tq,htq,rfl⟩:=uh.mp hv
   obtain⟨a,n,e1,e2⟩:=hT.get htq
   have hj:j < l.length:=(uc.mp e1).1
   have tf:=xu (fun a:Str×Int=>decide (V.int a.2=V.int s)) e1
   refine⟨_,_,rfl,SqT.of e2,rfl,_,_,rfl,_,_,rfl,rfl,_,rfl,_,rfl,rfl,_,rfl,?_⟩
   refine ite2 (fun c=>?_) (fun c=>?_)
   ·refine⟨_,rfl,?_,rfl,⟨_,_,rfl⟩,?_⟩
    ·rw[ua]
     have:=U8 (fun a:Str×Int=>decide (V.int a.2=V.int s)) (l.take j)
     rw[uN]at this
     lia
    ·rw[tf,if_pos c,ut]
     rfl
   ·refine⟨rfl,⟨_,_,rfl⟩,?_⟩
    rw[tf,if_neg c,ux]
  rintro τ ys H3 ⟨rfl,_,rfl⟩ p1 hp1
  rw[ua,<- htl,uk (ud _)]
  generalize hf:l.filter (fun a:Str×Int=>decide (V.int a.2=V.int s))=fl
  have hfm:∀x∈fl.map (·.1),x∈l.map (·.1):=fun x hx=>by
   obtain⟨a,h1,h2⟩:=uy.mp hx
   rw[<- hf]at h1
   exact uy.mpr ⟨a,(UW.mp h1).1,h2⟩
  have em:(fl.map fun a=>V.str a.1)=(fl.map (·.1)).map V.str:=by rw[tS];rfl
  rw[em]
  have k1:Kp st H (upd H p1 (.lst ((fl.map (·.1)).map V.str))):=Kp.refl.new hp1
  have S1:=S0.new hp1 (.lst ((fl.map (·.1)).map V.str))
  have h1:=upd_same (H:=H) (a:=p1) (o:=.lst ((fl.map (·.1)).map V.str))
  generalize upd H p1 (.lst ((fl.map (·.1)).map V.str))=H4 at *
  refine⟨_,rfl,sN0,fun pe h2=>?_⟩
  have k2:=k1.new (o:=.lst []) h2
  have S2:=S1.new h2 (.lst [])
  have h12:=old (o:=.lst []) h2 h1
  refine⟨_,_,_,rfl,rfl,SqL.of h12,SqL.of upd_same,_,rfl,?_⟩
  show if(if false=true then !((fl.map (·.1)).map V.str).isEmpty else((fl.map (·.1)).map V.str).isEmpty)=true then _ else _
  generalize upd H4 pe (.lst [])=H5 at *
  by_cases hfe:fl=[]
  ·have e0:((fl.map (·.1)).map V.str).isEmpty=true:=by rw[hfe];rfl
   rw[e0]
   refine iteT ?_
   obtain⟨hsc2,hT2⟩:H5 sc=some (.lst (ts.map V.ref))/\Tps H5 l ts:=⟨(k2).k _ _ (S0.neR hsc) hsc,hT.keep ((k2).tups S0)⟩
   refine⟨_,rfl,_,rfl,⟨_,SqL.of hsc2⟩,zY (xs:=ts.map V.ref) (fun j τ ys H'=>H5=H'/\(∃u v,τ=[some (.ref st),some (.ref sc),some (.int s),some (.ref p1),u,v])/\ys=(l.take j).map fun a=>V.str a.1) ⟨rfl,⟨none,none,rfl⟩,rfl⟩ (fun j τ ys H' _ h=>by rw[<- h.1];exact SqL.of hsc2) ?_ ?_⟩
   ·rintro j v τ ys H3 hv ⟨rfl,⟨u,v',rfl⟩,rfl⟩
    rw[ue]at hv
    obtain⟨tq,htq,rfl⟩:=uh.mp hv
    obtain⟨a,n,e1,e2⟩:=hT2.get htq
    have hj:j < l.length:=(uc.mp e1).1
    refine⟨_,_,rfl,SqT.of e2,rfl,_,_,rfl,_,_,rfl,rfl,_,rfl,?_,rfl,⟨_,_,rfl⟩,vK (fun a:Str×Int=>V.str a.1) e1⟩
    rw[ua,uN]
    lia
   ·rintro τ ys H3 ⟨rfl,_,rfl⟩ p2 hp2
    rw[ua,<- htl,uk (ud _)]
    have em:(l.map fun a=>V.str a.1)=(l.map (·.1)).map V.str:=by rw[tS];rfl
    rw[em]
    exact tail _ p2 (l.map (·.1)) ((k2).new hp2) (((S2).mono (by lia)).new hp2 _) upd_same (by simpa using hl0) (fun x hx=>hx)
  ·have e0:((fl.map (·.1)).map V.str).isEmpty=false:=by
    cases fl with
    |nil=>exact absurd rfl hfe
    |cons _ _=>rfl
   rw[e0]
   refine iteF ?_
   refine⟨_,rfl,st,16,B,rfl,S2,by lia,by decide,fun H6 r k6 S6 _ _=>?_⟩
   have k26:=k2.trans k6
   refine⟨rfl,_,rfl,?_⟩
   refine ite2 (fun _=>?_) (fun _=>?_)
   ·obtain⟨hsc2,hT2⟩:H6 sc=some (.lst (ts.map V.ref))/\Tps H6 l ts:=⟨(k26).k _ _ (S0.neR hsc) hsc,hT.keep ((k26).tups S0)⟩
    refine⟨_,rfl,_,rfl,⟨_,SqL.of hsc2⟩,zY (xs:=ts.map V.ref) (fun j τ ys H'=>H6=H'/\(∃u v,τ=[some (.ref st),some (.ref sc),some (.int s),some (.ref p1),u,v])/\ys=(l.take j).map fun a=>V.str a.1) ⟨rfl,⟨none,none,rfl⟩,rfl⟩ (fun j τ ys H' _ h=>by rw[<- h.1];exact SqL.of hsc2) ?_ ?_⟩
    ·rintro j v τ ys H3 hv ⟨rfl,⟨u,v',rfl⟩,rfl⟩
     rw[ue]at hv
     obtain⟨tq,htq,rfl⟩:=uh.mp hv
     obtain⟨a,n,e1,e2⟩:=hT2.get htq
     have hj:j < l.length:=(uc.mp e1).1
     refine⟨_,_,rfl,SqT.of e2,rfl,_,_,rfl,_,_,rfl,rfl,_,rfl,?_,rfl,⟨_,_,rfl⟩,vK (fun a:Str×Int=>V.str a.1) e1⟩
     rw[ua,uN]
     lia
    ·rintro τ ys H3 ⟨rfl,_,rfl⟩ p2 hp2
     rw[ua,<- htl,uk (ud _)]
     have em:(l.map fun a=>V.str a.1)=(l.map (·.1)).map V.str:=by rw[tS];rfl
     rw[em]
     exact tail _ p2 (l.map (·.1)) ((k26).new hp2) (((S6).mono (by lia)).new hp2 _) upd_same (by simpa using hl0) (fun x hx=>hx)
   ·exact tail _ p1 (fl.map (·.1)) k26 S6 (k6.k _ _ (S2.neS h12) h12) (by simpa using hfe) hfm
 case rest =>
  intro H' p xs kp S1 hp hx hm
  have h0:0 < xs.length:=UQ.mpr hx
  refine⟨_,rfl,_,rfl,_,rfl,_,_,rfl,.inl (SqL.of hp),st,_,_,rfl,S1,by lia,(by rw[ua];lia),fun H2 r k2 S2 r0 r1=>?_⟩
  rw[ua]at r1
  have hi:r.toNat < xs.length:=by lia
  have e:atI (xs.map V.str) r=some (.str xs[r.toNat]):=by
   have g:(xs.map V.str)[r.toNat]?=some (.str xs[r.toNat]):=by rw[ue,ui hi];rfl
   have g2:=zN g
   rw[UZ r0]at g2
   exact g2
  exact⟨p,_,_,_,rfl,rfl,SqL.of (k2.k _ _ (S1.neS hp) hp),e,q _ _ (kp.trans k2) S2 (hm _ (tU hi))⟩
theorem QT:FnScope lS7 lS7 (zo YK):=.ok
theorem QU:(["_law_state","_law_scope","_law_sorts_here","_law_sort"]:List Str).Nodup:=by decide +kernel
theorem VS(F:Fun K "_law_picks" "_law_picks" YK f fd)(GP:Ca P w K mg base CX0 2 "_law_pick" lS6 (vL K))(m_tuple:mg "tuple"=none):FnOk P w K mg base CX0 3 f fd lS7 (Zf K):=by
 refine F.by QT (fun vs H Q E h=>?_) (fun cdv A outer s H vs Q E hr h=>?_)
 ·obtain⟨st,sc,q,s,B,l,rfl,_⟩:=h
  rfl
 obtain⟨st,sc,qs,s,B,l,rfl,S0,hB,hSc,hl0,hq,hs,q⟩:=h
 refine⟨_,
  (zh (zq (yy zR rfl m_tuple uY (jA1 (yp ["_law_sort"] rfl (zG (jv 2)) (fun _ _ _ _ _=>(gN 3 QU)) (fun _ _ _ _ _=>zT) (fun _ _ _ _ _=>(cA GP hr (jA3 (jv 0) (jv 1) (jv 3))))))))),?_⟩
 have sl:=zF
 have LM:LIM=4611686018427387904:=rfl
 refine⟨_,rfl,_,rfl,⟨_,SqL.of hq⟩,zY (xs:=s.map V.int) (fun i τ ys H'=>Kp st H H'/\Sta K H' st (B+2*i)/\(∃x,τ=[some (.ref st),some (.ref sc),some (.ref qs),x])/\∃xs:List Str,ys=xs.map V.str/\xs.length=i/\∀x∈xs,x∈l.map (·.1)) ⟨Kp.refl,S0,⟨none,rfl⟩,[],rfl,rfl,fun x hx=>by cases hx⟩ (fun i τ ys H' _ h=>SqL.of (h.1.k _ _ (S0.neI hq) hq)) ?_ ?_⟩
 ·rintro i v τ ys H1 hv ⟨k1,S1,⟨x,rfl⟩,xs,rfl,hl,hm⟩
  rw[ue]at hv
  obtain⟨n,hn,rfl⟩:=uh.mp hv
  have hi:i < s.length:=(uc.mp hn).1
  refine⟨_,rfl,_,rfl,_,rfl,st,sc,n,B+2*i,l,rfl,S1,by lia,hSc.kp S0 k1,hl0,fun H2 y k2 S2 hy=>⟨by rw[ua];lia,k1.trans k2,S2,⟨_,rfl⟩,xs++[y],by simp,by simp[hl],fun z hz=>?_⟩⟩
  rcases uE.mp hz with hz|hz
  ·exact hm z hz
  ·rw[uj.mp hz]
   exact hy
 ·rintro τ ys H1 ⟨k1,S1,_,xs,rfl,hl,hm⟩ p hp
  rw[ua]at hl S1
  refine⟨p,_,rfl,.inl ⟨SqL.of upd_same,fun p2 hp2=>?_⟩⟩
  exact q _ p2 xs ((k1.new hp).new hp2) ((((S1.mono (by lia)).new hp _)).new hp2 _) upd_same hl hm
inductive De
 |num (i:Int)
 |op (w a b:Str)
 |app (w f:Str) (xs:List Str)
def De.uses:De->List Str
 |.num _=>[]
 |.op _ a b=>[a,b]
 |.app w f xs=>if w="ask"then f::xs else xs
theorem x5{f:Str}{xs:List Str}:De.uses (.app "ask" f xs)=f::xs:=by unfold De.uses;exact if_pos rfl
theorem xv{w f:Str}{xs:List Str}(h:w≠"ask"):De.uses (.app w f xs)=xs:=by unfold De.uses;exact if_neg h
inductive IsDe(H:Hp):De->Addr->Prop
 |num {i:Int} {p:Addr}:H p=some (.tup [.str "num",.int i])->IsDe H (.num i) p
 |op {w a b:Str} {p:Addr}:H p=some (.tup [.str "op",.str w,.str a,.str b])->IsDe H (.op w a b) p
 |app {w f:Str} {xs:List Str} {p q:Addr}:(w≠"num"/\w≠"op"/\xs.length<=40)->H p=some (.tup [.str w,.str f,.ref q])->H q=some (.tup (xs.map V.str))->IsDe H (.app w f xs) p
theorem IsDe.keep{H H':Hp}{d:De}{p:Addr}(h:IsDe H d p)(t:Tups H H'):IsDe H' d p:=by
 cases h with
 |num a=>exact .num (t _ _ a)
 |op a=>exact .op (t _ _ a)
 |app c a b=>exact .app c (t _ _ a) (t _ _ b)
theorem ZW{α:Type}{f:α->V}{s:List α}{m:Int}(h:0<=m):cutV (s.map f) none (some m)=(s.take m.toNat).map f:=by
 unfold cutV
 have c1:HT.sIx (s.map f).length 0 none=0:=rfl
 have c2:HT.sIx (s.map f).length (s.map f).length (some m)=min m.toNat (s.map f).length:=by
  show(if m < 0 then(m+((s.map f).length:Nat)).toNat else min m.toNat (s.map f).length)=_
  rw[if_neg (by lia)]
 rw[c1,c2,List.drop_zero,Nat.sub_zero,List.map_take,ua]
 rcases Nat.le_total m.toNat s.length with c|c
 ·rw[Nat.min_eq_left c]
 ·rw[Nat.min_eq_right c,uk (by simp),uk (by simpa using c)]
theorem xw{α β:Type}{f:α->β}{xs:List α}{r:Int}{x:α}(h0:0<=r)(h:xs[r.toNat]?=some x):atI (xs.map f) r=some (f x):=by
 have g:(xs.map f)[r.toNat]?=some (f x):=by rw[ue,h];rfl
 have g2:=zN g
 rw[UZ h0]at g2
 exact g2
def DeQ(K:ub)(st:Addr)(B:Nat)(l:List (Str×Int))(H:Hp)(Q:VK):Prop:=∀(H':Hp)(p q:Addr)(d:De)(g:Int),Kp st H H'->Sta K H' st B->H' p=some (.tup [.ref q,.int g])->IsDe H' d q->0<=g->g<=13->(∀x∈d.uses,x∈l.map (·.1))->Q (.ref p) H'
def ZX(K:ub):Sp:=fun vs H Q _=>∃(st sc w:Addr)(B:Nat)(l:List (Str×Int))(o:Wo),vs=[.ref st,.ref sc,.ref w]/\Sta K H st B/\B+100 < LIM/\Sc H l sc/\l≠[]/\IsW H o w/\DeQ K st (B+100) l H Q
def VT(K:ub):Sp:=fun vs H Q _=>∃(st sc w:Addr)(B:Nat)(l:List (Str×Int))(o:Wo)(a:Nat),vs=[.ref st,.ref sc,.ref w,.int (a:Nat)]/\a < 3/\Sta K H st B/\B+200 < LIM/\Sc H l sc/\IsW H o w/\DeQ K st (B+200) l H Q
theorem zcd{i j:Int}(h:i<=3)(h2:j<=3)(h0:0<=j):0<=(if j > i then j else i)/\(if j > i then j else i)<=3:=by
 split<;>lia
theorem scHanded:FnScope ["_law_state","_law_scope","_law_world_here","_law_some","_law_way","_law_name_here","_law_sort","_law_sorts_here","_law_gives","_law_many"] lS19 (zo Za):=.ok
theorem VU:(["_law_state","_law_scope","_law_world_here","_law_some","_law_way","_law_name_here","_law_sort","_law_sorts_here","_law_gives","_law_many","_law_one"]:List Str).Nodup:=by decide +kernel
theorem Wn:(["_law_state","_law_scope","_law_world_here","_law_some","_law_way","_law_name_here","_law_sort","_law_sorts_here","_law_gives","_law_many","_law_k"]:List Str).Nodup:=by decide +kernel
theorem Wp(F:Fun K "_law_handed" "_law_handed" Za f fd)(GD:Ca P w K mg base CX0 1 "_law_draw" lS2 (yz K))(GP:Ca P w K mg base CX0 3 "_law_picks" lS7 (Zf K))(m_len:mg "len"=none)(m_range:mg "range"=none)(m_max:mg "max"=none):FnOk P w K mg base CX0 4 f fd lS19 (ZX K):=by
 refine F.by scHanded (fun vs H Q E h=>?_) (fun cdv A outer s H vs Q E hr h=>?_)
 ·obtain⟨st,sc,w,B,l,o,rfl,_⟩:=h
  rfl
 obtain⟨st,sc,w0,B,l,o,rfl,S0,hB,hSc,hl0,hW,q⟩:=h
 have hr1:Room 1 _:=hr.mono (by decide)
 refine⟨_,
  (zg (yq ["_law_one"] (i:=3) scHanded.nd rfl (Or.inl rfl) rfl (zG (jv 1)) (fun _ _ _ _ _=>(gN 10 VU)) (fun _ _ _ _ _=>(yL (tN za5 (zP (z9 K) (jv 10) zj (fun _ _=>rfl)) zj))) (fun _ _ _ _ _=>(jv 10)))
  (zg (sE 4 scHanded.nd (cA GD hr1 (jA2 (jv 0) zj)))
  (zg (zy (tN zA (jv 4) zj)
   (zh (sE 3 scHanded.nd (jv 1))) zt)
  (zg (zy (jW.pt (ya (tN (Vk hr) (jv 3) (zB zE)) (yc (tN jo (jv 4) zj))))
   (zg (yV (xX zI (jv 3) (cA GD hr1 (jA2 (jv 0) (jL m_len (jv 3))))) (yi rfl (zv (gN 5 scHanded.nd) (zv (gN 6 scHanded.nd) zM))))
   (zh (zq (zu (jA2 (zu (jA3 zp (jv 5) (cA GP hr (jA3 (jv 0) (jv 1) (yp ["_law_k"] rfl (zV rfl m_range (jA1 (yJ (QO rfl) rfl m_max PyProof.Rows.boot_max (jA2 (zx yr (jv 6) zj) (cA GD hr1 (jA2 (jv 0) zj)))))) (fun _ _ _ _ _=>(gN 10 Wn)) (fun _ _ _ _ _=>zT) (fun _ _ _ _ _=>(zx xf (jv 10) zj))))))) zj))))) zt)
  (zg (yV (xX zI (xL 2) (cA GD hr1 (jA2 (jv 0) zj))) (yi rfl (zv (gN 5 scHanded.nd) (zv (gN 7 scHanded.nd) (zv (gN 8 scHanded.nd) zM)))))
  (zg (sE 9 scHanded.nd (cA GD hr1 (jA2 (jv 0) (zx zU (jL m_len (jv 7)) zj))))
  (zh (zq (zu (jA2 (zu (jA3 zp (jv 5) (cA GP hr (jA3 (jv 0) (jv 1) (yo w4 (jv 7) yE (yF (jv 9))))))) (zx yr (zx zU zj (jL m_len (jv 7))) (jv 9)))))))))))),?_⟩
 have sl:=zF
 have LM:LIM=4611686018427387904:=rfl
 obtain⟨⟨ts,hsc,hT⟩,hn,hs⟩:=id hSc
 have htl:=hT.len
 refine(show ∀(u:TS)(D:Ends),(∀(H':Hp)(p:Addr)(fl:List (Str×Int))(fs:List Addr)(r:Int),Kp st H H'->Sta K H' st (B+1)->H' p=some (.lst (fs.map V.ref))->Tps H' fl fs->(∀x∈fl,x∈l)->u D [some (.ref st),some (.ref sc),some (.ref w0),some (.ref p),some (.int r),none,none,none,none,none] H')->(tSeq _ (tSeq _ (tSeq _ u)):TS) D _ H from ?key) _ _ ?rest
 case key =>
  intro u D tail
  refine⟨_,rfl,_,rfl,⟨_,SqL.of hsc⟩,zY (xs:=ts.map V.ref) (fun j τ ys H'=>H=H'/\(∃v,τ=[some (.ref st),some (.ref sc),some (.ref w0),none,none,none,none,none,none,none,v])/\∃(fl:List (Str×Int))(fs:List Addr),ys=fs.map V.ref/\fs.length<=j/\Tps H fl fs/\∀x∈fl,x∈l) ⟨rfl,⟨none,rfl⟩,[],[],rfl,uW _,.nil,fun x hx=>by cases hx⟩ (fun j τ ys H' _ h=>by rw[<- h.1];exact SqL.of hsc) ?_ ?_⟩
  ·rintro j v τ ys H3 hv ⟨rfl,⟨v',rfl⟩,fl,fs,rfl,hj,hf,hm⟩
   rw[ue]at hv
   obtain⟨tq,htq,rfl⟩:=uh.mp hv
   obtain⟨a,n,e1,e2⟩:=hT.get htq
   have hjl:j < l.length:=(uc.mp e1).1
   refine⟨_,rfl,ixT e2 aI1 ⟨_,_,rfl,rfl,_,rfl,?_⟩⟩
   refine ite2 (fun c=>?_) (fun c=>?_)
   ·refine⟨_,rfl,by rw[ua];lia,rfl,⟨_,rfl⟩,fl++[(a,n)],fs++[tq],by simp,by simp;lia,hf.app (.cons e2 .nil),fun x hx=>?_⟩
    rcases uE.mp hx with hx|hx
    ·exact hm x hx
    ·rw[uj.mp hx]
     exact uq e1
   ·exact⟨rfl,⟨_,rfl⟩,fl,fs,rfl,by lia,hf,hm⟩
  rintro τ ys H3 ⟨rfl,_,fl,fs,rfl,hj,hf,hm⟩ p1 hp1
  have S1:=S0.new hp1 (.lst (fs.map V.ref))
  refine⟨_,rfl,st,4,B,rfl,S1,by lia,by decide,fun H2 r k2 S2 r0 r1=>?_⟩
  have k12:=(Kp.refl.new (o:=.lst (fs.map V.ref)) hp1).trans k2
  have hp2:=k2.k _ _ (S0.ne hp1) (upd_same (H:=H) (a:=p1) (o:=.lst (fs.map V.ref)))
  refine⟨_,rfl,rfl,_,rfl,?_⟩
  refine ite2 (fun c=>?_) (fun c=>?_)
  ·exact⟨_,rfl,tail _ sc l ts r k12 S2 (k12.k _ _ (S0.neR hsc) hsc) (hT.keep (k12.tups S0)) fun x hx=>hx⟩
  ·exact tail _ p1 fl fs r k12 S2 hp2 (hf.keep (k12.tups S0)) hm
 case rest =>
  intro H1 p1 fl fs r k1 S1 hp1 hf hm
  have hfl:=hf.len
  have gpos:∀x∈fl,0<=x.2/\x.2<=13:=fun x hx=>hs x (hm x hx)
  refine(show ∀(u:TS)(D:Ends),D.rt=Q->(∀(H':Hp),Kp st H H'->Sta K H' st (B+1)->u D [some (.ref st),some (.ref sc),some (.ref w0),some (.ref p1),some (.int r),none,none,none,none,none] H')->(tSeq _ u:TS) D _ H1 from ?key2) _ _ rfl ?rest2
  case key2 =>
   intro u D hD tail
   refine⟨_,rfl,sN0,fun pe h2=>?_⟩
   have k2:=k1.new (o:=.lst []) h2
   have S2:=S1.new h2 (.lst [])
   have hp2:=old (o:=.lst []) h2 hp1
   have hf2:=hf.keep (.of (zn h2 (.lst [])))
   refine⟨_,_,_,rfl,rfl,SqL.of hp2,SqL.of upd_same,_,rfl,?_⟩
   show if(if true=true then !(fs.map V.ref).isEmpty else(fs.map V.ref).isEmpty)=true then _ else _
   generalize upd H1 pe (.lst [])=H2 at *
   by_cases hfe:fs=[]
   ·have e0:(fs.map V.ref).isEmpty=true:=by rw[hfe];rfl
    rw[e0]
    exact iteF (tail _ k2 S2)
   have e0:(fs.map V.ref).isEmpty=false:=by
    cases fs with
    |nil=>exact absurd rfl hfe
    |cons _ _=>rfl
   rw[e0]
   refine iteT ?_
   refine⟨_,rfl,_,_,rfl,rfl,_,rfl,?_⟩
   refine ite2 (fun _=>?_) (fun _=>tail _ k2 S2)
   have h0:0 < fs.length:=UQ.mpr hfe
   refine⟨_,rfl,_,rfl,_,rfl,_,_,rfl,.inl (SqL.of hp2),st,_,_,rfl,S2,by lia,(by rw[ua];lia),fun H3 r3 k3 S3 q0 q1=>?_⟩
   rw[ua]at q1
   have hi:r3.toNat < fs.length:=by lia
   obtain⟨t,ht⟩:∃t,fs[r3.toNat]?=some t:=⟨_,ui hi⟩
   have hf3:=hf2.keep (k3.tups S2)
   obtain⟨a,g,e1,e2⟩:=hf3.get ht
   have hg:=gpos _ (uq e1)
   have ha:a∈l.map (·.1):=uy.mpr ⟨_,hm _ (uq e1),rfl⟩
   have hp3:=k3.k _ _ (S2.neR hp2) hp2
   refine⟨p1,_,_,_,rfl,rfl,SqL.of hp3,xw q0 ht,_,_,rfl,SqT.of e2,rfl,_,_,rfl,_,_,rfl,rfl,?_⟩
   refine⟨_,rfl,_,rfl,_,rfl,_,rfl,_,_,rfl,rfl,_,rfl,st,3,_,rfl,S3,by lia,by decide,fun H4 r4 k4 S4 q2 q3=>?_⟩
   have mx:=zcd (i:=g-10) (j:=r4) (by lia) (by lia) q2
   refine⟨_,_,rfl,?_⟩
   generalize (if r4 > g-10 then r4 else g-10)=n at *
   refine⟨_,rfl,by lia,by lia,yx (n:=n.toNat) (fun i τ ys H'=>H4=H'/\(∃x,τ=[some (.ref st),some (.ref sc),some (.ref w0),some (.ref p1),some (.int r),some (.str a),some (.int g),none,none,none,x])/\∃ns:List Int,ys=ns.map V.int/\ns.length=i) ⟨rfl,⟨none,rfl⟩,[],rfl,rfl⟩ ?_ ?_⟩
   ·rintro i τ ys H5 hi ⟨rfl,⟨x,rfl⟩,ns,rfl,hln⟩
    exact⟨_,rfl,_,_,rfl,rfl,(by show(0:Int) < _;decide),by rw[ua];lia,rfl,⟨_,rfl⟩,ns++[_],by rw[ut];rfl,by simp[hln]⟩
   rintro τ ys H5 ⟨rfl,_,ns,rfl,hln⟩ p5 hp5
   have k04:=(k2.trans k3).trans k4
   have k5:=k04.new (o:=.lst (ns.map V.int)) hp5
   have S5:=S4.new hp5 (.lst (ns.map V.int))
   refine⟨st,sc,p5,ns,_,l,rfl,S5,by lia,hSc.kp S0 k5,hl0,upd_same,by lia,fun H6 p6 xs k6 S6 hp6 hl6 hm6=>?_⟩
   refine⟨sN3,fun t1 h7=>⟨sN2,fun t2 h8=>?_⟩⟩
   rw[hD]
   refine q _ t2 t1 (.app "ask" a xs) 0 (((k5.trans k6).new h7).new h8) ((((S6.mono (by lia)).new h7 _)).new h8 _) upd_same (.app ⟨by decide,by decide,by lia⟩ (old h8 upd_same) (old h8 (old h7 hp6))) (by decide) (by decide) fun x hx=>?_
   rw[x5]at hx
   rcases um.mp hx with e|e
   ·rw[e];exact ha
   ·exact hm6 x e
  case rest2 =>
   intro H2 k2 S2
   obtain⟨⟨tl,dl,tt,ds,hw,htl2,hdl,hTt,hTd⟩,wok⟩:=hW.kp S0 k2
   have dlen:=wok.dlen
   have hdl2:=hTd.len
   refine⟨_,rfl,ixL hw aI3 ⟨_,rfl,st,3,_,rfl,S2,by lia,by decide,fun H3 r3 k3 S3 q0 q1=>?_⟩⟩
   have hi:r3.toNat < ds.length:=by lia
   obtain⟨t,ht⟩:∃t,ds[r3.toNat]?=some t:=⟨_,ui hi⟩
   obtain⟨z,ss,g,sq,e1,e2,e3⟩:=(hTd.kp S2 k3).get ht
   have wd:ss.length<=3/\So ss/\0<=g/\g<=2:=wok.ds _ (uq e1)
   refine⟨dl,_,_,_,rfl,rfl,SqL.of (k3.k _ _ (S2.neR hdl) hdl),xw q0 ht,_,_,rfl,SqT.of e2,rfl,_,_,rfl,_,_,rfl,_,_,rfl,rfl,?_⟩
   refine⟨_,rfl,_,rfl,_,_,rfl,.inl (SqL.of e3),_,_,rfl,rfl,st,_,_,rfl,S3,by lia,(by lia),fun H4 r4 k4 S4 q2 q3=>?_⟩
   rw[ua]at q3
   have e34:=k4.k _ _ (S3.neI e3) e3
   refine⟨_,rfl,_,rfl,_,rfl,_,rfl,_,rfl,_,rfl,_,_,rfl,SqL.of e34,fun p5 hp5=>?_⟩
   rw[ZW q2]
   have k04:=(k2.trans k3).trans k4
   have k5:=k04.new (o:=.lst ((ss.take r4.toNat).map V.int)) hp5
   have S5:=S4.new hp5 (.lst ((ss.take r4.toNat).map V.int))
   refine⟨st,sc,p5,ss.take r4.toNat,_,l,rfl,S5,by lia,hSc.kp S0 k5,hl0,upd_same,by rw[uN];lia,fun H6 p6 xs k6 S6 hp6 hl6 hm6=>?_⟩
   refine⟨sN3,fun t1 h7=>?_⟩
   have e37:=old (o:=.tup [.str "func",.str z,.ref p6]) h7 (k6.k _ _ (S5.neI (old hp5 e34)) (old hp5 e34))
   refine⟨_,rfl,_,_,rfl,.inl (SqL.of e37),_,_,rfl,rfl,_,rfl,_,_,rfl,rfl,sN2,fun t2 h8=>?_⟩
   rw[ua]
   refine q _ t2 t1 (.app "func" z xs) _ (((k5.trans k6).new h7).new h8) ((((S6.mono (by lia)).new h7 _)).new h8 _) upd_same (.app ⟨by decide,by decide,by rw[hl6,uN];lia⟩ (old h8 upd_same) (old h8 (old h7 hp6))) (by lia) (by lia) fun x hx=>?_
   rw[xv (by decide)]at hx
   exact hm6 x hx
theorem scDeed:FnScope ["_law_state","_law_scope","_law_world_here","_law_at","_law_way","_law_word","_law_tag","_law_sorts_here","_law_kind","_law_to","_law_name_here","_law_gives"] lS8 (zo VJ):=.ok
theorem QV(F:Fun K "_law_deed" "_law_deed" VJ f fd)(GD:Ca P w K mg base CX0 1 "_law_draw" lS2 (yz K))(GK:Ca P w K mg base CX0 2 "_law_pick" lS6 (vL K))(GP:Ca P w K mg base CX0 3 "_law_picks" lS7 (Zf K))(GH:Ca P w K mg base CX0 4 "_law_handed" lS19 (ZX K)):FnOk P w K mg base CX0 5 f fd lS8 (VT K):=by
 refine F.by scDeed (fun vs H Q E h=>?_) (fun cdv A outer s H vs Q E hr h=>?_)
 ·obtain⟨st,sc,w,B,l,o,a,rfl,_⟩:=h
  rfl
 obtain⟨st,sc,w0,B,l,o,a,rfl,ha,S0,hB,hSc,hW,q⟩:=h
 have hr1:Room 1 _:=hr.mono (by decide)
 have hr2:Room 2 _:=hr.mono (by decide)
 have hr3:Room 3 _:=hr.mono (by decide)
 refine⟨_,
  (zg (sE 4 scDeed.nd (cA GD hr1 (jA2 (jv 0) zj)))
  (zg (zy (jW.pt (xk (tN wU (jv 4) zj) (xb (tN (j3 hr) (jv 1) (zB zE)))))
   (zh (zq (zu (jA2 (zu (jA2 zp (zx yr (cA GD hr1 (jA2 (jv 0) zj)) zj))) zj)))) zt)
  (zg (zy (tN zA (jv 4) zj)
   (zg (sE 5 scDeed.nd (xX zI (zB (jA7 zp zp zp zp zp zp zp)) (cA GD hr1 (jA2 (jv 0) zj))))
   (zh (zq (zu (jA2 (zu (jA4 zp (jv 5) (cA GK hr2 (jA3 (jv 0) (jv 1) zj)) (cA GK hr2 (jA3 (jv 0) (jv 1) zj)))) zj))))) zt)
  (zg (zy (tN wU (jv 4) zj)
   (zg (yV (xX zI (xL 2) (cA GD hr1 (jA2 (jv 0) zj))) (yi rfl (zv (gN 6 scDeed.nd) (zv (gN 7 scDeed.nd) (zv (gN 8 scDeed.nd) zM)))))
   (zh (zq (zu (jA2 (zu (jA3 zp (jv 6) (cA GP hr3 (jA3 (jv 0) (jv 1) (jv 7))))) (jv 8)))))) zt)
  (zg (zy (tN zA (jv 4) zj)
   (zh (zq (cA GH hr (jA3 (jv 0) (jv 1) (jv 2))))) zt)
  (zg (sE 9 scDeed.nd (cA GD hr1 (jA2 (jv 0) zj)))
  (zg (zy (jW.pt (ya (tN wU (jv 3) zj) (yc (tN jo (cA GD hr1 (jA2 (jv 0) zj)) zj))))
   (zh (sE 9 scDeed.nd (zx zU (zx zU (jv 3) zj) (cA GD hr1 (jA2 (jv 0) (zx yr zj (jv 3))))))) zt)
  (zg (yV (xX zI (xL 2) (jv 9)) (yi rfl (zv (gN 10 scDeed.nd) (zv (gN 7 scDeed.nd) (zv (gN 11 scDeed.nd) zM)))))
  (zh (zq (zu (jA2 (zu (jA3 zp (jv 10) (cA GP hr3 (jA3 (jv 0) (jv 1) (jv 7))))) (jv 11))))))))))))),?_⟩
 have sl:=zF
 have LM:LIM=4611686018427387904:=rfl
 obtain⟨⟨ts,hsc,hT⟩,hn,hs⟩:=id hSc
 have htl:=hT.len
 refine⟨_,rfl,st,9,B,rfl,S0,by lia,by decide,fun H1 r k1 S1 r0 r1=>?_⟩
 refine(show ∀(u:TS)(D:Ends),D.rt=Q->(∀(H':Hp),l≠[]->Kp st H H'->Sta K H' st (B+1)->u D [some (.ref st),some (.ref sc),some (.ref w0),some (.int (a:Nat)),some (.int r),none,none,none,none,none,none,none] H')->(tSeq _ (tSeq _ u):TS) D _ H1 from ?key) _ _ rfl ?rest
 case key =>
  intro u D hD tail
  refine⟨_,rfl,_,_,rfl,rfl,_,rfl,?_⟩
  refine ite2 (fun _=>?_) (fun _=>?_)
  ·refine⟨_,rfl,st,9,_,rfl,S1,by lia,by decide,fun H2 r2 k2 S2 _ _=>⟨_,_,rfl,rfl,sN2,fun t1 h3=>⟨sN2,fun t2 h4=>?_⟩⟩⟩
   rw[hD]
   exact q _ t2 t1 (.num (r2-4)) 0 (((k1.trans k2).new h3).new h4) (((S2.mono (by lia)).new h3 _).new h4 _) upd_same (.num (old h4 upd_same)) (by decide) (by decide) fun x hx=>by cases hx
  ·refine⟨_,rfl,sN0,fun pe h2=>?_⟩
   have k2:=k1.new (o:=.lst []) h2
   have S2:=S1.new h2 (.lst [])
   have hsc2:=k2.k _ _ (S0.neR hsc) hsc
   refine⟨_,_,_,rfl,rfl,SqL.of hsc2,SqL.of upd_same,_,rfl,?_⟩
   show if(if false=true then !(ts.map V.ref).isEmpty else(ts.map V.ref).isEmpty)=true then _ else _
   generalize upd H1 pe (.lst [])=H2 at *
   by_cases he:ts=[]
   ·have e0:(ts.map V.ref).isEmpty=true:=by rw[he];rfl
    rw[e0]
    refine iteT ?_
    refine⟨_,rfl,st,9,_,rfl,S2,by lia,by decide,fun H3 r2 k3 S3 _ _=>⟨_,_,rfl,rfl,sN2,fun t1 h3=>⟨sN2,fun t2 h4=>?_⟩⟩⟩
    rw[hD]
    exact q _ t2 t1 (.num (r2-4)) 0 (((k2.trans k3).new h3).new h4) (((S3.mono (by lia)).new h3 _).new h4 _) upd_same (.num (old h4 upd_same)) (by decide) (by decide) fun x hx=>by cases hx
   ·have e0:(ts.map V.ref).isEmpty=false:=by
     cases ts with
     |nil=>exact absurd rfl he
     |cons _ _=>rfl
    rw[e0]
    refine iteF (tail _ (fun e=>he ?_) k2 S2)
    rw[e]at htl
    exact Ux.mp htl.symm
 case rest =>
  intro H2 hl0 k2 S2
  have hSc2:=hSc.kp S0 k2
  have hW2:=hW.kp S0 k2
  refine cut1 fun c_ hc_=>?_
  refine⟨_,rfl,rfl,_,rfl,?_⟩
  refine ite2 (fun _=>?_) (fun _=>?_)
  ·refine⟨sN7,fun pl h3=>?_⟩
   have S3:=S2.new h3 (.lst [.str "plus",.str "minus",.str "times",.str "over",.str "rest",.str "less",.str "same"])
   have k3:=k2.new (o:=.lst [.str "plus",.str "minus",.str "times",.str "over",.str "rest",.str "less",.str "same"]) h3
   refine⟨_,rfl,st,7,_,rfl,S3,by lia,by decide,fun H4 r4 k4 S4 q0 q1=>?_⟩
   have hpl:=k4.k _ _ (S2.ne h3) (upd_same (H:=H2) (a:=pl) (o:=.lst [.str "plus",.str "minus",.str "times",.str "over",.str "rest",.str "less",.str "same"]))
   have hi:r4.toNat < (["plus","minus","times","over","rest","less","same"]:List Str).length:=by show r4.toNat < 7;lia
   obtain⟨wd,hwd⟩:∃x,(["plus","minus","times","over","rest","less","same"]:List Str)[r4.toNat]?=some x:=⟨_,ui hi⟩
   refine⟨pl,_,_,_,rfl,rfl,SqL.of hpl,xw (f:=V.str) q0 hwd,?_⟩
   have k34:=k3.trans k4
   refine⟨_,rfl,_,rfl,_,rfl,st,sc,0,_,l,rfl,S4,by lia,hSc.kp S0 k34,hl0,fun H5 x k5 S5 hx=>?_⟩
   have k35:=k34.trans k5
   refine⟨_,rfl,_,rfl,st,sc,0,_,l,rfl,S5,by lia,hSc.kp S0 k35,hl0,fun H6 y k6 S6 hy=>?_⟩
   refine⟨sN4,fun t1 h7=>⟨sN2,fun t2 h8=>?_⟩⟩
   refine q _ t2 t1 (.op wd x y) 0 (((k35.trans k6).new h7).new h8) (((S6.mono (by lia)).new h7 _).new h8 _) upd_same (.op (old h8 upd_same)) (by decide) (by decide) fun z hz=>?_
   have hz':z∈[x,y]:=hz
   rcases um.mp hz' with e|e
   ·rw[e];exact hx
   ·rw[uj.mp e];exact hy
  subst hc_
  refine nxtC ?_
  dsimp only
  refine cut1 fun c_ hc_=>?_
  refine⟨_,rfl,_,_,rfl,rfl,_,rfl,?_⟩
  obtain⟨⟨tl,dl,tt,ds,hw,htl2,hdl,hTt,hTd⟩,wok⟩:=hW2
  refine ite2 (fun _=>?_) (fun _=>?_)
  ·have tlen:=wok.tlen
   have htl3:=hTt.len
   refine⟨_,rfl,ixL hw aI2 ⟨_,rfl,st,4,_,rfl,S2,by lia,by decide,fun H3 r3 k3 S3 q0 q1=>?_⟩⟩
   have hi:r3.toNat < tt.length:=by lia
   obtain⟨t,ht⟩:∃t,tt[r3.toNat]?=some t:=⟨_,ui hi⟩
   obtain⟨z,ss,g,sq,e1,e2,e3⟩:=(hTt.kp S2 k3).get ht
   have wd:ss.length<=9/\So ss:=wok.ts _ (uq e1)
   have hg:g=1\/g=2:=by
    have m:g∈o.tags.map (·.2.2):=uy.mpr ⟨_,uq e1,rfl⟩
    rw[wok.tk]at m
    simpa using m
   refine⟨tl,_,_,_,rfl,rfl,SqL.of (k3.k _ _ (S2.neR htl2) htl2),xw q0 ht,_,_,rfl,SqT.of e2,rfl,_,_,rfl,_,_,rfl,_,_,rfl,rfl,?_⟩
   have k23:=k2.trans k3
   refine⟨_,rfl,_,rfl,_,rfl,_,rfl,st,sc,sq,ss,_,l,rfl,S3,by lia,hSc.kp S0 k23,hl0,e3,by lia,fun H6 p6 xs k6 S6 hp6 hl6 hm6=>?_⟩
   refine⟨sN3,fun t1 h7=>⟨_,rfl,sN2,fun t2 h8=>?_⟩⟩
   refine q _ t2 t1 (.app "make" z xs) g (((k23.trans k6).new h7).new h8) (((S6.mono (by lia)).new h7 _).new h8 _) upd_same (.app ⟨by decide,by decide,by lia⟩ (old h8 upd_same) (old h8 (old h7 hp6))) (by lia) (by lia) fun x hx=>?_
   rw[xv (by decide)]at hx
   exact hm6 x hx
  subst hc_
  refine nxtC ?_
  dsimp only
  refine cut1 fun c_ hc_=>?_
  refine⟨_,rfl,rfl,_,rfl,?_⟩
  refine ite2 (fun _=>?_) (fun _=>?_)
  ·refine⟨_,rfl,_,rfl,_,rfl,st,sc,w0,_,l,o,rfl,S2,by lia,hSc2,hl0,⟨⟨tl,dl,tt,ds,hw,htl2,hdl,hTt,hTd⟩,wok⟩,fun H3 p q' d g k3 S3 h1 h2 h3 h4 h5=>?_⟩
   exact q _ p q' d g (k2.trans k3) (S3.mono (by lia)) h1 h2 h3 h4 h5
  subst hc_
  refine⟨_,rfl,st,3,_,rfl,S2,by lia,by decide,fun H3 r3 k3 S3 q0 q1=>?_⟩
  have k23:=k2.trans k3
  refine(show ∀(u:TS)(D:Ends),(∀(H':Hp)(x:Int),Kp st H H'->Sta K H' st (B+4)->0<=x->x < 3->u D [some (.ref st),some (.ref sc),some (.ref w0),some (.int (a:Nat)),some (.int r),none,none,none,none,some (.int x),none,none] H')->(tSeq _ (tSeq _ u):TS) D _ H3 from ?key3) _ _ ?rest3
  case key3 =>
   intro u D tail
   refine⟨_,rfl,_,_,rfl,rfl,_,rfl,?_⟩
   refine ite2 (fun c=>?_) (fun _=>tail _ r3 k23 (S3.mono (by lia)) q0 q1)
   rw[decide_eq_true_eq]at c
   refine⟨_,rfl,st,4,_,rfl,S3,by lia,by decide,fun H4 r4 k4 S4 _ _=>⟨_,_,rfl,rfl,_,rfl,?_⟩⟩
   refine ite2 (fun _=>?_) (fun _=>tail _ r3 (k23.trans k4) (S4.mono (by lia)) q0 q1)
   refine⟨_,rfl,_,_,rfl,rfl,_,rfl,_,rfl,_,_,rfl,rfl,st,_,_,rfl,S4,by lia,by lia,fun H5 r5 k5 S5 p0 p1=>⟨_,_,rfl,rfl,?_⟩⟩
   exact tail _ _ ((k23.trans k4).trans k5) (S5.mono (by lia)) (by lia) (by lia)
  case rest3 =>
   intro H4 x k4 S4 x0 x1
   obtain⟨⟨tl,dl,tt,ds,hw,htl2,hdl,hTt,hTd⟩,wok⟩:=hW.kp S0 k4
   have dlen:=wok.dlen
   have hdl2:=hTd.len
   have hi:x.toNat < ds.length:=by lia
   obtain⟨t,ht⟩:∃t,ds[x.toNat]?=some t:=⟨_,ui hi⟩
   obtain⟨z,ss,g,sq,e1,e2,e3⟩:=hTd.get ht
   have wd:ss.length<=3/\So ss/\0<=g/\g<=2:=wok.ds _ (uq e1)
   refine⟨_,rfl,ixL hw aI3 ⟨_,rfl,dl,_,_,_,rfl,rfl,SqL.of hdl,xw x0 ht,_,_,rfl,SqT.of e2,rfl,_,_,rfl,_,_,rfl,_,_,rfl,rfl,?_⟩⟩
   refine⟨_,rfl,_,rfl,_,rfl,_,rfl,st,sc,sq,ss,_,l,rfl,S4,by lia,hSc.kp S0 k4,hl0,e3,by lia,fun H6 p6 xs k6 S6 hp6 hl6 hm6=>?_⟩
   refine⟨sN3,fun t1 h7=>⟨_,rfl,sN2,fun t2 h8=>?_⟩⟩
   refine q _ t2 t1 (.app "call" z xs) g (((k4.trans k6).new h7).new h8) (((S6.mono (by lia)).new h7 _).new h8 _) upd_same (.app ⟨by decide,by decide,by lia⟩ (old h8 upd_same) (old h8 (old h7 hp6))) (by lia) (by lia) fun x hx=>?_
   rw[xv (by decide)]at hx
   exact hm6 x hx
end
mutual
inductive Bd
 |give (x:Str)
 |lt (x:Str) (d:De) (b:Bd)
 |iff (x:Str) (a b:Bd)
 |case(x:Str) (as:Arms)
inductive Arms
 |nil
 |cons (t:Str) (ns:List Str) (b:Bd) (r:Arms)
end
mutual
def Bd.sz:Bd->Nat
 |.give _=>1
 |.lt _ _ b=>b.sz+1
 |.iff _ a b=>a.sz+b.sz+1
 |.case _ as=>as.sz+1
def Arms.sz:Arms->Nat
 |.nil=>0
 |.cons _ ns b r=>ns.length+b.sz+r.sz+1
end
mutual
def Bd.dp:Bd->Nat
 |.give _=>1
 |.lt _ _ b=>b.dp+1
 |.iff _ a b=>max a.dp b.dp+1
 |.case _ as=>as.dp+1
def Arms.dp:Arms->Nat
 |.nil=>0
 |.cons _ _ b r=>max b.dp r.dp
end
def Arms.app:Arms->Arms->Arms
 |.nil,b=>b
 |.cons t ns d r,b=>.cons t ns d (Arms.app r b)
def Arms.rev:Arms->Arms
 |.nil=>.nil
 |.cons t ns d r=>Arms.app (Arms.rev r) (.cons t ns d .nil)
theorem Arms.sz_app:∀(a b:Arms),(Arms.app a b).sz=a.sz+b.sz
 |.nil,b=>by unfold Arms.app;rw[Arms.sz];lia
 |.cons t ns d r,b=>by unfold Arms.app;rw[Arms.sz,Arms.sz,Arms.sz_app r b];lia
theorem Arms.dp_app:∀(a b:Arms),(Arms.app a b).dp=max a.dp b.dp
 |.nil,b=>by unfold Arms.app;rw[Arms.dp];lia
 |.cons t ns d r,b=>by unfold Arms.app;rw[Arms.dp,Arms.dp,Arms.dp_app r b];lia
theorem Arms.dp_rev:∀(a:Arms),(Arms.rev a).dp=a.dp
 |.nil=>rfl
 |.cons t ns d r=>by unfold Arms.rev;rw[Arms.dp_app,Arms.dp_rev r,Arms.dp,Arms.dp,Arms.dp];lia
theorem Arms.sz_rev:∀(a:Arms),(Arms.rev a).sz=a.sz
 |.nil=>rfl
 |.cons t ns d r=>by unfold Arms.rev;rw[Arms.sz_app,Arms.sz_rev r,Arms.sz,Arms.sz,Arms.sz];lia
mutual
inductive IsB(H:Hp):Bd->Addr->Prop
 |give {x:Str} {p:Addr}:H p=some (.tup [.str "give",.str x])->IsB H (.give x) p
 |lt {x:Str} {d:De} {b:Bd} {p q r:Addr}:H p=some (.tup [.str "let",.str x,.ref q,.ref r])->IsDe H d q->IsB H b r->IsB H (.lt x d b) p
 |iff {x:Str} {a b:Bd} {p q r:Addr}:H p=some (.tup [.str "if",.str x,.ref q,.ref r])->IsB H a q->IsB H b r->IsB H (.iff x a b) p
 |case{x:Str} {as:Arms} {ps:List Addr} {p q:Addr}:H p=some (.tup [.str "case",.str x,.ref q])->H q=some (.tup (ps.map V.ref))->0 < ps.length->IsA H as ps->IsB H (.case x as) p
inductive IsA(H:Hp):Arms->List Addr->Prop
 |nil:IsA H .nil []
 |cons {t:Str} {ns:List Str} {b:Bd} {r:Arms} {p q s:Addr} {ps:List Addr}:H p=some (.tup [.str t,.ref q,.ref s])->H q=some (.tup (ns.map V.str))->IsB H b s->IsA H r ps->IsA H (.cons t ns b r) (p::ps)
end
mutual
theorem IsB.keep{H H':Hp}(t:Tups H H'):∀{b:Bd}{p:Addr},IsB H b p->IsB H' b p
 |_,_,.give a=>.give (t _ _ a)
 |_,_,.lt a d b=>.lt (t _ _ a) (d.keep t) (IsB.keep t b)
 |_,_,.iff a b c=>.iff (t _ _ a) (IsB.keep t b) (IsB.keep t c)
 |_,_,.case a b l c=>.case (t _ _ a) (t _ _ b) l (IsA.keep t c)
theorem IsA.keep{H H':Hp}(t:Tups H H'):∀{b:Arms}{p:List Addr},IsA H b p->IsA H' b p
 |_,_,.nil=>.nil
 |_,_,.cons a b c d=>.cons (t _ _ a) (t _ _ b) (IsB.keep t c) (IsA.keep t d)
end
theorem IsA.app{H:Hp}{b:Arms}{q:List Addr}(g:IsA H b q):∀{a:Arms}{p:List Addr},IsA H a p->IsA H (Arms.app a b) (p++q)
 |_,_,.nil=>by unfold Arms.app;exact g
 |_,_,.cons x y z r=>by unfold Arms.app;exact .cons x y z (IsA.app g r)
theorem IsA.rev{H:Hp}:∀{a:Arms}{p:List Addr},IsA H a p->IsA H (Arms.rev a) p.reverse
 |_,_,.nil=>.nil
 |_,_,.cons x y z r=>by
  unfold Arms.rev
  rw[tD]
  exact IsA.app (.cons x y z .nil) (IsA.rev r)
def CB:Nat->Nat
 |0=>0
 |n+1=>3*CB n+300
def SZ:Nat->Nat
 |0=>0
 |n+1=>3*SZ n+40
mutual
def Bd.binds:Bd->List Str
 |.give _=>[]
 |.lt x _ b=>x::b.binds
 |.iff _ a b=>a.binds++b.binds
 |.case _ as=>as.binds
def Arms.binds:Arms->List Str
 |.nil=>[]
 |.cons _ ns b r=>ns++(b.binds++r.binds)
end
def Bnm(o:Wo)(k m:Nat)(l:List Str):Prop:=∀x∈l,∃j,k<=j/\j < m/\x=nm o.z o.b j
theorem Bnm.mono{o:Wo}{k k' m:Nat}{l:List Str}(h:Bnm o k m l)(e:k'<=k):Bnm o k' m l:=fun x hx=>let ⟨j,a,b,c⟩:=h x hx;⟨j,Uc e a,b,c⟩
theorem Bnm.app{o:Wo}{k m:Nat}{l l':List Str}(h:Bnm o k m l)(h':Bnm o k m l'):Bnm o k m (l++l'):=fun x hx=>(uE.mp hx).elim (h x) (h' x)
theorem Bnm.nil{o:Wo}{k m:Nat}:Bnm o k m []:=fun x hx=>by cases hx
theorem Arms.binds_app:∀(a b:Arms),(Arms.app a b).binds=a.binds++b.binds
 |.nil,b=>by unfold Arms.app;rw[Arms.binds];rfl
 |.cons t ns d r,b=>by unfold Arms.app;rw[Arms.binds,Arms.binds,Arms.binds_app r b,Ur,Ur]
theorem Bnm.rev{o:Wo}{k m:Nat}:∀{a:Arms},Bnm o k m a.binds->Bnm o k m a.rev.binds
 |.nil,h=>h
 |.cons t ns d r,h=>by
  unfold Arms.rev
  rw[Arms.binds_app]
  rw[Arms.binds]at h
  refine Bnm.app (Bnm.rev fun x hx=>h x (uo _ (uo _ hx))) ?_
  rw[Arms.binds,Arms.binds,ux]
  exact fun x hx=>h x ((uE.mp hx).elim (uB _) fun y=>uo _ (uB _ y))
def Zh(K:ub):Sp:=fun vs H Q _=>∃(st:Addr)(room:Int)(m B:Nat),vs=[.ref st,.int room,.int (m:Nat)]/\1<=room/\1<=m/\m<=10/\Sta K H st B/\B+1 < LIM/\∀(H':Hp)(p:Addr)(rs:List Int),Kp st H H'->Sta K H' st (B+1)->H p=none->H' p=some (.lst (rs.map V.int))->rs.length=m->(∀x∈rs,0<=x/\x<=room-1)->Q (.ref p) H'
def wJ(K:ub)(n:Nat):Sp:=fun vs H Q _=>∃(st sc w:Addr)(k a B:Nat)(room:Int)(l:List (Str×Int))(o:Wo),vs=[.ref st,.ref sc,.int (k:Nat),.int room,.ref w,.int (a:Nat)]/\a < 3/\Sta K H st B/\B+CB n < LIM/\Sc H l sc/\IsW H o w/\room.toNat+(if l=[]then 1 else 0)+1<=n/\l.length+10*n<=900/\k+10*n<=900/\∀(H':Hp)(p:Addr)(b:Bd),Kp st H H'->Sta K H' st (B+CB n)->IsB H' b p->b.sz<=SZ n->b.dp<=n->Bnm o k 900 b.binds->Q (.ref p) H'
def VV(K:ub)(n:Nat):Sp:=fun vs H Q _=>∃(st sc w:Addr)(k a B:Nat)(room:Int)(l:List (Str×Int))(o:Wo),vs=[.ref st,.ref sc,.int (k:Nat),.int room,.ref w,.int (a:Nat)]/\a < 3/\Sta K H st B/\B+(3*CB n+10) < LIM/\Sc H l sc/\l≠[]/\IsW H o w/\1<=room/\room.toNat<=n/\l.length+10*(n+1)<=900/\k+10*(n+1)<=900/\∀(H':Hp)(p:Addr)(b:Bd),Kp st H H'->Sta K H' st (B+(3*CB n+10))->IsB H' b p->b.sz<=3*SZ n+31->b.dp<=n+1->Bnm o k 900 b.binds->Q (.ref p) H'
theorem wb{H:Hp}:∀{xs:List Str}{ys:List Int}{ps:List Addr},ps.length=min (xs.map V.str).length (ys.map V.int).length->(∀(i:Nat) x y,(xs.map V.str)[i]?=some x->(ys.map V.int)[i]?=some y->∃t,ps[i]?=some t/\H t=some (.tup [x,y]))->Tps H (xs.zip ys) ps
 |[],_,ps,hl,_=>by
  have:ps=[]:=Ux.mp (by simpa using hl)
  rw[this]
  exact .nil
 |_::_,[],ps,hl,_=>by
  have:ps=[]:=Ux.mp (by simpa using hl)
  rw[this]
  exact .nil
 |x::xs,y::ys,[],hl,_=>by simp at hl
 |x::xs,y::ys,p::ps,hl,h=>by
  obtain⟨t,h1,h2⟩:=h 0 (.str x) (.int y) rfl rfl
  have e:p=t:=by simpa using h1
  refine .cons (by rw[e];exact h2) (wb (by simp only[uH,ul]at hl;lia) fun i u v hu hv=>?_)
  obtain⟨t,h1,h2⟩:=h (i+1) u v (by simpa using hu) (by simpa using hv)
  exact⟨t,by simpa using h1,h2⟩
section
variable{P:Program}{w:World}{K:ub}{mg:Str->Option Value}{base:Heap}{f:Addr}{fd:FuncData}
theorem scRooms:FnScope ["_law_state","_law_room","_law_many","_law_rooms_here"] lS16 (zo YL):=.ok
theorem QW:(["_law_state","_law_room","_law_many","_law_rooms_here","_law_k"]:List Str).Nodup:=by decide +kernel
theorem VW(F:Fun K "_law_rooms" "_law_rooms" YL f fd)(GD:Ca P w K mg base CX0 1 "_law_draw" lS2 (yz K))(m_range:mg "range"=none):FnOk P w K mg base CX0 2 f fd lS16 (Zh K):=by
 refine F.by scRooms (fun vs H Q E h=>?_) (fun cdv A outer s H vs Q E hr h=>?_)
 ·obtain⟨st,room,m,B,rfl,_⟩:=h
  rfl
 obtain⟨st,room,m,B,rfl,h1,m1,m2,S0,hB,q⟩:=h
 refine⟨_,
  (zg (yq ["_law_k"] (i:=3) scRooms.nd rfl (Or.inl rfl) rfl (zV rfl m_range (jA1 (jv 2))) (fun _ _ _ _ _=>(gN 4 QW)) (fun _ _ _ _ _=>zT) (fun _ _ _ _ _=>(zx xc (zx yr (jv 1) zj) zj)))
  (zg (yV (zx yr (jv 1) zj) (XA (jv 3) (cA GD hr (jA2 (jv 0) (jv 2)))))
  (zh (zq (jv 3))))),?_⟩
 have sl:=zF
 have LM:LIM=4611686018427387904:=rfl
 refine⟨_,rfl,_,rfl,by lia,by lia,yx (n:=m) (fun i τ ys H'=>H=H'/\(∃x,τ=[some (.ref st),some (.int room),some (.int (m:Nat)),none,x])/\∃rs:List Int,ys=rs.map V.int/\rs.length=i/\∀x∈rs,0<=x/\x<=room-1) ⟨rfl,⟨none,rfl⟩,[],rfl,rfl,fun x hx=>by cases hx⟩ ?_ ?_⟩
 ·rintro i τ ys H1 hi ⟨rfl,⟨x,rfl⟩,rs,rfl,hl,hx⟩
  refine⟨_,rfl,_,_,rfl,rfl,_,_,rfl,rfl,⟨by decide,by decide⟩,by rw[ua];lia,rfl,⟨_,rfl⟩,rs++[(room-1) / 3],by rw[ut];rfl,by simp[hl],fun y hy=>?_⟩
  rcases uE.mp hy with hy|hy
  ·exact hx y hy
  ·rw[uj.mp hy]
   lia
 rintro τ ys H1 ⟨rfl,_,rs,rfl,hl,hx⟩ p hp
 have S1:=S0.new hp (.lst (rs.map V.int))
 refine⟨_,rfl,_,_,rfl,rfl,_,rfl,_,rfl,_,rfl,st,_,_,rfl,S1,by lia,by lia,fun H2 r k2 S2 r0 r1=>?_⟩
 have hp2:=k2.k _ _ (S0.ne hp) (upd_same (H:=H) (a:=p) (o:=.lst (rs.map V.int)))
 have k02:=(Kp.refl.new (o:=.lst (rs.map V.int)) hp).trans k2
 have ix:ixN (rs.map V.int).length r=some r.toNat:=by
  unfold ixN
  rw[if_pos r0,if_pos (by rw[ua];lia)]
 refine⟨p,_,r,r.toNat,rfl,rfl,hp2,ix,_,rfl,?_⟩
 have es:(rs.map V.int).set r.toNat (.int (room-1))=(rs.set r.toNat (room-1)).map V.int:=by rw[List.map_set]
 show Q (.ref p) (upd H2 p (.lst ((rs.map V.int).set r.toNat (.int (room-1)))))
 rw[es]
 refine q _ p _ (k02.put hp) (Sta.put S0 hp k02 S2) hp upd_same (by simp[hl]) fun y hy=>?_
 rcases List.mem_or_eq_of_mem_set hy with hy|hy
 ·exact hx y hy
 ·rw[hy]
  lia
theorem jt{o:Wo}(h:WOk o){s:Int}(hs:s=1\/s=2):1<=(o.tags.filter fun p=>decide (V.int p.2.2=V.int s)).length/\(o.tags.filter fun p=>decide (V.int p.2.2=V.int s)).length<=3:=by
 have e:(o.tags.filter fun p=>decide (V.int p.2.2=V.int s)).length=((o.tags.map (·.2.2)).filter fun x=>decide (V.int x=V.int s)).length:=by
  rw[List.filter_map,ua]
  rfl
 rw[e,h.tk]
 rcases hs with rfl|rfl
 ·exact⟨by decide,by decide⟩
 ·exact⟨by decide,by decide⟩
theorem scCase:FnScope ["_law_state","_law_scope","_law_k","_law_room","_law_world_here","_law_at","_law_sort","_law_x","_law_arms","_law_tags","_law_one","_law_left","_law_names","_law_more"] lS1 (zo VL):=.ok
theorem zce:(["_law_state","_law_scope","_law_k","_law_room","_law_world_here","_law_at","_law_sort","_law_x","_law_arms","_law_tags","_law_one","_law_left","_law_names","_law_more","_law_j"]:List Str).Nodup:=by decide +kernel
theorem QX{n:Nat}(F:Fun K "_law_case" "_law_case" VL f fd)(GD:Ca P w K mg base CX0 1 "_law_draw" lS2 (yz K))(GN':Ca P w K mg base CX0 1 "_law_name" lS4 spNm)(GK:Ca P w K mg base CX0 2 "_law_pick" lS6 (vL K))(GR:Ca P w K mg base CX0 2 "_law_rooms" lS16 (Zh K))(GB:Ca P w K mg base CX0 (6+2*n) "_law_body" lS1 (wJ K n))(m_len:mg "len"=none)(m_range:mg "range"=none)(m_zip:mg "zip"=none)(m_list:mg "list"=none)(m_tuple:mg "tuple"=none):FnOk P w K mg base CX0 (7+2*n) f fd lS1 (VV K n):=by
 rw[show 7+2*n=(6+2*n)+1 by lia]
 refine F.by scCase (fun vs H Q E h=>?_) (fun cdv A outer s H vs Q E hr h=>?_)
 ·obtain⟨st,sc,w,k,a,B,room,l,o,rfl,_⟩:=h
  rfl
 obtain⟨st,sc,w0,k,a,B,room,l,o,rfl,ha,S0,hB,hSc,hl0,hW,hroom,hrn,hln,hkn,q⟩:=h
 have hr1:Room 1 _:=hr.mono (by lia)
 have hr2:Room 2 _:=hr.mono (by lia)
 refine⟨_,
  (zg (sE 6 scCase.nd (zx zU zj (zx xc (cA GD hr1 (jA2 (jv 0) zj)) zj)))
  (zg (sE 7 scCase.nd (cA GK hr2 (jA3 (jv 0) (jv 1) (jv 6))))
  (zg (sE 8 scCase.nd (zB zE))
  (zg (ZG [10] [] (i:=9) scCase.nd rfl (Or.inl rfl) rfl (zG (xL 4)) (fun _ _ _ _ _=>(gN 10 scCase.nd)) (fun _ _ _ _ _=>(yL (tN zA (zP (z9 K) (jv 10) zj (fun _ _=>rfl)) (jv 6)))) (fun _ _ _ _ _=>(jv 10)))
  (zg (zK PassesOwn.never rfl (Vs rfl m_zip (jA2 (jv 9) (cA GR hr2 (jA3 (jv 0) (jv 3) (jL m_len (jv 9)))))) (yi rfl (zv (gN 10 scCase.nd) (zv (gN 11 scCase.nd) zM)))
   (zg (yq ["_law_j"] (i:=12) scCase.nd rfl (Or.inl rfl) rfl (zV rfl m_range (jA1 (jL m_len (xT 10)))) (fun _ _ _ _ _=>(gN 14 zce)) (fun _ _ _ _ _=>zT) (fun _ _ _ _ _=>(cA GN' hr1 (jA2 (jv 4) (zx zU (jv 2) (jv 14))))))
   (zg (sE 13 scCase.nd (zx yP (jv 1) (w5 rfl rfl m_list rfl m_zip (jA2 (jv 12) (xT 10)))))
   (zh (zD (yu uz uI uJ zH (jv 8) (jA1 (zu (jA3 (xT 10) (yy zR rfl m_tuple uY (jA1 (jv 12))) (cA GB hr (jA6 (jv 0) (jv 13) (zx zU (jv 2) (jL m_len (jv 12))) (jv 11) (jv 4) (jv 5))))))))))))
  (zg (zy (tN zA (cA GD hr1 (jA2 (jv 0) zj)) zj)
   (zh (zD (YA uz PySem.F.slot_list_reverse PySem.F.type_list_reverse YR (jv 8)))) zt)
  (zh (zq (zu (jA3 zp (jv 7) (yy zR rfl m_tuple uY (jA1 (jv 8))))))))))))),?_⟩
 have sl:=zF
 have LM:LIM=4611686018427387904:=rfl
 refine cut4 fun r1_ hr1_=>?_
 refine⟨_,rfl,st,4,B,rfl,S0,by lia,by decide,fun H1 r k1 S1 r0 r1=>⟨_,_,rfl,rfl,⟨by decide,by decide⟩,_,_,rfl,rfl,?_⟩⟩
 have hsort:1+r / 3=1\/1+r / 3=2:=by lia
 show(tSeq _ _:TS) _ [some (.ref st),some (.ref sc),some (.int (k:Nat)),some (.int room),some (.ref w0),some (.int (a:Nat)),some (.int (1+r / 3)),none,none,none,none,none,none,none] H1
 generalize 1+r / 3=so at *
 refine⟨_,rfl,_,rfl,_,rfl,st,sc,so,_,l,rfl,S1,by lia,hSc.kp S0 k1,hl0,fun H2 x k2 S2 hx=>?_⟩
 refine⟨sN0,fun pa h3=>?_⟩
 have k12:=k1.trans k2
 have k3:=k12.new (o:=.lst []) h3
 have S3:=S2.new h3 (.lst [])
 have npa:=S2.ne h3
 have fpa:H pa=none:=k12.free npa h3
 have hpa:=upd_same (H:=H2) (a:=pa) (o:=.lst [])
 generalize upd H2 pa (.lst [])=H3 at *
 obtain⟨⟨tl,dl,tt,ds,hw0,htl0,hdl0,hTt,hTd⟩,wok⟩:=id hW
 have hw:=k3.k _ _ (S0.neW hw0) hw0
 have htl:=k3.k _ _ (S0.neR htl0) htl0
 have tlen:=wok.tlen
 have htt:=hTt.len
 refine⟨_,rfl,ixL hw aI2 ⟨tl,rfl,⟨_,SqL.of htl⟩,zY (xs:=tt.map V.ref) (fun j τ ys H'=>H3=H'/\(∃v,τ=[some (.ref st),some (.ref sc),some (.int (k:Nat)),some (.int room),some (.ref w0),some (.int (a:Nat)),some (.int so),some (.str x),some (.ref pa),none,v,none,none,none])/\∃fs:List Addr,ys=fs.map V.ref/\fs.length<=j/\Tri H ((o.tags.take j).filter fun p=>decide (V.int p.2.2=V.int so)) fs) ⟨rfl,⟨none,rfl⟩,[],rfl,uW _,.nil⟩ (fun j τ ys H' _ h=>by rw[<- h.1];exact SqL.of htl) ?_ ?_⟩⟩
 ·rintro j v τ ys H4 hv ⟨rfl,⟨v',rfl⟩,fs,rfl,hj,hf⟩
  rw[ue]at hv
  obtain⟨t,ht,rfl⟩:=uh.mp hv
  obtain⟨z,ss,g,sq,e1,e2,e3⟩:=hTt.get ht
  have hjl:j < o.tags.length:=(uc.mp e1).1
  have tf:=xu (fun p:Str×List Int×Int=>decide (V.int p.2.2=V.int so)) e1
  refine⟨_,rfl,ixT (k3.tups S0 _ _ e2) aI2 ⟨_,rfl,rfl,_,rfl,?_⟩⟩
  refine ite2 (fun c=>?_) (fun c=>?_)
  ·refine⟨_,rfl,by rw[ua];lia,rfl,⟨_,rfl⟩,fs++[t],by simp,by simp;lia,?_⟩
   rw[tf,if_pos c]
   exact hf.app (.cons e2 e3 .nil)
  ·refine⟨rfl,⟨_,rfl⟩,fs,rfl,by lia,?_⟩
   rw[tf,if_neg c,ux]
   exact hf
 rintro τ ys H4 ⟨rfl,_,fs,rfl,_,hf⟩ pt h4
 rw[ua,<- htt,uk (ud _)]at hf
 obtain⟨fl1,fl2⟩:=jt wok hsort
 have ftl:∀p∈o.tags.filter (fun p=>decide (V.int p.2.2=V.int so)),p.2.1.length<=9/\So p.2.1:=fun p hp=>wok.ts p (UW.mp hp).1
 generalize o.tags.filter (fun p=>decide (V.int p.2.2=V.int so))=fl at *
 have hfl:=hf.len
 have S4:=S3.new h4 (.lst (fs.map V.ref))
 have k4:=k3.new (o:=.lst (fs.map V.ref)) h4
 have hpt:=upd_same (H:=H3) (a:=pt) (o:=.lst (fs.map V.ref))
 have npt:pt≠pa:=(zk hpa h4).symm
 replace hpa:=old (o:=.lst (fs.map V.ref)) h4 hpa
 generalize upd H3 pt (.lst (fs.map V.ref))=H4 at *
 subst hr1_
 refine⟨_,rfl,_,rfl,_,rfl,_,rfl,_,_,rfl,.inl (SqL.of hpt),st,room,(fs.map V.ref).length,_,rfl,hroom,by rw[ua];lia,by rw[ua];lia,S4,by lia,fun H5 pr rs k5 S5 fpr hpr hrl hrs=>?_⟩
 rw[ua]at hrl
 have npr:pr≠pa:=(zk hpa fpr).symm
 have npt':=S4.neR hpt
 replace hpt:=k5.k _ _ npt' hpt
 replace hpa:=k5.k _ _ npa hpa
 replace k5:=k4.trans k5
 clear hw htl k4 S4
 have hSc5:=hSc.kp S0 k5
 have hW5:=hW.kp S0 k5
 have npr':=S5.neI hpr
 let Fx:Hp->Prop:=fun H'=>(∀b u,b≠st->b≠pa->H5 b=some u->H' b=some u)
 have Fx.kp:∀{H1 H2:Hp},Fx H1->Kp st H1 H2->Fx H2:=fun f k b u n1 n2 h=>k.k _ _ n1 (f b u n1 n2 h)
 have Fx.pa:∀{H1:Hp}{o:HO},Fx H1->Fx (upd H1 pa o):=fun f b u n1 n2 h=>by rw[zi n2];exact f b u n1 n2 h
 refine⟨_,_,true,true,_,_,rfl,SqK.l hpt,SqK.l hpr,Xx (xs:=fs.map V.ref) (ys:=rs.map V.int) (by rw[ua,ua];lia) (fun i σ H'=>Fx H'/\Kp st H H'/\Sta K H' st (B+4+i*CB n)/\(∃(as:List Addr)(ar:Arms),H' pa=some (.lst (as.map V.ref))/\as.length=i/\IsA H' ar as/\ar.sz<=i*(SZ n+10)/\ar.dp<=n/\Bnm o k 900 ar.binds)/\∃v1 v2 v3 v4,σ=[some (.ref st),some (.ref sc),some (.int (k:Nat)),some (.int room),some (.ref w0),some (.int (a:Nat)),some (.int so),some (.str x),some (.ref pa),some (.ref pt),v1,v2,v3,v4])
  ⟨fun b u _ _ h=>h,k5,(S5.mono (by lia)),⟨[],.nil,hpa,rfl,.nil,by rw[Arms.sz];lia,by rw[Arms.dp];lia,by rw[Arms.binds];exact Bnm.nil⟩,none,none,none,none,rfl⟩ (fun i σ H' _ h=>⟨SqK.l (h.1 _ _ npt' npt hpt),SqK.l (h.1 _ _ npr' npr hpr)⟩) ?_ ?_⟩
 ·rintro i v y T σ H1 hv hy hT ⟨fx,kp,S1,⟨as,ar,hpa1,hal,hA,hz,hdp,hbn⟩,v1,v2,v3,v4,rfl⟩
  rw[ue]at hv hy
  obtain⟨t,ht,rfl⟩:=uh.mp hv
  obtain⟨rr,hrr,rfl⟩:=uh.mp hy
  have hi:i < fs.length:=(uc.mp ht).1
  have hrx:=hrs rr (uq hrr)
  refine⟨_,_,rfl,SqT.of upd_same,rfl,_,_,rfl,_,_,rfl,rfl,?_⟩
  refine cutD (fun D' fin=>?_) (fun _ _ h=>h)
  refine cut2 fun r2_ hr2_=>?_
  replace fx:=Fx.kp fx (Kp.refl.new (o:=.tup [.ref t,.int rr]) hT)
  replace kp:=kp.new (o:=.tup [.ref t,.int rr]) hT
  replace S1:=S1.new hT (.tup [.ref t,.int rr])
  replace hpa1:=old (o:=.tup [.ref t,.int rr]) hT hpa1
  replace hA:=hA.keep (.of (zn hT (.tup [.ref t,.int rr])))
  generalize upd H1 T (.tup [.ref t,.int rr])=H6 at *
  obtain⟨z,ss,g,sq,e1,e2,e3⟩:=(hf.kp S0 kp).get ht
  have hss:ss.length<=9/\So ss:=ftl _ (uq e1)
  have hw6:=kp.k _ _ (S0.neW hw0) hw0
  refine⟨_,rfl,ixT e2 aI1 ⟨_,_,rfl,.inl (SqL.of e3),_,rfl,by rw[ua];lia,by rw[ua];lia,yx (n:=(ss.map V.int).length) (fun j τ ys H'=>H6=H'/\(∃v,τ=[some (.ref st),some (.ref sc),some (.int (k:Nat)),some (.int room),some (.ref w0),some (.int (a:Nat)),some (.int so),some (.str x),some (.ref pa),some (.ref pt),some (.ref t),some (.int rr),v3,v4,v])/\ys=((uC j).map fun i=>nm o.z o.b (k+i)).map V.str) ⟨rfl,⟨none,rfl⟩,rfl⟩ ?_ ?_⟩⟩
  ·rintro j τ ys H7 hj ⟨rfl,⟨v,rfl⟩,rfl⟩
   rw[ua]at hj
   have ek:((k:Nat):Int)+(0+(j:Nat))=((k+j:Nat):Int):=by lia
   refine⟨_,rfl,_,rfl,_,rfl,_,_,rfl,rfl,w0,o.z,o.b,_,k+j,(by show[V.ref w0,V.int (((k:Nat):Int)+(0+(j:Nat)))]=_;rw[ek]),hw6,wok.z,by rw[ua,ua,Uw];lia,rfl,⟨_,rfl⟩,?_⟩
   rw[UR,ut,ut]
   rfl
  rintro τ ys H7 ⟨rfl,_,rfl⟩ pn hpn
  rw[ua]
  have nl:((uC ss.length).map fun i=>nm o.z o.b (k+i)).length=ss.length:=by rw[ua,Uw]
  have nb:Bnm o k 900 ((uC ss.length).map fun i=>nm o.z o.b (k+i)):=fun x hx=>by
   obtain⟨j,hj,rfl⟩:=uy.mp hx
   have:=Us.mp hj
   exact⟨k+j,UB _ _,by lia,rfl⟩
  generalize (uC ss.length).map (fun i=>nm o.z o.b (k+i))=NS at *
  replace fx:=Fx.kp fx (Kp.refl.new (o:=.lst (NS.map V.str)) hpn)
  have kp7:=kp.new (o:=.lst (NS.map V.str)) hpn
  replace S1:=S1.new hpn (.lst (NS.map V.str))
  replace hpa1:=old (o:=.lst (NS.map V.str)) hpn hpa1
  replace hA:=hA.keep (.of (zn hpn (.lst (NS.map V.str))))
  replace e2:=old (o:=.lst (NS.map V.str)) hpn e2
  replace e3:=old (o:=.lst (NS.map V.str)) hpn e3
  have hpn7:=upd_same (H:=H6) (a:=pn) (o:=.lst (NS.map V.str))
  generalize upd H6 pn (.lst (NS.map V.str))=H7 at *
  obtain⟨⟨ts,hsc,hTs⟩,scn,scs⟩:=id hSc
  have htl2:=hTs.len
  have npn:=S1.neS hpn7
  refine⟨_,rfl,_,rfl,_,rfl,ixT e2 aI1 ⟨pn,sq,_,_,rfl,.inl (SqL.of hpn7),.inl (SqL.of e3),fun H8 pz zs s8 f8 hpz hzl _ _ hpair=>?_⟩⟩
  have tz:=wb hzl hpair
  have hzl2:zs.length=ss.length:=by rw[hzl,ua,ua];lia
  have kp8:=kp7.trans (.of s8)
  refine⟨sc,pz,_,_,rfl,rfl,kp8.k _ _ (S0.neR hsc) hsc,hpz,by rw[ua,ua];lia,fun pm h9=>?_⟩
  rw[<- ut]
  have kp9:=kp8.new (o:=.lst ((ts++zs).map V.ref)) h9
  have s79:Same H7 (upd H8 pm (.lst ((ts++zs).map V.ref))):=s8.new h9
  have hpm:=upd_same (H:=H8) (a:=pm) (o:=.lst ((ts++zs).map V.ref))
  have tz9:=tz.keep (.of (zn h9 (.lst ((ts++zs).map V.ref))))
  have sc9:Sc (upd H8 pm (.lst ((ts++zs).map V.ref))) (l++NS.zip ss) pm:=by
   refine⟨⟨ts++zs,hpm,(hTs.keep (kp9.tups S0)).app tz9⟩,?_,fun p hp=>?_⟩
   ·rw[uf,UY]
    lia
   ·rcases uE.mp hp with hp|hp
    ·exact scs p hp
    ·have:=hss.2 p.2 (UI hp).2
     lia
  replace fx:=Fx.kp fx (.of s79)
  replace S1:=S1.same s79
  replace hpa1:=s79 _ _ hpa1
  replace hA:=hA.keep (.of s79)
  replace e2:=s79 _ _ e2
  replace hpn7:=s79 _ _ hpn7
  generalize upd H8 pm (.lst ((ts++zs).map V.ref))=H9 at *
  subst hr2_
  refine⟨_,rfl,.inl ⟨rfl,_,SqL.of hpa1⟩,_,rfl,ixT e2 aI0 ⟨_,rfl,pn,_,rfl,.inl ⟨SqL.of hpn7,fun pu h10=>?_⟩⟩⟩
  replace fx:=Fx.kp fx (Kp.refl.new (o:=.tup (NS.map V.str)) h10)
  have kp10:=kp9.new (o:=.tup (NS.map V.str)) h10
  replace S1:=S1.new h10 (.tup (NS.map V.str))
  replace hpa1:=old (o:=.tup (NS.map V.str)) h10 hpa1
  replace hA:=hA.keep (.of (zn h10 (.tup (NS.map V.str))))
  replace hpn7:=old (o:=.tup (NS.map V.str)) h10 hpn7
  replace sc9:=sc9.same (zn h10 (.tup (NS.map V.str)))
  have hpu:=upd_same (H:=H9) (a:=pu) (o:=.tup (NS.map V.str))
  generalize upd H9 pu (.tup (NS.map V.str))=H10 at *
  have hne:l++NS.zip ss≠[]:=fun e=>hl0 (List.append_eq_nil_iff.mp e).1
  have hbnd:B+4+i*CB n+CB n<=B+4+3*CB n:=by
   have:i+1<=3:=by lia
   have:=tE (CB n) this
   rw[tP]at this
   lia
  refine⟨_,rfl,_,rfl,_,rfl,_,rfl,_,_,rfl,.inl (SqL.of hpn7),_,_,rfl,rfl,_,rfl,_,rfl,_,rfl,st,pm,w0,k+(NS.map V.str).length,a,_,rr,l++NS.zip ss,o,rfl,ha,S1,by lia,sc9,hW.kp S0 kp10,?_,?_,by rw[ua];lia,fun H11 pb b k11 S11 hb hbz hbd hbb=>?_⟩
  ·rw[if_neg hne]
   lia
  ·rw[uf,UY]
   lia
  refine⟨sN3,fun tt h12=>?_⟩
  have hpa11:=k11.k _ _ npa hpa1
  have tp:Tups H10 (upd (upd H11 tt (.tup [.str z,.ref pu,.ref pb])) pa (.lst (as.map V.ref++[.ref tt]))):=fun p xs hp=>by
   have g:=k11.tups S1 _ _ hp
   rw[zi (yN g hpa11 (by intro e;cases e))]
   exact old h12 g
  have tp2:Tups H11 (upd (upd H11 tt (.tup [.str z,.ref pu,.ref pb])) pa (.lst (as.map V.ref++[.ref tt]))):=fun p xs g=>by
   rw[zi (yN g hpa11 (by intro e;cases e))]
   exact old h12 g
  have kp12:=(kp10.trans k11).new (o:=.tup [.str z,.ref pu,.ref pb]) h12
  refine⟨pa,_,_,rfl,rfl,old h12 hpa11,by rw[ua];lia,fin _ _ ⟨Fx.pa (Fx.kp fx (k11.new h12)),kp12.put fpa,Sta.put S0 fpa kp12 ((S11.mono ?_).new h12 _),⟨as++[tt],Arms.app ar (.cons z NS b .nil),by rw[upd_same];simp,by simp[hal],?_,?_,by rw[Arms.dp_app,Arms.dp,Arms.dp];lia,by rw[Arms.binds_app,Arms.binds,Arms.binds,ux];exact hbn.app (nb.app (hbb.mono (UB _ _)))⟩,_,_,_,_,rfl⟩⟩
  ·rw[tP]
   lia
  ·refine IsA.app (.cons ?_ (tp _ _ hpu) (hb.keep tp2) .nil) (hA.keep tp)
   rw[zi (zk hpa11 h12).symm]
   exact upd_same
  ·rw[Arms.sz_app,Arms.sz,Arms.sz,tP]
   lia
 rintro σ H6 ⟨fx,kp,S6,⟨as,ar,hpa6,hal,hA,hz,hdp,hbn⟩,v1,v2,v3,v4,rfl⟩
 rw[ua]at hal S6 hz
 have hl3:fs.length<=3:=by lia
 have hc3:=tE (CB n) hl3
 have hz3:=tE (SZ n+10) hl3
 refine(show ∀(u:TS)(D:Ends),(∀(H':Hp)(as:List Addr)(ar:Arms),Kp st H H'->Sta K H' st (B+(3*CB n+10))->H' pa=some (.lst (as.map V.ref))->IsA H' ar as->0 < as.length->ar.sz<=3*SZ n+30->ar.dp<=n->Bnm o k 900 ar.binds->u D [some (.ref st),some (.ref sc),some (.int (k:Nat)),some (.int room),some (.ref w0),some (.int (a:Nat)),some (.int so),some (.str x),some (.ref pa),some (.ref pt),v1,v2,v3,v4] H')->(tSeq _ (tSeq _ u):TS) D _ H6 from ?key) _ _ ?rest
 case key =>
  intro u D tail
  refine⟨_,rfl,st,2,_,rfl,S6,by lia,by decide,fun H7 r7 k7 S7 _ _=>?_⟩
  have hpa7:=k7.k _ _ npa hpa6
  have hA7:=hA.keep (k7.tups S6)
  have kp7:=kp.trans k7
  refine⟨rfl,_,rfl,?_⟩
  refine ite2 (fun _=>?_) (fun _=>?_)
  ·refine⟨_,rfl,.inl ⟨rfl,_,SqL.of hpa7⟩,pa,_,rfl,rfl,hpa7,?_⟩
   have tp:Tups H7 (upd H7 pa (.lst (as.map V.ref).reverse)):=fun p xs g=>by rw[zi (yN g hpa7 (by intro e;cases e))];exact g
   exact tail _ as.reverse ar.rev (kp7.put fpa) (Sta.put S0 fpa kp7 (S7.mono (by lia))) (by rw[upd_same,List.map_reverse]) ((hA7.rev).keep tp) (by rw[Uj];lia) (by rw[Arms.sz_rev];lia) (by rw[Arms.dp_rev];exact hdp) hbn.rev
  ·exact tail _ as ar kp7 (S7.mono (by lia)) hpa7 hA7 (by lia) (by lia) hdp hbn
 case rest =>
  intro H8 as ar k8 S8 hpa8 hA8 hl8 hz8 hd8 hb8
  refine⟨_,rfl,_,rfl,pa,_,rfl,.inl ⟨SqL.of hpa8,fun p9 h9=>⟨sN3,fun t h10=>?_⟩⟩⟩
  refine q _ t (.case x ar) ((k8.new h9).new h10) ((S8.new h9 _).new h10 _) (.case upd_same (old h10 upd_same) hl8 ((hA8.keep (.of (zn h9 _))).keep (.of (zn h10 _)))) ?_ ?_ (by rw[Bd.binds];exact hb8)
  ·rw[Bd.sz]
   lia
  ·rw[Bd.dp]
   lia
theorem scBody:FnScope ["_law_state","_law_scope","_law_k","_law_room","_law_world_here","_law_at","_law_way","_law_deed_here","_law_sort","_law_name_here","_law_rooms_here","_law_first"] lS1 (zo Xy):=.ok
theorem QY{n:Nat}(F:Fun K "_law_body" "_law_body" Xy f fd)(GD:Ca P w K mg base CX0 1 "_law_draw" lS2 (yz K))(GN':Ca P w K mg base CX0 1 "_law_name" lS4 spNm)(GK:Ca P w K mg base CX0 2 "_law_pick" lS6 (vL K))(GR:Ca P w K mg base CX0 2 "_law_rooms" lS16 (Zh K))(GE:Ca P w K mg base CX0 5 "_law_deed" lS8 (VT K))(GC:Ca P w K mg base CX0 (7+2*n) "_law_case" lS1 (VV K n))(GB:Ca P w K mg base CX0 (6+2*n) "_law_body" lS1 (wJ K n)):FnOk P w K mg base CX0 (6+2*(n+1)) f fd lS1 (wJ K (n+1)):=by
 rw[show 6+2*(n+1)=(7+2*n)+1 by lia]
 refine F.by scBody (fun vs H Q E h=>?_) (fun cdv A outer s H vs Q E hr h=>?_)
 ·obtain⟨st,sc,w,k,a,B,room,l,o,rfl,_⟩:=h
  rfl
 obtain⟨st,sc,w0,k,a,B,room,l,o,rfl,ha,S0,hB,hSc,hW,hme,hln,hkn,q⟩:=h
 have hr1:Room 1 _:=hr.mono (by lia)
 have hr2:Room 2 _:=hr.mono (by lia)
 have hr5:Room 5 _:=hr.mono (by lia)
 have hrB:Room (6+2*n) _:=hr.mono (by lia)
 refine⟨_,
  (zg (sE 6 scBody.nd (cA GD hr1 (jA2 (jv 0) zj)))
  (zg (zy (jW.pt (ya (tN (Vk hr) (jv 1) (zB zE)) (yc (jW.pt (xk (tN Vi (jv 3) zj) (xb (tN zA (jv 6) zj)))))))
   (zh (zq (zu (jA2 zp (cA GK hr2 (jA3 (jv 0) (jv 1) (zP zZ (xX zI (xL 4) (jv 5)) zj (fun _ _=>rfl)))))))) zt)
  (zg (zy (jW.pt (xk (tN (j3 hr) (jv 1) (zB zE)) (xk (tN Vi (jv 3) zj) (xb (tN wU (jv 6) zj)))))
   (zg (yV (cA GE hr5 (jA4 (jv 0) (jv 1) (jv 4) (jv 5))) (yi rfl (zv (gN 7 scBody.nd) (zv (gN 8 scBody.nd) zM))))
   (zg (sE 9 scBody.nd (cA GN' hr1 (jA2 (jv 4) (jv 2))))
   (zh (zq (zu (jA4 zp (jv 9) (jv 7) (cA GB hrB (jA6 (jv 0) (zx yP (jv 1) (zB (jA1 (zu (jA2 (jv 9) (jv 8)))))) (zx zU (jv 2) zj) (zx yr (jv 3) zj) (jv 4) (jv 5))))))))) zt)
  (zg (zy (tN jo (jv 6) zj)
   (zh (zq (cA GC hr (jA6 (jv 0) (jv 1) (jv 2) (jv 3) (jv 4) (jv 5))))) zt)
  (zg (sE 10 scBody.nd (cA GR hr2 (jA3 (jv 0) (jv 3) zj)))
  (zg (sE 11 scBody.nd (cA GB hrB (jA6 (jv 0) (jv 1) (jv 2) (xL 10) (jv 4) (jv 5))))
  (zh (zq (zu (jA4 zp (cA GK hr2 (jA3 (jv 0) (jv 1) zj)) (jv 11) (cA GB hrB (jA6 (jv 0) (jv 1) (jv 2) (xL 10) (jv 4) (jv 5))))))))))))),?_⟩
 have sl:=zF
 have LM:LIM=4611686018427387904:=rfl
 have cb:CB (n+1)=3*CB n+300:=rfl
 have sz:SZ (n+1)=3*SZ n+40:=rfl
 rw[cb]at hB q
 rw[sz]at q
 obtain⟨⟨ts,hsc,hT⟩,scn,scs⟩:=id hSc
 have htl:=hT.len
 have h0:l=[]↔ts=[]:=by
  rw[<- Ux,<- Ux,htl]
 refine(show ∀(uG uL uR:TS)(D:Ends),D.rt=Q->(∀(D':Ends)(H':Hp)(r:Int),D'.rt=Q->l≠[]->Kp st H H'->Sta K H' st (B+1)->uG D' [some (.ref st),some (.ref sc),some (.int (k:Nat)),some (.int room),some (.ref w0),some (.int (a:Nat)),some (.int r),none,none,none,none,none] H')->(∀(D':Ends)(H':Hp)(r:Int),D'.rt=Q->(l≠[]->1<=room)->Kp st H H'->Sta K H' st (B+1)->uL D' [some (.ref st),some (.ref sc),some (.int (k:Nat)),some (.int room),some (.ref w0),some (.int (a:Nat)),some (.int r),none,none,none,none,none] H')->(∀(H':Hp)(r:Int),l≠[]->1<=room->Kp st H H'->Sta K H' st (B+1)->uR D [some (.ref st),some (.ref sc),some (.int (k:Nat)),some (.int room),some (.ref w0),some (.int (a:Nat)),some (.int r),none,none,none,none,none] H')->(tSeq _ (tSeq (tIfS _ uG wQ) (tSeq (tIfS _ uL wQ) uR)):TS) D _ H from ?key) _ _ _ _ rfl ?g ?l ?r
 case key =>
  intro uG uL uR D hD hG hL hR
  refine⟨_,rfl,st,8,B,rfl,S0,by lia,by decide,fun H1 r k1 S1 r0 r1=>?_⟩
  refine⟨_,rfl,sN0,fun pe h2=>?_⟩
  have k2:=k1.new (o:=.lst []) h2
  have S2:=S1.new h2 (.lst [])
  have hsc2:=k2.k _ _ (S0.neR hsc) hsc
  refine⟨_,_,_,rfl,rfl,SqL.of hsc2,SqL.of upd_same,_,rfl,?_⟩
  show if(if true=true then !(ts.map V.ref).isEmpty else(ts.map V.ref).isEmpty)=true then _ else _
  generalize upd H1 pe (.lst [])=H2 at *
  have test3:∀(b:Bool),(ts.map V.ref).isEmpty=b->True:=fun _ _=>trivial
  by_cases he:ts=[]
  ·have e0:(ts.map V.ref).isEmpty=true:=by rw[he];rfl
   rw[e0]
   refine iteF ?_
   refine⟨_,rfl,sN0,fun pe3 h3=>?_⟩
   have k3:=k2.new (o:=.lst []) h3
   have S3:=S2.new h3 (.lst [])
   refine⟨_,_,_,rfl,rfl,SqL.of (old h3 hsc2),SqL.of upd_same,_,rfl,?_⟩
   show if(if false=true then !(ts.map V.ref).isEmpty else(ts.map V.ref).isEmpty)=true then _ else _
   rw[e0]
   exact iteT (hL _ _ r hD (fun e=>absurd (h0.mpr he) e) k3 S3)
  ·have e0:(ts.map V.ref).isEmpty=false:=by
    cases ts with
    |nil=>exact absurd rfl he
    |cons _ _=>rfl
   have hl0:l≠[]:=fun e=>he (h0.mp e)
   rw[e0]
   refine iteT ?_
   refine⟨_,rfl,_,_,rfl,rfl,_,rfl,?_⟩
   refine ite2 (fun _=>hG _ _ r hD hl0 k2 S2) (fun c=>?_)
   rw[decide_eq_true_eq]at c
   have hroom:1<=room:=by lia
   refine⟨_,rfl,rfl,_,rfl,?_⟩
   refine ite2 (fun _=>hG _ _ r hD hl0 k2 S2) (fun _=>?_)
   refine⟨_,rfl,sN0,fun pe3 h3=>?_⟩
   have k3:=k2.new (o:=.lst []) h3
   have S3:=S2.new h3 (.lst [])
   refine⟨_,_,_,rfl,rfl,SqL.of (old h3 hsc2),SqL.of upd_same,_,rfl,?_⟩
   show if(if false=true then !(ts.map V.ref).isEmpty else(ts.map V.ref).isEmpty)=true then _ else _
   rw[e0]
   refine iteF ?_
   refine⟨_,rfl,_,_,rfl,rfl,_,rfl,?_⟩
   refine ite2 (fun _=>hL _ _ r hD (fun _=>hroom) k3 S3) (fun _=>?_)
   refine⟨_,rfl,_,_,rfl,rfl,_,rfl,?_⟩
   exact ite2 (fun _=>hL _ _ r hD (fun _=>hroom) k3 S3) (fun _=>hR _ r hl0 hroom k3 S3)
 case g =>
  intro D' H1 r hD hl0 k1 S1
  obtain⟨⟨tl,dl,tt,ds,hw,htl1,hdl,hTt,hTd⟩,wok⟩:=hW.kp S0 k1
  have dlen:=wok.dlen
  have hdl2:=hTd.len
  obtain⟨t,ht⟩:∃t,ds[a]?=some t:=⟨_,ui (by lia)⟩
  obtain⟨z,ss,g,sq,e1,e2,e3⟩:=hTd.get ht
  have htr:(ds.map V.ref)[a]?=some (.ref t):=by rw[ue,ht];rfl
  refine⟨_,rfl,_,rfl,_,rfl,ixL hw aI3 ⟨_,rfl,dl,_,_,_,rfl,rfl,SqL.of hdl,zN htr,ixT e2 aI2 ⟨st,sc,g,_,l,rfl,S1,by lia,hSc.kp S0 k1,hl0,fun H2 x k2 S2 hx=>⟨sN2,fun t1 h3=>?_⟩⟩⟩⟩
  rw[hD]
  exact q _ t1 (.give x) ((k1.trans k2).new h3) ((S2.mono (by lia)).new h3 _) (.give upd_same) (by rw[Bd.sz];lia) (by rw[Bd.dp];lia) (by rw[Bd.binds];exact Bnm.nil)
 case l =>
  intro D' H1 r hD hroom k1 S1
  refine⟨_,rfl,_,rfl,_,rfl,_,rfl,st,sc,w0,_,l,o,a,rfl,ha,S1,by lia,hSc.kp S0 k1,hW.kp S0 k1,fun H2 p p' d g k2 S2 hp hd g0 g1 hu=>?_⟩
  refine⟨_,_,rfl,SqT.of hp,rfl,_,_,rfl,_,_,rfl,rfl,?_⟩
  have k12:=k1.trans k2
  obtain⟨⟨tl,dl,tt,ds,hw,htl1,hdl,hTt,hTd⟩,wok⟩:=hW.kp S0 k12
  refine⟨_,rfl,_,rfl,w0,o.z,o.b,_,k,rfl,hw,wok.z,?_⟩
  generalize hy:nm o.z o.b k=y
  refine⟨_,rfl,_,rfl,_,rfl,_,rfl,_,rfl,_,rfl,sN2,fun t1 h3=>⟨sN1,fun pl h4=>?_⟩⟩
  have k3:=k12.new (o:=.tup [.str y,.int g]) h3
  have k4:=k3.new (o:=.lst [.ref t1]) h4
  refine⟨sc,pl,_,_,rfl,rfl,k4.k _ _ (S0.neR hsc) hsc,upd_same,by rw[ua];show _+1<=_;lia,fun pm h5=>?_⟩
  have em:ts.map V.ref++[V.ref t1]=(ts++[t1]).map V.ref:=by rw[ut];rfl
  rw[em]
  have k5:=k4.new (o:=.lst ((ts++[t1]).map V.ref)) h5
  have S5:=((S2.new h3 (.tup [.str y,.int g])).new h4 (.lst [.ref t1])).new h5 (.lst ((ts++[t1]).map V.ref))
  have hd5:=(((hd.keep (.of (zn h3 (.tup [.str y,.int g])))).keep (.of (zn h4 (.lst [.ref t1])))).keep (.of (zn h5 (.lst ((ts++[t1]).map V.ref)))))
  have ht1:=old (o:=.lst ((ts++[t1]).map V.ref)) h5 (old (o:=.lst [.ref t1]) h4 (upd_same (H:=H2) (a:=t1) (o:=.tup [.str y,.int g])))
  have hpm:=upd_same (H:=upd (upd H2 t1 (.tup [.str y,.int g])) pl (.lst [.ref t1])) (a:=pm) (o:=.lst ((ts++[t1]).map V.ref))
  generalize upd (upd (upd H2 t1 (.tup [.str y,.int g])) pl (.lst [.ref t1])) pm (.lst ((ts++[t1]).map V.ref))=H5 at *
  have sc5:Sc H5 (l++[(y,g)]) pm:=by
   refine⟨⟨ts++[t1],hpm,(hT.keep (k5.tups S0)).app (.cons ht1 .nil)⟩,?_,fun x hx=>?_⟩
   ·rw[uf,uZ]
    lia
   ·rcases uE.mp hx with hx|hx
    ·exact scs x hx
    ·rw[uj.mp hx]
     exact⟨g0,g1⟩
  refine⟨_,rfl,_,_,rfl,rfl,_,rfl,_,_,rfl,rfl,_,rfl,_,rfl,st,pm,w0,k+1,a,_,room-1,l++[(y,g)],o,rfl,ha,S5,by lia,sc5,hW.kp S0 k5,?_,?_,by lia,fun H6 pb b k6 S6 hb hbz hbd hbb=>⟨sN4,fun t2 h7=>?_⟩⟩
  ·rw[if_neg (by simp)]
   by_cases e:l=[]
   ·rw[if_pos e]at hme
    lia
   ·rw[if_neg e]at hme
    have:=hroom e
    lia
  ·rw[uf,uZ]
   lia
  rw[hD]
  exact q _ t2 (.lt y d b) ((k5.trans k6).new h7) ((S6.mono (by lia)).new h7 _) (.lt upd_same ((hd5.keep (k6.tups S5)).keep (.of (zn h7 _))) (hb.keep (.of (zn h7 _)))) (by rw[Bd.sz];lia) (by rw[Bd.dp];lia) (by rw[Bd.binds];exact fun x hx=>(um.mp hx).elim (fun e=>⟨k,ud _,by lia,by rw[e,hy]⟩) (hbb.mono (tj _) x))
 case r =>
  intro H1 r hl0 hroom k1 S1
  rw[if_neg hl0]at hme
  refine⟨_,rfl,_,_,rfl,rfl,_,rfl,?_⟩
  refine ite2 (fun _=>?_) (fun _=>?_)
  ·refine⟨_,rfl,_,rfl,_,rfl,_,rfl,_,rfl,_,rfl,st,sc,w0,k,a,_,room,l,o,rfl,ha,S1,by lia,hSc.kp S0 k1,hl0,hW.kp S0 k1,hroom,by lia,by lia,by lia,fun H2 p b k2 S2 hb hbz hbd hbb=>?_⟩
   exact q _ p b (k1.trans k2) (S2.mono (by lia)) hb (by lia) hbd hbb
  refine⟨_,rfl,_,rfl,st,room,2,_,rfl,hroom,by decide,by decide,S1,by lia,fun H2 pr rs k2 S2 f2 hpr hrl hrs=>?_⟩
  have k12:=k1.trans k2
  obtain⟨r1,r2,rfl⟩:∃r1 r2,rs=[r1,r2]:=by
   match rs,hrl with
   |[x,y],_=>exact⟨x,y,rfl⟩
  have hr1':=hrs r1 (by simp)
  have hr2':=hrs r2 (by simp)
  refine⟨_,rfl,_,rfl,_,rfl,_,rfl,ixL hpr aI0 ⟨_,rfl,_,rfl,st,sc,w0,k,a,_,r1,l,o,rfl,ha,S2,by lia,hSc.kp S0 k12,hW.kp S0 k12,?_,by lia,by lia,fun H3 p1 b1 k3 S3 hb1 hz1 hd1 hn1=>?_⟩⟩
  ·rw[if_neg hl0]
   lia
  have k13:=k12.trans k3
  have hpr3:=k3.k _ _ (S2.neI hpr) hpr
  refine⟨_,rfl,_,rfl,st,sc,0,_,l,rfl,S3,by lia,hSc.kp S0 k13,hl0,fun H4 x k4 S4 hx=>?_⟩
  have k14:=k13.trans k4
  refine⟨_,rfl,_,rfl,_,rfl,_,rfl,_,rfl,ixL (k4.k _ _ (S3.neI hpr3) hpr3) aI1 ⟨_,rfl,_,rfl,st,sc,w0,k,a,_,r2,l,o,rfl,ha,S4,by lia,hSc.kp S0 k14,hW.kp S0 k14,?_,by lia,by lia,fun H5 p2 b2 k5 S5 hb2 hz2 hd2 hn2=>⟨sN4,fun t2 h7=>?_⟩⟩⟩
  ·rw[if_neg hl0]
   lia
  exact q _ t2 (.iff x b1 b2) ((k14.trans k5).new h7) ((S5.mono (by lia)).new h7 _) (.iff upd_same (((hb1.keep (k4.tups S3)).keep (k5.tups S4)).keep (.of (zn h7 _))) (hb2.keep (.of (zn h7 _)))) (by rw[Bd.sz];lia) (by rw[Bd.dp];lia) (by rw[Bd.binds];exact hn1.app hn2)
structure Df where
 z:Str
 ns:List Str
 b:Bd
structure IsF(H:Hp)(d:Df)(p:Addr):Prop where
 ex:∃q pb,H p=some (.tup [.str d.z,.ref q,.ref pb])/\H q=some (.tup (d.ns.map V.str))/\IsB H d.b pb
theorem IsF.keep{H H':Hp}{d:Df}{p:Addr}(h:IsF H d p)(t:Tups H H'):IsF H' d p:=let ⟨q,pb,h1,h2,h3⟩:=h.ex;⟨q,pb,t _ _ h1,t _ _ h2,h3.keep t⟩
inductive IsFs(H:Hp):List Df->List Addr->Prop
 |nil:IsFs H [] []
 |cons {d:Df} {p:Addr} {ds:List Df} {ps:List Addr}:IsF H d p->IsFs H ds ps->IsFs H (d::ds) (p::ps)
theorem IsFs.keep{H H':Hp}{d:List Df}{p:List Addr}(h:IsFs H d p)(t:Tups H H'):IsFs H' d p:=by
 induction h with
 |nil=>exact .nil
 |cons a _ ih=>exact .cons (a.keep t) ih
theorem IsFs.app{H:Hp}{a b:List Df}{p q:List Addr}(h:IsFs H a p)(g:IsFs H b q):IsFs H (a++b) (p++q):=by
 induction h with
 |nil=>exact g
 |cons x _ ih=>exact .cons x ih
theorem IsFs.len{H:Hp}{l:List Df}{ts:List Addr}(h:IsFs H l ts):l.length=ts.length:=by
 induction h with
 |nil=>rfl
 |cons _ _ ih=>rw[ul,ul,ih]
theorem IsFs.get{H:Hp}:∀{l:List Df}{ts:List Addr}{i:Nat}{t:Addr},IsFs H l ts->ts[i]?=some t->∃d,l[i]?=some d/\IsF H d t
 |_,_,_,_,.nil,e=>by simp at e
 |_,_,0,_,.cons a _,e=>by
  simp at e
  subst e
  exact⟨_,rfl,a⟩
 |_,_,i+1,_,.cons _ b,e=>by
  obtain⟨d,h1,h2⟩:=IsFs.get (i:=i) b (by simpa using e)
  exact⟨d,by simpa using h1,h2⟩
def FOk(n:Nat)(d:Df):Prop:=d.ns.length<=3/\d.b.sz<=SZ n/\d.b.dp<=n
structure FNm(o:Wo)(d:Df):Prop where
 n:d.ns=(uC d.ns.length).map fun i=>nm o.z o.b i
 b:Bnm o d.ns.length 900 d.b.binds
 s:∃s∈o.defs,s.1=d.z/\s.2.1.length=d.ns.length
def zbe(K:ub)(n:Nat):Sp:=fun vs H Q _=>∃(st w:Addr)(a B:Nat)(room:Int)(o:Wo),vs=[.ref st,.ref w,.int (a:Nat),.int room]/\a < 3/\Sta K H st B/\B+CB n < LIM/\IsW H o w/\room.toNat+2<=n/\10*n<=800/\∀(H':Hp)(p:Addr)(d:Df),Kp st H H'->Sta K H' st (B+CB n)->IsF H' d p->FOk n d/\FNm o d->d.z=nm o.z o.b (2-a)->Q (.ref p) H'
def kd(o:Wo):List (Str×Int):=o.tags.map fun t=>(t.1,((t.2.1.length:Nat):Int))
def XE:Sp:=fun vs H Q _=>∃(w:Addr)(o:Wo),vs=[.ref w]/\IsW H o w/\∀(H':Hp)(p p1 p2:Addr)(t1 t2:List Addr),Same H H'->H' p=some (.tup [.ref p1,.ref p2])->H' p1=some (.tup (t1.map V.ref))->H' p2=some (.tup (t2.map V.ref))->Tps H' ((kd o).take 3) t1->Tps H' ((kd o).drop 3) t2->Q (.ref p) H'
def ju(K:ub)(n:Nat):Sp:=fun vs H Q _=>∃(st w:Addr)(B:Nat)(room:Int)(o:Wo),vs=[.ref st,.ref w,.int room]/\Sta K H st B/\B+3*CB n < LIM/\IsW H o w/\room.toNat+2<=n/\10*n<=800/\∀(H':Hp)(p pk pd p1 p2:Addr)(t1 t2 ds:List Addr)(dfs:List Df),Kp st H H'->Sta K H' st (B+3*CB n)->H' p=some (.tup [.ref pk,.ref pd])->H' pk=some (.tup [.ref p1,.ref p2])->H' p1=some (.tup (t1.map V.ref))->H' p2=some (.tup (t2.map V.ref))->Tps H' ((kd o).take 3) t1->Tps H' ((kd o).drop 3) t2->H' pd=some (.tup (ds.map V.ref))->IsFs H' dfs ds->ds.length=3->(∀d∈dfs,FOk n d/\FNm o d)->dfs.map (·.z)=(uC 3).map (fun k=>nm o.z o.b (2-k))->Q (.ref p) H'
theorem Tps.take{H:Hp}{l:List (Str×Int)}{ts:List Addr}(h:Tps H l ts)(n:Nat):Tps H (l.take n) (ts.take n):=by
 induction h generalizing n with
 |nil=>rw[List.take_nil,List.take_nil];exact .nil
 |cons a _ ih =>
  cases n with
  |zero=>exact .nil
  |succ n=>rw[List.take_succ_cons,List.take_succ_cons];exact .cons a (ih n)
theorem Tps.drop{H:Hp}{l:List (Str×Int)}{ts:List Addr}(h:Tps H l ts)(n:Nat):Tps H (l.drop n) (ts.drop n):=by
 induction h generalizing n with
 |nil=>rw[List.drop_nil,List.drop_nil];exact .nil
 |cons a b ih =>
  cases n with
  |zero=>exact .cons a b
  |succ n=>rw[List.drop_succ_cons,List.drop_succ_cons];exact ih n
theorem ZY{α:Type}{f:α->V}{s:List α}{m:Int}(h:0<=m):cutV (s.map f) (some m) none=(s.drop m.toNat).map f:=by
 unfold cutV
 have c2:HT.sIx (s.map f).length (s.map f).length none=(s.map f).length:=rfl
 have c1:HT.sIx (s.map f).length 0 (some m)=min m.toNat (s.map f).length:=by
  show(if m < 0 then(m+((s.map f).length:Nat)).toNat else min m.toNat (s.map f).length)=_
  rw[if_neg (by lia)]
 rw[c1,c2,List.map_drop]
 rcases Nat.le_total m.toNat (s.map f).length with c|c
 ·rw[Nat.min_eq_left c]
  exact uk (by simp)
 ·rw[Nat.min_eq_right c,List.drop_of_length_le (ud _),List.drop_of_length_le c]
  exact List.take_nil
theorem VX(F:Fun K "_law_body" "_law_body" Xy f fd):FnOk P w K mg base CX0 (6+2*0) f fd lS1 (wJ K 0):=by
 refine F.by scBody (fun vs H Q E h=>?_) (fun cdv A outer s H vs Q E hr h=>?_)
 ·obtain⟨st,sc,w,k,a,B,room,l,o,rfl,_⟩:=h
  rfl
 ·obtain⟨st,sc,w,k,a,B,room,l,o,rfl,_,_,_,_,_,hme,_⟩:=h
  lia
theorem scDef:FnScope ["_law_state","_law_world_here","_law_at","_law_room","_law_name_here","_law_sorts_here","_law_gives","_law_params"] lS10 (zo sDef):=.ok
theorem zda:(["_law_state","_law_world_here","_law_at","_law_room","_law_name_here","_law_sorts_here","_law_gives","_law_params","_law_k"]:List Str).Nodup:=by decide +kernel
theorem zcf{n:Nat}(F:Fun K "_law_def" "_law_def" sDef f fd)(GN':Ca P w K mg base CX0 1 "_law_name" lS4 spNm)(GB:Ca P w K mg base CX0 (6+2*n) "_law_body" lS1 (wJ K n))(m_len:mg "len"=none)(m_range:mg "range"=none)(m_zip:mg "zip"=none)(m_list:mg "list"=none)(m_tuple:mg "tuple"=none):FnOk P w K mg base CX0 (7+2*n) f fd lS10 (zbe K n):=by
 rw[show 7+2*n=(6+2*n)+1 by lia]
 refine F.by scDef (fun vs H Q E h=>?_) (fun cdv A outer s H vs Q E hr h=>?_)
 ·obtain⟨st,w,a,B,room,o,rfl,_⟩:=h
  rfl
 obtain⟨st,w0,a,B,room,o,rfl,ha,S0,hB,hW,hroom,hn,q⟩:=h
 have hr1:Room 1 _:=hr.mono (by lia)
 refine⟨_,
  (zg (yV (xX zI (xL 1) (jv 2)) (yi rfl (zv (gN 4 scDef.nd) (zv (gN 5 scDef.nd) (zv (gN 6 scDef.nd) zM)))))
  (zg (yq ["_law_k"] (i:=7) scDef.nd rfl (Or.inl rfl) rfl (zV rfl m_range (jA1 (jL m_len (jv 5)))) (fun _ _ _ _ _=>(gN 8 zda)) (fun _ _ _ _ _=>zT) (fun _ _ _ _ _=>(cA GN' hr1 (jA2 (jv 1) (jv 8)))))
  (zh (zq (zu (jA3 (jv 4) (yy zR rfl m_tuple uY (jA1 (jv 7))) (cA GB hr (jA6 (jv 0) (w5 rfl rfl m_list rfl m_zip (jA2 (jv 7) (jv 5))) (jL m_len (jv 5)) (jv 3) (jv 1) (jv 2))))))))),?_⟩
 have sl:=zF
 have LM:LIM=4611686018427387904:=rfl
 obtain⟨⟨tl,dl,tt,ds,hw,htl1,hdl,hTt,hTd⟩,wok⟩:=id hW
 have dlen:=wok.dlen
 have hdl2:=hTd.len
 obtain⟨t,ht⟩:∃t,ds[a]?=some t:=⟨_,ui (by lia)⟩
 obtain⟨z,ss,g,sq,e1,e2,e3⟩:=hTd.get ht
 have wd:ss.length<=3/\So ss/\0<=g/\g<=2:=wok.ds _ (uq e1)
 have htr:(ds.map V.ref)[a]?=some (.ref t):=by rw[ue,ht];rfl
 refine⟨_,rfl,ixL hw aI3 ⟨_,rfl,dl,_,_,_,rfl,rfl,SqL.of hdl,zN htr,_,_,rfl,SqT.of e2,rfl,_,_,rfl,_,_,rfl,_,_,rfl,rfl,?_⟩⟩
 refine⟨_,rfl,_,_,rfl,.inl (SqL.of e3),_,rfl,by rw[ua];lia,by rw[ua];lia,yx (n:=(ss.map V.int).length) (fun j τ ys H'=>H=H'/\(∃v,τ=[some (.ref st),some (.ref w0),some (.int (a:Nat)),some (.int room),some (.str z),some (.ref sq),some (.int g),none,v])/\ys=((uC j).map fun i=>nm o.z o.b i).map V.str) ⟨rfl,⟨none,rfl⟩,rfl⟩ ?_ ?_⟩
 ·rintro j τ ys H7 hj ⟨rfl,⟨v,rfl⟩,rfl⟩
  rw[ua]at hj
  refine⟨_,rfl,_,rfl,w0,o.z,o.b,_,j,(by show[V.ref w0,V.int (0+(j:Nat))]=_;rw[tT]),hw,wok.z,by rw[ua,ua,Uw];lia,rfl,⟨_,rfl⟩,?_⟩
  rw[UR,ut,ut]
  rfl
 rintro τ ys H7 ⟨rfl,_,rfl⟩ pn hpn
 rw[ua]
 have nl:((uC ss.length).map fun i=>nm o.z o.b i).length=ss.length:=by rw[ua,Uw]
 generalize eNS:(uC ss.length).map (fun i=>nm o.z o.b i)=NS at *
 refine⟨_,rfl,_,rfl,pn,_,rfl,.inl ⟨SqL.of upd_same,fun pu hpu=>?_⟩⟩
 have s2:Same H (upd (upd H pn (.lst (NS.map V.str))) pu (.tup (NS.map V.str))):=(zn hpn _).new hpu
 have hpn2:=old (o:=.tup (NS.map V.str)) hpu (upd_same (H:=H) (a:=pn) (o:=.lst (NS.map V.str)))
 have hpu2:=upd_same (H:=upd H pn (.lst (NS.map V.str))) (a:=pu) (o:=.tup (NS.map V.str))
 generalize upd (upd H pn (.lst (NS.map V.str))) pu (.tup (NS.map V.str))=H2 at *
 refine⟨_,rfl,_,rfl,_,rfl,pn,sq,_,_,rfl,.inl (SqL.of hpn2),.inl (SqL.of (s2 _ _ e3)),fun H3 pz zs s3 f3 hpz hzl _ _ hpair=>?_⟩
 have tz:=wb hzl hpair
 have s13:=s2.trans s3
 have sc3:Sc H3 (NS.zip ss) pz:=by
  refine⟨⟨zs,hpz,tz⟩,?_,fun p hp=>?_⟩
  ·rw[UY]
   lia
  ·have:=wd.2.1 p.2 (UI hp).2
   lia
 refine⟨_,rfl,_,_,rfl,.inl (SqL.of (s13 _ _ e3)),_,rfl,_,rfl,_,rfl,st,pz,w0,(ss.map V.int).length,a,B,room,NS.zip ss,o,rfl,ha,S0.same s13,hB,sc3,hW.same s13,?_,?_,by rw[ua];lia,fun H4 pb b k4 S4 hb hbz hbd hbb=>⟨sN3,fun t4 h5=>?_⟩⟩
 ·split<;>lia
 ·rw[UY]
  lia
 have ez:z=nm o.z o.b (2-a):=by
  have h1:(o.defs.map (·.1))[a]?=some z:=by rw[ue,e1];rfl
  rw[wok.dn,ue,tH ha]at h1
  exact(uO.inj h1).symm
 refine q _ t4 ⟨z,NS,b⟩ (((Kp.of s13).trans k4).new h5) (S4.new h5 _) ⟨pu,pb,upd_same,old h5 (k4.tups (S0.same s13) _ _ (s3 _ _ hpu2)),hb.keep (.of (zn h5 _))⟩ ⟨⟨by show NS.length<=3;lia,hbz,hbd⟩,⟨by show NS=(uC NS.length).map _;rw[nl];exact eNS.symm,by show Bnm o NS.length 900 b.binds;rw[ua]at hbb;rw[nl];exact hbb,⟨_,uq e1,rfl,nl.symm⟩⟩⟩ ez
theorem scKinds:FnScope ["_law_world_here","_law_some"] ["_law_world_here"] (zo YJ):=.ok
theorem Zi:(["_law_world_here","_law_some","_law_tag","_law_sorts_here","_law_kind"]:List Str).Nodup:=by decide +kernel
theorem VY(F:Fun K "_law_kinds" "_law_kinds" YJ f fd)(m_len:mg "len"=none)(m_tuple:mg "tuple"=none):FnOk P w K mg base CX0 1 f fd ["_law_world_here"] XE:=by
 refine F.by scKinds (fun vs H Q E h=>?_) (fun cdv A outer s H vs Q E hr h=>?_)
 ·obtain⟨w,o,rfl,_⟩:=h
  rfl
 obtain⟨w0,o,rfl,hW,q⟩:=h
 refine⟨_,
  (zg (yq ["_law_tag","_law_sorts_here","_law_kind"] (i:=1) scKinds.nd rfl (Or.inl rfl) rfl (zG (xL 0)) (fun _ _ _ _ _=>(xZ K (n:=3) rfl (zv (gN 2 Zi) (zv (gN 3 Zi) (zv (gN 4 Zi) zM))))) (fun _ _ _ _ _=>zT) (fun _ _ _ _ _=>(zu (jA2 (jv 2) (yJ (xr K) rfl m_len PySem.boot_len (jA1 (jv 3)))))))
  (zh (zq (zu (jA2 (yy zR rfl m_tuple uY (jA1 (yo w4 (jv 1) yE (yF zj)))) (yy zR rfl m_tuple uY (jA1 (yo w4 (jv 1) (yF zj) yE)))))))),?_⟩
 have sl:=zF
 obtain⟨⟨tl,dl,tt,ds,hw,htl1,hdl,hTt,hTd⟩,wok⟩:=id hW
 have tlen:=wok.tlen
 have htt:=hTt.len
 refine⟨_,rfl,ixL hw aI2 ⟨tl,rfl,⟨_,SqL.of htl1⟩,zY (xs:=tt.map V.ref) (fun j τ ys H'=>Same H H'/\(∃u v x,τ=[some (.ref w0),none,u,v,x])/\∃ps:List Addr,ys=ps.map V.ref/\Tps H' ((kd o).take j) ps) ⟨Same.refl _,⟨none,none,none,rfl⟩,[],rfl,.nil⟩ (fun j τ ys H' _ h=>SqL.of (h.1 _ _ htl1)) ?_ ?_⟩⟩
 ·rintro j v τ ys H1 hv ⟨s1,⟨u,v',x,rfl⟩,ps,rfl,hp⟩
  rw[ue]at hv
  obtain⟨t,ht,rfl⟩:=uh.mp hv
  obtain⟨z,ss,g,sq,e1,e2,e3⟩:=hTt.get ht
  have hj:j < o.tags.length:=(uc.mp e1).1
  have hpl:=hp.len
  rw[uN]at hpl
  refine⟨_,_,rfl,SqT.of (s1 _ _ e2),rfl,_,_,rfl,_,_,rfl,_,_,rfl,rfl,_,rfl,_,rfl,_,_,rfl,.inl (SqL.of (s1 _ _ e3)),sN2,fun t1 h2=>⟨?_,s1.new h2,⟨_,_,_,rfl⟩,ps++[t1],by simp,?_⟩⟩
  ·rw[ua]
   lia
  ·have ek:(kd o)[j]?=some (z,((ss.length:Nat):Int)):=by
    unfold kd
    rw[ue,e1]
    rfl
   rw[uw,ek]
   refine(hp.keep (.of (zn h2 _))).app (.cons ?_ .nil)
   rw[upd_same,ua]
 rintro τ ys H1 ⟨s1,_,ps,rfl,hp⟩ p1 h1
 have kl:(kd o).length=4:=by unfold kd;rw[ua];exact tlen
 rw[ua,<- htt,uk (by lia)]at hp
 refine⟨_,rfl,_,rfl,_,_,rfl,SqL.of upd_same,fun pa ha=>⟨pa,_,rfl,.inl ⟨SqL.of upd_same,fun pb hb=>?_⟩⟩⟩
 refine⟨_,rfl,_,rfl,_,_,rfl,SqL.of (old hb (old ha upd_same)),fun pc hc=>⟨pc,_,rfl,.inl ⟨SqL.of upd_same,fun pe he=>⟨sN2,fun pf hf=>?_⟩⟩⟩⟩
 rw[ZW (by decide),ZY (by decide)]at *
 have s2:Same H1 _:=(((((zn h1 (.lst (ps.map V.ref))).new (o:=.lst ((ps.take 3).map V.ref)) ha).new (o:=.tup ((ps.take 3).map V.ref)) hb).new (o:=.lst ((ps.drop 3).map V.ref)) hc).new (o:=.tup ((ps.drop 3).map V.ref)) he).new (o:=.tup [.ref pb,.ref pe]) hf
 exact q _ pf pb pe (ps.take 3) (ps.drop 3) (s1.trans s2) upd_same (old hf (old he (old hc upd_same))) (old hf upd_same) ((hp.keep (.of s2)).take 3) ((hp.keep (.of s2)).drop 3)
theorem Wq:FnScope lS9 lS9 (zo vI):=.ok
theorem Wr:(["_law_state","_law_world_here","_law_room","_law_at"]:List Str).Nodup:=by decide +kernel
theorem YT{n:Nat}(F:Fun K "_law_program" "_law_program" vI f fd)(GKs:Ca P w K mg base CX0 1 "_law_kinds" ["_law_world_here"] XE)(GF:Ca P w K mg base CX0 (7+2*n) "_law_def" lS10 (zbe K n))(m_range:mg "range"=none)(m_tuple:mg "tuple"=none):FnOk P w K mg base CX0 (8+2*n) f fd lS9 (ju K n):=by
 rw[show 8+2*n=(7+2*n)+1 by lia]
 refine F.by Wq (fun vs H Q E h=>?_) (fun cdv A outer s H vs Q E hr h=>?_)
 ·obtain⟨st,w,B,room,o,rfl,_⟩:=h
  rfl
 obtain⟨st,w0,B,room,o,rfl,S0,hB,hW,hroom,hn,q⟩:=h
 have hr1:Room 1 _:=hr.mono (by lia)
 refine⟨_,
  (zh (zq (zu (jA2 (cA GKs hr1 (jA1 (jv 1))) (yy zR rfl m_tuple uY (jA1 (yp ["_law_at"] rfl (zV rfl m_range (jA1 zj)) (fun _ _ _ _ _=>(gN 3 Wr)) (fun _ _ _ _ _=>zT) (fun _ _ _ _ _=>(cA GF hr (jA4 (jv 0) (jv 1) (jv 3) (jv 2))))))))))),?_⟩
 have sl:=zF
 have LM:LIM=4611686018427387904:=rfl
 refine⟨_,rfl,w0,o,rfl,hW,fun H1 pk p1 p2 t1 t2 s1 hpk hp1 hp2 hk1 hk2=>?_⟩
 refine⟨_,rfl,by decide,by decide,yx (n:=3) (fun i τ ys H'=>Kp st H1 H'/\Sta K H' st (B+i*CB n)/\(∃x,τ=[some (.ref st),some (.ref w0),some (.int room),x])/\∃(ps:List Addr)(dfs:List Df),ys=ps.map V.ref/\ps.length=i/\IsFs H' dfs ps/\(∀d∈dfs,FOk n d/\FNm o d)/\dfs.map (·.z)=(uC i).map (fun k=>nm o.z o.b (2-k))) ⟨Kp.refl,(S0.same s1).mono (by lia),⟨none,rfl⟩,[],[],rfl,rfl,.nil,(fun d hd=>by cases hd),rfl⟩ ?_ ?_⟩
 ·rintro i τ ys H2 hi ⟨k2,S2,⟨x,rfl⟩,ps,dfs,rfl,hl,hF,hok,hnm⟩
  have hb:i*CB n+CB n<=3*CB n:=by
   have:=tE (CB n) (show i+1<=3 by lia)
   rw[tP]at this
   lia
  refine⟨_,rfl,_,rfl,_,rfl,_,rfl,st,w0,i,_,room,o,(by show[V.ref st,V.ref w0,V.int (0+(i:Nat)),V.int room]=_;rw[tT]),hi,S2,by lia,(hW.same s1).kp (S0.same s1) k2,hroom,hn,fun H3 p d k3 S3 hd hdk hdz=>⟨by rw[ua];lia,k2.trans k3,S3.mono (by rw[tP];lia),⟨_,rfl⟩,ps++[p],dfs++[d],by simp,by simp[hl],(hF.keep (k3.tups S2)).app (.cons hd .nil),(fun e he=>?_),by rw[UR,ut,ut,hnm];show _++[d.z]=_++[_];rw[hdz]⟩⟩
  rcases uE.mp he with he|he
  ·exact hok e he
  ·rw[uj.mp he]
   exact hdk
 rintro τ ys H2 ⟨k2,S2,_,ps,dfs,rfl,hl,hF,hok,hnm⟩ p3 h3
 refine⟨p3,_,rfl,.inl ⟨SqL.of upd_same,fun p4 h4=>⟨sN2,fun p5 h5=>?_⟩⟩⟩
 have s25:Same H2 _:=((zn h3 (.lst (ps.map V.ref))).new (o:=.tup (ps.map V.ref)) h4).new (o:=.tup [.ref pk,.ref p4]) h5
 have tp:Tups H1 _:=(k2.tups (S0.same s1)).trans (.of s25)
 exact q _ p5 pk p4 p1 p2 t1 t2 ps dfs (((Kp.of s1).trans k2).trans (.of s25)) (S2.same s25) upd_same (tp _ _ hpk) (tp _ _ hp1) (tp _ _ hp2) (hk1.keep tp) (hk2.keep tp) (old h5 upd_same) (hF.keep (.of s25)) hl hok hnm
end
end GN
namespace L2
open PySem PySem.Spec PyProof.Rows
section
variable{X:Cx}
end
end L2
namespace GN
open PySem L2 K11
def once(acc:List Str):List Str->List Str
 |[]=>acc
 |x::r=>once (if x∈acc then acc else acc++[x]) r
abbrev Wy:=List (List Str×Bd)
inductive IsY(H:Hp):Wy->List Addr->Prop
 |nil:IsY H [] []
 |cons {ns:List Str} {b:Bd} {p q r:Addr} {l:Wy} {ps:List Addr}:H p=some (.tup [.ref q,.ref r])->H q=some (.tup (ns.map V.str))->IsB H b r->IsY H l ps->IsY H ((ns,b)::l) (p::ps)
theorem IsY.keep{H H':Hp}{l:Wy}{p:List Addr}(h:IsY H l p)(t:Tups H H'):IsY H' l p:=by
 induction h with
 |nil=>exact .nil
 |cons a b c _ ih=>exact .cons (t _ _ a) (t _ _ b) (c.keep t) ih
theorem IsY.app{H:Hp}{a b:Wy}{p q:List Addr}(h:IsY H a p)(g:IsY H b q):IsY H (a++b) (p++q):=by
 induction h with
 |nil=>exact g
 |cons x y z _ ih=>exact .cons x y z ih
theorem IsY.len{H:Hp}{l:Wy}{p:List Addr}(h:IsY H l p):l.length=p.length:=by
 induction h with
 |nil=>rfl
 |cons _ _ _ _ ih=>rw[ul,ul,ih]
def Arms.ways:Arms->Wy
 |.nil=>[]
 |.cons _ ns b r=>(ns,b)::r.ways
def Bd.ways:Bd->Wy
 |.give _=>[]
 |.lt x _ b=>[([x],b)]
 |.iff _ a b=>[([],a),([],b)]
 |.case _ as=>as.ways
def wsz(l:Wy):Nat:=(l.map fun p=>p.2.sz).sum
theorem Arms.wsz:∀as:Arms,GN.wsz as.ways<=as.sz
 |.nil=>by unfold Arms.ways Arms.sz GN.wsz;decide
 |.cons t ns b r=>by
  unfold Arms.ways Arms.sz GN.wsz
  have:=Arms.wsz r
  unfold GN.wsz at this
  rw[uH,Uu]
  show b.sz+_<=_
  lia
theorem Bd.wsz(b:Bd):GN.wsz b.ways < b.sz:=by
 cases b with
 |give x=>rw[Bd.sz];show(0:Nat) < 1;decide
 |lt x d b=>rw[Bd.sz];show b.sz+0 < b.sz+1;lia
 |iff x a b=>rw[Bd.sz];show a.sz+(b.sz+0) < a.sz+b.sz+1;lia
 |case x as=>rw[Bd.sz];have:=Arms.wsz as;show GN.wsz as.ways < as.sz+1;lia
theorem IsA.get{H:Hp}:∀{as:Arms}{ps:List Addr}{i:Nat}{p:Addr},IsA H as ps->ps[i]?=some p->∃t q r ns b,as.ways[i]?=some (ns,b)/\H p=some (.tup [.str t,.ref q,.ref r])/\H q=some (.tup (ns.map V.str))/\IsB H b r
 |_,_,_,_,.nil,e=>by simp at e
 |_,_,0,_,.cons a b c _,e=>by
  simp at e
  subst e
  exact⟨_,_,_,_,_,by unfold Arms.ways;rfl,a,b,c⟩
 |_,_,i+1,_,.cons _ _ _ d,e=>by
  obtain⟨t,q,r,ns,b,h1,h2⟩:=IsA.get (i:=i) d (by simpa using e)
  exact⟨t,q,r,ns,b,by unfold Arms.ways;simpa using h1,h2⟩
theorem IsA.len{H:Hp}:∀{as:Arms}{ps:List Addr},IsA H as ps->as.ways.length=ps.length
 |_,_,.nil=>by unfold Arms.ways;rfl
 |_,_,.cons _ _ _ d=>by unfold Arms.ways;rw[ul,ul,IsA.len d]
theorem Zj:∀a:Arms,a.ways.length<=a.sz
 |.nil=>by unfold Arms.ways Arms.sz;decide
 |.cons t ns b r=>by
  unfold Arms.ways Arms.sz
  have:=Zj r
  rw[ul]
  lia
def YU:Sp:=fun vs H Q _=>∃(p:Addr)(b:Bd),vs=[.ref p]/\IsB H b p/\b.sz<=1000000/\∀(H':Hp)(r:Addr)(ps:List Addr),Same H H'->H r=none->H' r=some (.lst (ps.map V.ref))->IsY H' b.ways ps->Q (.ref r) H'
section
variable{P:Program}{w:World}{K:ub}{mg:Str->Option Value}{base:Heap}{f:Addr}{fd:FuncData}
theorem zcg:FnScope ["body"] ["body"] (zo VE):=.ok
theorem zch:(["body","arm"]:List Str).Nodup:=by decide +kernel
theorem QZ(F:Fun K "ways_on" "ways_on" VE f fd):FnOk P w K mg base CX0 1 f fd ["body"] YU:=by
 refine F.by zcg (fun vs H Q E h=>?_) (fun cdv A outer s H vs Q E hr h=>?_)
 ·obtain⟨p,b,rfl,_⟩:=h
  rfl
 obtain⟨p,b,rfl,hb,hz,q⟩:=h
 refine⟨_,
  (zg (zy (tN zA (xT 0) zp)
   (zh (zq (zB zE))) zt)
  (zg (zy (tN zA (xT 0) zp)
   (zh (zq (zB (jA2 (zu (jA2 (zu zE) (xT 0))) (zu (jA2 (zu zE) (xT 0))))))) zt)
  (zg (zy (tN zA (xT 0) zp)
   (zh (zq (yp ["arm"] rfl (yW (xT 0)) (fun _ _ _ _ _=>(gN 1 zch)) (fun _ _ _ _ _=>zT) (fun _ _ _ _ _=>(zu (jA2 (zP (z9 K) (jv 1) zj (fun _ _=>rfl)) (xX (z9 K) (jv 1) (xK zj)))))))) zt)
  (zg (zy (yk yv (xT 0) (zu (jA2 zp zp)) (by with_unfolding_all rfl))
   (zh (zq (zB (jA1 (zu (jA2 (zu (jA1 (xT 0))) (xX zZ (jv 0) (xK zj)))))))) zt)
  (zh (zq (zB (jA1 (zu (jA2 (zu zE) (xX zZ (jv 0) (xK zj)))))))))))),?_⟩
 have sl:=zF
 cases hb with
 |@give x _ hp =>
  refine⟨_,rfl,p,_,_,_,rfl,rfl,SqT.of hp,aI0,rfl,_,rfl,?_⟩
  refine ite2 (fun _=>?_) aB
  refine⟨sN0,fun r hr=>q _ r [] (zn hr _) hr upd_same ?_⟩
  unfold Bd.ways
  exact .nil
 |@iff x a b _ p1 p2 hp ha hb =>
  refine⟨_,rfl,p,_,_,_,rfl,rfl,SqT.of hp,aI0,rfl,_,rfl,?_⟩
  refine ite2 aB (fun _=>?_)
  refine⟨_,rfl,p,_,_,_,rfl,rfl,SqT.of hp,aI0,rfl,_,rfl,?_⟩
  refine ite2 (fun _=>?_) aB
  refine⟨sN0,fun t1 h1=>⟨_,rfl,p,_,_,_,rfl,rfl,SqT.of (old h1 hp),aI2,sN2,fun t2 h2=>⟨sN0,fun t3 h3=>⟨_,rfl,p,_,_,_,rfl,rfl,SqT.of (old h3 (old h2 (old h1 hp))),aI3,sN2,fun t4 h4=>⟨sN2,fun t5 h5=>?_⟩⟩⟩⟩⟩
  have s4:Same H _:=(((zn h1 (.tup [])).new (o:=.tup [.ref t1,.ref p1]) h2).new (o:=.tup []) h3).new (o:=.tup [.ref t3,.ref p2]) h4
  have s5:=s4.new (o:=.lst [.ref t2,.ref t4]) h5
  refine q _ t5 [t2,t4] s5 (s4.free h5) upd_same ?_
  unfold Bd.ways
  exact .cons (old h5 (old h4 (old h3 upd_same))) (old h5 (old h4 (old h3 (old h2 upd_same)))) (ha.keep (.of s5)) (.cons (old h5 upd_same) (old h5 (old h4 upd_same)) (hb.keep (.of s5)) .nil)
 |@case x as ps _ p1 hp hp1 hl0 hA =>
  refine⟨_,rfl,p,_,_,_,rfl,rfl,SqT.of hp,aI0,rfl,_,rfl,?_⟩
  refine ite2 aB (fun _=>?_)
  refine⟨_,rfl,p,_,_,_,rfl,rfl,SqT.of hp,aI0,rfl,_,rfl,?_⟩
  refine ite2 aB (fun _=>?_)
  refine⟨_,rfl,p,_,_,_,rfl,rfl,SqT.of hp,aI0,rfl,_,rfl,?_⟩
  refine ite2 (fun _=>?_) aB
  have hl:=hA.len
  have hsz:as.ways.length<=1000000:=by
   have e:∀a:Arms,a.ways.length<=a.sz:=by
    intro a
    exact Zj a
   have:=e as
   rw[Bd.sz]at hz
   lia
  refine⟨_,rfl,p,_,_,_,rfl,rfl,SqT.of hp,aI2,p1,rfl,⟨_,SqT.of hp1⟩,Vu (xs:=ps.map V.ref) (fun j τ ys H'=>Same H H'/\(∃v,τ=[some (.ref p),v])/\∃rs:List Addr,ys=rs.map V.ref/\IsY H' (as.ways.take j) rs) ⟨Same.refl _,⟨none,rfl⟩,[],rfl,.nil⟩ (fun j τ ys H' _ h=>SqT.of (h.1 _ _ hp1)) ?_ ?_⟩
  ·rintro j v τ ys H1 hv ⟨s1,⟨v',rfl⟩,rs,rfl,hy⟩
   rw[ue]at hv
   obtain⟨pa,hpa,rfl⟩:=uh.mp hv
   obtain⟨t,q1,r1,ns,b,e1,e2,e3,e4⟩:=hA.get hpa
   have hj:j < as.ways.length:=(uc.mp e1).1
   have hyl:=hy.len
   rw[uN]at hyl
   refine⟨_,rfl,pa,_,_,_,rfl,rfl,SqT.of (s1 _ _ e2),aI1,_,rfl,_,rfl,pa,_,_,_,rfl,rfl,SqT.of (s1 _ _ e2),rfl,sN2,fun t1 h1=>⟨by rw[ua];lia,s1.new h1,⟨_,rfl⟩,rs++[t1],by simp,?_⟩⟩
   rw[uw,e1]
   exact(hy.keep (.of (zn h1 _))).app (.cons upd_same (old h1 (s1 _ _ e3)) (e4.keep (.of (s1.new h1))) .nil)
  ·rintro τ ys H1 ⟨s1,_,rs,rfl,hy⟩ r hr
   rw[ua,<- hl,uk (ud _)]at hy
   refine q _ r rs (s1.new hr) (s1.free hr) upd_same ?_
   unfold Bd.ways
   exact hy.keep (.of (zn hr _))
 |@lt x d b _ p1 p2 hp hd hb =>
  refine⟨_,rfl,p,_,_,_,rfl,rfl,SqT.of hp,aI0,rfl,_,rfl,?_⟩
  refine ite2 aB (fun _=>?_)
  refine⟨_,rfl,p,_,_,_,rfl,rfl,SqT.of hp,aI0,rfl,_,rfl,?_⟩
  refine ite2 aB (fun _=>?_)
  refine⟨_,rfl,p,_,_,_,rfl,rfl,SqT.of hp,aI0,rfl,_,rfl,?_⟩
  refine ite2 aB (fun _=>?_)
  refine⟨_,rfl,p,_,_,_,rfl,rfl,SqT.of hp,aI0,sN2,fun t0 h0=>?_⟩
  refine⟨t0,_,rfl,.inr (SqT.of upd_same),rfl,rfl,_,rfl,?_⟩
  refine ite2 (fun _=>?_) (fun c=>absurd (show(if false=true then !inV (V.str "let") [V.str "let",V.str "hold"]else inV (V.str "let") [V.str "let",V.str "hold"])=true by decide) c)
  have hp0:=old (o:=.tup [.str "let",.str "hold"]) h0 hp
  refine⟨_,rfl,p,_,_,_,rfl,rfl,SqT.of hp0,aI1,sN1,fun t1 h1=>⟨_,rfl,_,rfl,p,_,_,_,rfl,rfl,SqT.of (old h1 hp0),rfl,sN2,fun t2 h2=>⟨sN1,fun t3 h3=>?_⟩⟩⟩
  have s2:Same H _:=((zn h0 (.tup [.str "let",.str "hold"])).new (o:=.tup [.str x]) h1).new (o:=.tup [.ref t1,.ref p2]) h2
  have s3:=s2.new (o:=.lst [.ref t2]) h3
  refine q _ t3 [t2] s3 (s2.free h3) upd_same ?_
  unfold Bd.ways
  exact .cons (old h3 upd_same) (old h3 (old h2 upd_same)) (hb.keep (.of s3)) .nil
end
theorem Zk(k:Nat):cl (ys k)=uT (k % 2) 121:=by
 unfold ys
 rcases(show k % 2=0\/k % 2=1 by lia)with e|e
 ·rw[e];decide +kernel
 ·rw[e];decide +kernel
theorem wc{z:Str}{b:Bool}{j k:Nat}(hj:j < 1352)(hk:k < 1352)(h:nm z b j=nm z b k):j=k:=by
 have hl:∀i:Nat,(cl (core i)).length=3:=fun i=>by rw[w9];rfl
 have cinj:cl (core j)=cl (core k)->j % 2=k % 2->j=k:=fun e e0=>by
  rw[w9,w9]at e
  injection e with e1 e2
  injection e2 with _ e3
  injection e3 with e3 _
  lia
 have e:=congrArg cl h
 unfold nm at e
 cases b with
 |true =>
  rw[if_pos rfl,if_pos rfl,yD,yD,yD,yD]at e
  have el:=congrArg Tb e
  rw[uf,uf,uf,uf,hl,hl,Zk,Zk,UE,UE]at el
  rw[Ur,Ur]at e
  exact cinj (List.append_inj_left e (by rw[hl,hl])) (by lia)
 |false =>
  rw[if_neg (by decide),if_neg (by decide),yD,yD,yD,yD]at e
  have el:=congrArg Tb e
  rw[uf,uf,uf,uf,hl,hl,Zk,Zk,UE,UE]at el
  exact cinj (List.append_inj_right' e (by rw[hl,hl])) (by lia)
def dif(m n:Nat):Nat:=m-(m &&& n)
theorem and2(m n:Nat):(m &&& n) / 2=m / 2 &&& n / 2/\(m &&& n) % 2=m % 2*(n % 2):=by
 refine⟨Nat.and_div_two,?_⟩
 rw[Nat.and_mod_two_pow (n:=1)]
 rcases(show m % 2=0\/m % 2=1 by lia)with e|e<;>rcases(show n % 2=0\/n % 2=1 by lia)with g|g<;>(show m % 2 &&& n % 2=_)<;>rw[e,g]<;>decide
theorem we:∀(i m n:Nat),(dif m n).testBit i=(m.testBit i && !n.testBit i)
 |0,m,n=>by
  have h:=and2 m n
  have hle:(m &&& n)<=m:=Nat.and_le_left
  unfold dif
  rw[Nat.testBit_zero,Nat.testBit_zero,Nat.testBit_zero]
  rcases(show m % 2=0\/m % 2=1 by lia)with e|e<;>rcases(show n % 2=0\/n % 2=1 by lia)with g|g<;>rw[e,g]at h<;>simp[e,g]<;>lia
 |i+1,m,n=>by
  have h:=and2 m n
  have hle:(m &&& n)<=m:=Nat.and_le_left
  have hle2:(m / 2 &&& n / 2)<=m / 2:=Nat.and_le_left
  rw[tV,tV,tV,<- we i (m / 2) (n / 2)]
  congr 1
  unfold dif
  rcases(show m % 2=0\/m % 2=1 by lia)with e|e<;>rcases(show n % 2=0\/n % 2=1 by lia)with g|g<;>rw[e,g]at h<;>lia
theorem Zl(m n:Nat):Builtin.bitOr (m:Int) (n:Int)=((m ||| n:Nat):Int):=by
 unfold Builtin.bitOr
 have h1:¬ 0<=Builtin.bitNot (m:Int):=by unfold Builtin.bitNot;lia
 have h2:¬ 0<=Builtin.bitNot (n:Int):=by unfold Builtin.bitNot;lia
 have e:∀x:Int,Builtin.bitNot (Builtin.bitNot x)=x:=fun x=>by unfold Builtin.bitNot;lia
 rw[PyProof.Rows.bitAnd_nn h1 h2,e,e,e]
 rfl
theorem VZ(m n:Nat):Builtin.bitAnd (m:Int) (Builtin.bitNot (n:Int))=((dif m n:Nat):Int):=by
 rw[PyProof.Rows.bitAnd_not,PyProof.Rows.bitAnd_pp (Int.natCast_nonneg m) (Int.natCast_nonneg n)]
 have hle:(m &&& n)<=m:=Nat.and_le_left
 unfold dif
 rw[tM,tM]
 lia
def bitN:List Str->Str->Nat
 |[],_=>0
 |y::r,x=>if y=x then 1 else 2*bitN r x
theorem ZZ{x:Str}:∀{ns:List Str},x∉ns->bitN ns x=0
 |[],_=>rfl
 |y::r,h=>by
  unfold bitN
  rw[if_neg (fun e:y=x=>h (e ▸ uK)),ZZ (fun z=>h (.tail _ z))]
theorem Q0:∀i:Nat,(1:Nat).testBit i=decide (i=0)
 |0=>rfl
 |i+1=>by
  rw[tV]
  simp
theorem Q2(m i:Nat):(2*m).testBit (i+1)=m.testBit i:=by
 rw[tV]
 congr 1
 lia
theorem V0(m:Nat):(2*m).testBit 0=false:=by
 rw[Nat.testBit_zero]
 simp
theorem Z0{x:Str}:∀{ns:List Str}{i:Nat},ns.Nodup->(bitN ns x).testBit i=decide (ns[i]?=some x)
 |[],i,_=>by unfold bitN;simp
 |y::r,i,nd=>by
  obtain⟨h1,h2⟩:=Ub.mp nd
  unfold bitN
  by_cases e:y=x
  ·rw[if_pos e,Q0]
   cases i with
   |zero=>simp[e]
   |succ i =>
    simp
    intro z
    exact h1 (e ▸ uq z)
  ·rw[if_neg e]
   cases i with
   |zero=>rw[V0];simp[e]
   |succ i=>rw[Q2,Z0 h2];simp
def tog(ns xs:List Str):Nat:=xs.foldl (fun f x=>f ||| bitN ns x) 0
theorem Z2{ns:List Str}(nd:ns.Nodup)(i:Nat):∀(xs:List Str)(f:Nat),(xs.foldl (fun f x=>f ||| bitN ns x) f).testBit i=(f.testBit i || decide (∃x∈xs,ns[i]?=some x))
 |[],f=>by simp
 |x::r,f=>by
  rw[Ul,Z2 nd i r,UT,Z0 nd,Bool.or_assoc]
  congr 1
  rw[<- Bool.decide_or]
  congr 1
  simp
theorem xh{ns:List Str}(nd:ns.Nodup)(i:Nat)(xs:List Str):(tog ns xs).testBit i=decide (∃x∈xs,ns[i]?=some x):=by
 unfold tog
 rw[Z2 nd]
 simp
def yA:List Str->Nat->List (Key×V)
 |[],_=>[]
 |x::r,b=>(.inr x,.int (b:Nat))::yA r (b+b)
theorem wK{x:Str}:∀{ns:List Str}{b:Nat},valV (yA ns b) (.inr x)=if x∈ns then some (.int ((b*bitN ns x:Nat):Int))else none
 |[],b=>rfl
 |y::r,b=>by
  unfold yA bitN
  by_cases e:y=x
  ·rw[ye (by rw[e]),if_pos (by rw[e];exact .head _),if_pos e,Nat.mul_one]
  ·rw[yf (fun z=>e (Sum.inr.inj z)),wK,if_neg e]
   have e':¬ x=y:=fun z=>e z.symm
   by_cases c:x∈r
   ·rw[if_pos c,if_pos (.tail _ c)]
    congr 3
    rw[tP,Nat.mul_left_comm,Nat.two_mul]
   ·rw[if_neg c,if_neg (by simp[e',c])]
theorem jw:∀(a:List Str)(x:Str)(b:Nat),yA (a++[x]) b=yA a b++[(.inr x,.int ((b*2 ^ a.length:Nat):Int))]
 |[],x,b=>by show[_]=[_];rw[List.length_nil,Nat.pow_zero,Nat.mul_one]
 |y::a,x,b=>by
  show _::yA (a++[x]) (b+b)=_::(yA a (b+b)++_)
  rw[jw a x (b+b),ul,Nat.pow_succ,show(b+b)*2 ^ a.length=b*(2 ^ a.length*2) by rw[<- Nat.two_mul,Nat.mul_comm 2 b,Nat.mul_assoc,Nat.mul_comm 2]]
theorem jx:∀(a:List Str)(b:Nat),(yA a b).length=a.length
 |[],_=>rfl
 |_::a,b=>by show(yA a (b+b)).length+1=_;rw[jx a];rfl
def Bd.used:Bd->List Str
 |.give x=>[x]
 |.lt _ d _=>d.uses
 |.iff x _ _=>[x]
 |.case x _=>[x]
mutual
def Bd.mk(ns:List Str):Bd->Nat
 |.give x=>0 ||| tog ns [x]
 |.lt x d b=>(0 ||| dif (b.mk ns) (tog ns [x])) ||| tog ns d.uses
 |.iff x a b=>((0 ||| dif (a.mk ns) (tog ns [])) ||| dif (b.mk ns) (tog ns [])) ||| tog ns [x]
 |.case x as=>Arms.mk ns as 0 ||| tog ns [x]
def Arms.mk(ns:List Str):Arms->Nat->Nat
 |.nil,f=>f
 |.cons _ xs b r,f=>Arms.mk ns r (f ||| dif (b.mk ns) (tog ns xs))
end
def accW(ns:List Str)(l:Wy)(f:Nat):Nat:=l.foldl (fun f w=>f ||| dif (w.2.mk ns) (tog ns w.1)) f
theorem Arms.mk_ways(ns:List Str):∀(as:Arms)(f:Nat),Arms.mk ns as f=accW ns as.ways f
 |.nil,f=>by unfold Arms.mk Arms.ways accW;rfl
 |.cons t xs b r,f=>by
  unfold Arms.mk Arms.ways accW
  rw[Ul]
  exact Arms.mk_ways ns r _
theorem Bd.mk_ways(ns:List Str)(b:Bd):b.mk ns=accW ns b.ways 0 ||| tog ns b.used:=by
 cases b with
 |give x=>unfold Bd.mk Bd.ways Bd.used accW;rfl
 |lt x d b=>rw[Bd.mk];rfl
 |iff x a b=>rw[Bd.mk];rfl
 |case x as=>rw[Bd.mk,Arms.mk_ways];rfl
mutual
def Bd.fr(x:Str):Bd->Prop
 |.give y=>x=y
 |.lt y d b=>(b.fr x/\x≠y)\/x∈d.uses
 |.iff y a b=>(a.fr x\/b.fr x)\/x=y
 |.case y as=>as.fr x\/x=y
def Arms.fr(x:Str):Arms->Prop
 |.nil=>False
 |.cons _ xs b r=>(b.fr x/\x∉xs)\/r.fr x
end
section
variable{ns:List Str}(nd:ns.Nodup)(i:Nat)
include nd
mutual
theorem Bd.mk_bit:∀b:Bd,((b.mk ns).testBit i=true)↔∃x,ns[i]?=some x/\b.fr x
 |.give y=>by
  rw[Bd.mk,UT,xh nd]
  simp[Bd.fr]
 |.lt y d b=>by
  have ih:=Bd.mk_bit b
  rw[Bd.mk,UT,UT,xh nd,we,xh nd]
  simp only[Nat.zero_testBit,tZ,UA,Uk,Bool.not_eq_true',decide_eq_true_eq,decide_eq_false_iff_not,ih,uj,Bd.fr]
  constructor
  ·rintro(⟨⟨x,h1,h2⟩,h3⟩|⟨x,h1,h2⟩)
   ·exact⟨x,h1,.inl ⟨h2,fun e=>h3 ⟨y,rfl,by rw[h1,e]⟩⟩⟩
   ·exact⟨x,h2,.inr h1⟩
  ·rintro⟨x,h1,⟨h2,h3⟩|h2⟩
   ·refine .inl ⟨⟨x,h1,h2⟩,?_⟩
    rintro⟨z,rfl,h4⟩
    rw[h1]at h4
    exact h3 (uO.inj h4)
   ·exact .inr ⟨x,h2,h1⟩
 |.iff y a b=>by
  have ia:=Bd.mk_bit a
  have ib:=Bd.mk_bit b
  rw[Bd.mk,UT,UT,UT,xh nd,we,we,xh nd]
  simp only[Nat.zero_testBit,tZ,UA,Uk,Bool.not_eq_true',decide_eq_true_eq,decide_eq_false_iff_not,ia,ib,uj,UL,false_and,exists_false,not_false_eq_true,and_true,Bd.fr]
  constructor
  ·rintro((⟨x,h1,h2⟩|⟨x,h1,h2⟩)|⟨x,rfl,h2⟩)
   ·exact⟨x,h1,.inl (.inl h2)⟩
   ·exact⟨x,h1,.inl (.inr h2)⟩
   ·exact⟨x,h2,.inr rfl⟩
  ·rintro⟨x,h1,(h2|h2)|h2⟩
   ·exact .inl (.inl ⟨x,h1,h2⟩)
   ·exact .inl (.inr ⟨x,h1,h2⟩)
   ·exact .inr ⟨x,h2,h1⟩
 |.case y as=>by
  have ia:=Arms.mk_bit as 0
  rw[Bd.mk,UT,xh nd]
  simp only[UA,ia,Nat.zero_testBit,Bool.false_eq_true,false_or,decide_eq_true_eq,uj,Bd.fr]
  constructor
  ·rintro(⟨x,h1,h2⟩|⟨x,rfl,h2⟩)
   ·exact⟨x,h1,.inl h2⟩
   ·exact⟨x,h2,.inr rfl⟩
  ·rintro⟨x,h1,h2|h2⟩
   ·exact .inl ⟨x,h1,h2⟩
   ·exact .inr ⟨x,h2,h1⟩
theorem Arms.mk_bit:∀(as:Arms)(f:Nat),((Arms.mk ns as f).testBit i=true)↔(f.testBit i=true\/∃x,ns[i]?=some x/\as.fr x)
 |.nil,f=>by unfold Arms.mk Arms.fr;simp
 |.cons t xs b r,f=>by
  have ib:=Bd.mk_bit b
  rw[Arms.mk,Arms.mk_bit r,UT,we,xh nd]
  simp only[UA,Uk,Bool.not_eq_true',decide_eq_false_iff_not,ib,Arms.fr]
  constructor
  ·rintro((h|⟨⟨x,h1,h2⟩,h3⟩)|⟨x,h1,h2⟩)
   ·exact .inl h
   ·exact .inr ⟨x,h1,.inl ⟨h2,fun e=>h3 ⟨x,e,h1⟩⟩⟩
   ·exact .inr ⟨x,h1,.inr h2⟩
  ·rintro(h|⟨x,h1,⟨h2,h3⟩|h2⟩)
   ·exact .inl (.inl h)
   ·refine .inl (.inr ⟨⟨x,h1,h2⟩,?_⟩)
    rintro⟨z,h4,h5⟩
    rw[h1]at h5
    cases h5
    exact h3 h4
   ·exact .inr ⟨x,h1,h2⟩
end
end
theorem Bd.sz_pos'(b:Bd):1<=b.sz:=by
 cases b<;>rw[Bd.sz]<;>lia
theorem vM:∀l:Wy,l.length<=wsz l
 |[]=>uW _
 |p::l=>by
  have h1:=Bd.sz_pos' p.2
  have h2:=vM l
  unfold wsz at h2 ⊢
  rw[uH,Uu,ul]
  lia
end GN
namespace L2
open PySem PySem.Spec PyProof.Rows
def BMn(mg:Str->Option Value)(h:Heap):Prop:=∃bm ob,mg "__builtins__"=some (.ref bm)/\bm≠builtinsNs/\h.get? bm=some ob/\ob.cls=.type "module"/\ob.dict=some builtinsNs/\ob.data=.plain
theorem BMn.at{mg:Str->Option Value}{h:Heap}{P:Addr}{ps:Array Value}(B:BMn mg h)(g:h.Ns mainGlobals mg)(hP:h.get? P=some { cls:=.none,data:=.fields ps }):h.BuiltinsAt mg P/\mainGlobals≠P:=by
 obtain⟨bm,ob,b1,b2,b3,b4,b5,b6⟩:=B
 refine⟨⟨bm,ob,b1,b2,fun q=>?_,fun q=>?_,b3,b4,b5,b6⟩,fun q=>?_⟩
 ·obtain⟨o,es,ep,e,hd,_⟩:=g
  rw[q,e]at b3;cases b3;rw[hd]at b6;cases b6
 ·rw[q,hP]at b3;cases b3;cases b4
 ·obtain⟨o,es,ep,e,hd,_⟩:=g
  rw[q,hP]at e;cases e;cases hd
theorem BMn.keeps{mg:Str->Option Value}{h h':Heap}(B:BMn mg h)(k:∀b o,h.get? b=some o->h'.get? b=some o):BMn mg h' :=
 let ⟨bm,ob,b1,b2,b3,r⟩:=B;⟨bm,ob,b1,b2,k _ _ b3,r⟩
def FunO(f:Addr)(fd:FuncData):HO:=.ext fun h=>h.get? f=some { cls:=.type "function",data:=.func fd }
def CodO(c:Addr)(qual:Str):HO:=.ext fun h=>h.CodeRec (.ref c) qual
theorem V1{P:Program}{w:World}{H:Hp}{h:Heap}{f:Addr}{fd:FuncData}(e:h.get? f=some { cls:=.type "function",data:=.func fd }):ObjOk P w H h f (FunO f fd) :=
 ⟨e,⟨_,e⟩,fun _ _ p k=>k _ p⟩
theorem zci{P:Program}{w:World}{H:Hp}{h:Heap}{c:Addr}{qual:Str}(e:h.CodeRec (.ref c) qual):ObjOk P w H h c (CodO c qual) :=
 ⟨e,(let ⟨_,oc,_,_,q,e,_⟩:=e;by cases q;exact⟨oc,e⟩),fun _ _ ⟨d,oc,vs,t,q,e,r⟩ k=>by cases q;exact⟨c,oc,vs,t,rfl,k _ e,r⟩⟩
section
variable{X:Cx}{CX:CXT}{k:Nat}{x:Str}{ps:List Str}{sp:Sp}{dvs:List V}{E:XK}{p pos:Pos}{e:Expr}{es:List Expr}{t:TA}
end
def CelO(c:Addr)(v:V):HO:=.ext fun h=>∃u,RelV v u/\h.IsCell c (some u)
def Cel(H:Hp)(c:Addr)(v:V):Prop:=∃o,H c=some (.frz o (CelO c v))
theorem V2{P:Program}{w:World}{H:Hp}{h:Heap}{c:Addr}{v:V}{u:Value}{o:Obj}(e:h.get? c=some o)(d:o.data=.cell (some u))(r:RelV v u):ObjOk P w H h c (.frz o (CelO c v)) :=
 ⟨e,⟨u,r,o,e,d⟩,⟨o,e⟩,fun _ _ ⟨u,r,o,e,d⟩ k=>⟨u,r,o,k _ e,d⟩⟩
def yK(H:Hp)(as:List Addr):Hp:=fun b=>if b∈as then none else H b
def xI(H' H:Hp)(as:List Addr):Hp:=fun b=>if b∈as then H b else H' b
theorem wf{H:Hp}{as:List Addr}{b:Addr}(h:b∈as):yK H as b=none:=if_pos h
theorem yg{H:Hp}{as:List Addr}{b:Addr}(h:b∉as):yK H as b=H b:=if_neg h
theorem vf{H' H:Hp}{as:List Addr}{b:Addr}(h:b∈as):xI H' H as b=H b:=if_pos h
theorem yG{H' H:Hp}{as:List Addr}{b:Addr}(h:b∉as):xI H' H as b=H' b:=if_neg h
abbrev lamC(mg:Str->Option Value)(qual:Str)(params:Arguments)(body:Expr)(scope:Scope)(cl:List (Str×Addr))(c:Addr)(ctv:Value):FuncData:=PySem.W.kla_fn "<lambda>" qual params body scope cl ((mg "__name__").getD .none) (.ref c) ctv
def V3(mg:Str->Option Value)(T:Addr)(qual:Str)(params:Arguments)(body:Expr)(scope:Scope)(pos:Pos)(cl:List (Str×Addr)):TE:=fun _ H Q=>∃ps,H T=some (.tbl ps)/\TriplesOk ps.toList /\
 ((codeAmong pos ps.toList=none/\∀(c f:Addr)(ctv:Value),H c=none->H f=none->f≠c->Q (.ref f) (upd (upd (upd H T (.tbl (ps ++ #[rawInt pos.line,rawInt pos.col,.ref c]))) c (CodO c qual)) f (FunO f (lamC mg qual params body scope cl c ctv)))) \/
   (∃c,codeAmong pos ps.toList=some (.ref c)/\∀(f:Addr)(ctv:Value),H f=none->Q (.ref f) (upd H f (FunO f (lamC mg qual params body scope cl c ctv)))))
theorem Q3{X:Cx}{cl:List (Str×Addr)}{c T:Addr}{params:Arguments}{body:Expr}{scope:Scope}{pos:Pos}{qual:Str}(hB:BMn X.mg X.base)(hcode:X.env.code=.ref c)(hc:U7 X.K c T=true)(hq:X.env.qual ++ "<lambda>"=qual)
  (hdef:defaultsOf params X.env=([],[])) (hcl:closureFor scope X.env=pure cl):PE X (.Lambda params body scope pos) (V3 X.mg T qual params body scope pos cl):=by
 intro pins s σ H Q I h
 refine PySem.W.kla_eval hdef ?_
 rw[hq]
 obtain⟨ps,hT,tr,h⟩:=h
 have gT:s.heap.get? T=some { cls:=.none,data:=.fields ps }:=I.hok T _ hT
 have hg:=I.mod.glob.keeps I.bk
 obtain⟨bAt,hgP⟩:=(hB.keeps I.bk).at hg gT
 rcases h with⟨nf,h⟩|⟨c',hit,h⟩
 ·refine PySem.W.kla_makeFunction (mg:=X.mg) hcl I.ok.glob hg hcode (PySem.W.codeHd_of_K I.kIn hc) gT tr nf hgP bAt fun c' ctv h' tk ext ge lt rec tab=>?_
  have hc0:H c'=none:=I.hok.fresh ge
  have hf0:H h'.objs.size=none:=I.hok.fresh (Uc ge (Nat.le_of_lt lt))
  have nfc:h'.objs.size≠c':=Nat.ne_of_gt lt
  have ncT:T≠c':=zk hT hc0
  have nfT:T≠h'.objs.size:=zk hT hf0
  have elsewhere:∀b,b≠T->b≠c'->b≠h'.objs.size->upd (upd (upd H T (.tbl (ps ++ #[rawInt pos.line,rawInt pos.col,.ref c']))) c' (CodO c' qual)) h'.objs.size (FunO h'.objs.size (lamC X.mg qual params body scope cl c' ctv)) b=H b:=fun b h1 h2 h3=>by rw[zi h3,zi h2,zi h1]
  have hU:∀b u,H b=some u->b≠T->upd (upd (upd H T (.tbl (ps ++ #[rawInt pos.line,rawInt pos.col,.ref c']))) c' (CodO c' qual)) h'.objs.size (FunO h'.objs.size (lamC X.mg qual params body scope cl c' ctv)) b=some u:=fun b u e n=>by
   rw[elsewhere b n (zk e hc0) (zk e hf0)];exact e
  have hTb:upd (upd (upd H T (.tbl (ps ++ #[rawInt pos.line,rawInt pos.col,.ref c']))) c' (CodO c' qual)) h'.objs.size (FunO h'.objs.size (lamC X.mg qual params body scope cl c' ctv)) T=some (.tbl (ps ++ #[rawInt pos.line,rawInt pos.col,.ref c'])):=by
   rw[zi nfT,zi ncT];exact upd_same
  have keep:∀b o,b≠T->s.heap.get? b=some o->(h'.push (PySem.W.kla_obj "<lambda>" qual params body scope cl ((X.mg "__name__").getD .none) c' ctv)).get? b=some o:=fun b o n e=>ug _ (ext b o n e)
  have neT:∀b,H b=none->b≠T:=fun b e n=>by rw[n,hT]at e;cases e
  refine⟨.ref h'.objs.size,_,I.un (t':=tk) (H':=upd (upd (upd H T (.tbl (ps ++ #[rawInt pos.line,rawInt pos.col,.ref c']))) c' (CodO c' qual)) h'.objs.size (FunO h'.objs.size (lamC X.mg qual params body scope cl c' ctv))) ⟨fun b o e n _ _=>keep b o (neT b n) e,fun b o e n _ _=>⟨o.slots,keep b o (neT b n) e⟩,fun b o e n _=>?_,fun b o e _=>?_,fun b xs e=>hU b _ e (fun z=>by rw[z,hT]at e;cases e),fun b o xs e=>hU b _ e (fun z=>by rw[z,hT]at e;cases e),fun b qs e=>?_⟩ ?_,rfl,h c' _ ctv hc0 hf0 nfc⟩
  ·have l:=uv e
   rw[elsewhere b (neT b n) (uS (uP l ge)) (uS (Nat.lt_trans (uP l ge) lt))]
   exact n
  ·by_cases z:b=T
   ·rw[z];exact⟨_,ug _ tab⟩
   ·exact⟨o,keep b o z e⟩
  ·by_cases z:b=T
   ·subst z
    rw[hT]at e;cases e
    exact⟨_,hTb⟩
   ·exact⟨#[],by rw[hU b _ e z];simp⟩
  ·intro b u e
   by_cases z1:b=h'.objs.size
   ·subst z1
    rw[upd_same]at e;cases e
    exact V1 (uA _ rfl)
   rw[zi z1]at e
   by_cases z2:b=c'
   ·subst z2
    rw[upd_same]at e;cases e
    obtain⟨d,oc,vs,t,q,e,r⟩:=rec
    exact zci ⟨d,oc,vs,t,q,ug _ e,r⟩
   rw[zi z2]at e
   by_cases z3:b=T
   ·subst z3
    rw[upd_same]at e;cases e
    exact ug _ tab
   rw[zi z3]at e
   refine(I.hok b u e).stay (fun d v hd q=>keep d v ?_ q) (fun d q=>hU d _ q fun z=>by rw[z,hT]at q;cases q) fun d xs q=>hU d _ q fun z=>by rw[z,hT]at q;cases q
   rcases hd with rfl|hd
   ·exact z3
   ·intro z
    rw[z,hT]at hd;cases hd
 ·refine PySem.W.kla_makeFunctionHit (mg:=X.mg) hcl I.ok.glob hg hcode (PySem.W.codeHd_of_K I.kIn hc) gT tr hit bAt fun ctv h' tk kp sz=>?_
  have hf0:H h'.objs.size=none:=I.hok.fresh sz
  exact⟨.ref h'.objs.size,_,I.laid (t':=tk) (o:=FunO h'.objs.size (lamC X.mg qual params body scope cl c' ctv)) (fun b u e=>ug _ (kp b u e)) sz (V1 (uA _ rfl)),rfl,h _ ctv hf0⟩
theorem XF{X:Cx}{cl:List (Str×Addr)}{c T:Addr}{params:Arguments}{body:Expr}{scope:Scope}{pos:Pos}{qual:Str}(hB:BMn X.mg X.base)(hcode:X.env.code=.ref c)(hc:U7 X.K c T=true)(hq:X.env.qual ++ "<lambda>"=qual)
  (hdef:defaultsOf params X.env=([],[]):=by rfl) (hcl:closureFor scope X.env=pure cl:=by with_unfolding_all rfl):jE X (.Lambda params body scope pos) (V3 X.mg T qual params body scope pos cl):=⟨Q3 hB hcode hc hq hdef hcl⟩
structure LamScope(N ps fs:List Str)(sc:Scope):Prop where
 kind:sc.kind=.function
 co:sc.isCoroutine=false
 gen:sc.isGenerator=false
 nd:N.Nodup
 cat:N=ps++fs
 par:∀x∈ps,sc.names.lookup x=some .local
 fre:∀x∈fs,sc.names.lookup x=some .free
 nocell:∀y∈sc.names,y.2≠.cell
 has:∀y∈sc.names,y.2=.free->y.1∈fs
structure Clo(H:Hp)(cl:List (Str×Addr))(fs:List Str)(fvs:List V):Prop where
 len:fvs.length=fs.length
 all:∀p∈cl,∃v,Cel H p.2 v
 get:∀(i:Nat)(x:Str)(v:V),fs[i]?=some x->fvs[i]?=some v->∃a,cl.lookup x=some a/\Cel H a v
 has:∀x∈fs,∃a,cl.lookup x=some a
 inj:∀x y a,cl.lookup x=some a->cl.lookup y=some a->x=y
def V4(CX:CXT)(P:Program)(w:World)(K:ub)(mg:Str->Option Value)(base:Heap)(N:List Str)(qual:Str)(scope:Scope)(f:Addr)(cd:Value)(cl:List (Str×Addr))(A:Around)(outer:List Env)(s:Shared)(H:Hp)(E:XK):Cx where
 prog:=P
 w:=w
 K:=K
 mg:=mg
 base:=base
 A:=A.deeper (Tg qual scope s.heap.objs.size f cd cl)
 N:=N
 s₀:=s
 H₀:=yK H (cl.map (·.2))
 env:=Tg qual scope s.heap.objs.size f cd cl
 outer:=outer
 stack:=Tg qual scope s.heap.objs.size f cd cl::outer
 ex:=[]
 calm:=true
 fn:=fun _=>false
 pn:=[]
 xe:=fun e s'=>wpAny (model P w) (A.deeper (Tg qual scope s.heap.objs.size f cd cl)) (leaving (Tg qual scope s.heap.objs.size f cd cl) e) (fun _ s''=>CX outer H s E e s'') (fun e' s''=>CX outer H s E e' s'') s'
theorem vN{x:Str}{v:Value}:∀{P:List Str}{vs:List Value}{i:Nat},P.Nodup->P[i]?=some x->vs[i]?=some v->(P.zip vs).reverse.lookup x=some v
 |[],_,_,_,h,_=>by simp at h
 |_::_,[],_,_,_,h=>by simp at h
 |p::P,w::vs,0,nd,h1,h2=>by
  simp at h1 h2;subst h1;subst h2
  have hn:∀y∈(P.zip vs).reverse,y.1≠p:=fun y hy z=>(Ub.mp nd).1 (z ▸ (UI (List.mem_reverse.mp hy)).1)
  rw[List.zip_cons_cons,tD,List.lookup_append]
  have:(P.zip vs).reverse.lookup p=none:=List.lookup_eq_none_iff.mpr fun y hy=>by simpa using fun z=>hn y hy z.symm
  rw[this]
  simp
 |p::P,w::vs,i+1,nd,h1,h2=>by
  rw[List.zip_cons_cons,tD,List.lookup_append,vN (i:=i) (Ub.mp nd).2 (by simpa using h1) (by simpa using h2)]
  rfl
section
variable{P:Program}{w:World}{H H':Hp}{h h':Heap}{as:List Addr}
theorem zS(hc:∀a∈as,∃v,Cel H a v){b:Addr}{u:HO}(e:H b=some u)(n:∀o c v,u≠.frz o (CelO c v)):yK H as b=some u:=by
 rw[yg]
 ·exact e
 ·intro z
  obtain⟨v,o,q⟩:=hc b z
  rw[e]at q
  exact n _ _ _ (uO.inj q)
theorem XG(hc:∀a∈as,∃v,Cel H a v)(x:HOk P w H h):HOk P w (yK H as) h:=fun b u e=>by
 have nb:b∉as:=fun z=>by rw[wf z]at e;cases e
 rw[yg nb]at e
 exact(x b u e).stay (fun _ _ _ q=>q) (fun d q=>zS hc q (by intro _ _ _ z;cases z)) fun d xs q=>zS hc q (by intro _ _ _ z;cases z)
theorem Q4(hn:∀a∈as,H' a=none)(hk:∀a∈as,∀u,H a=some u->∃v o,u=.frz o (CelO a v)/\h.get? a=some o/\h'.get? a=some o)(x:HOk P w H h)(x':HOk P w H' h'):HOk P w (xI H' H as) h':=fun b u e=>by
 have up:∀d z,H' d=some z->xI H' H as d=some z:=fun d z q=>by
  rw[yG]
  ·exact q
  ·intro y;rw[hn d y]at q;cases q
 by_cases nb:b∈as
 ·rw[vf nb]at e
  obtain⟨v,o,rfl,e1,e2⟩:=hk b nb u e
  obtain⟨_,⟨u',r,o',e3,d⟩,_⟩:=x b _ e
  rw[e1]at e3;cases e3
  exact V2 e2 d r
 ·rw[yG nb]at e
  exact(x' b u e).stay (fun _ _ _ q=>q) (fun d q=>up d _ q) fun d xs q=>up d _ q
theorem Q5{fs:List Addr}(hc:∀a∈as,∃v,Cel H a v)(u:Un fs [] (yK H as) H' h h')(hn:∀a∈as,H' a=none):Un fs [] H (xI H' H as) h h':=by
 have no:∀b,H b=none->b∉as:=fun b n z=>by
  obtain⟨v,o,q⟩:=hc b z
  rw[n]at q;cases q
 have mk:∀b,H b=none->yK H as b=none:=fun b n=>by rw[yg (no b n)];exact n
 have up:∀d z,H' d=some z->xI H' H as d=some z:=fun d z q=>by
  rw[yG]
  ·exact q
  ·intro y;rw[hn d y]at q;cases q
 refine⟨fun b o e n hb hx=>u.keep b o e (mk b n) hb hx,fun b o e n hb hx=>u.slot b o e (mk b n) hb hx,fun b o e n hx=>?_,u.there,fun b xs e=>up _ _ (u.tups b xs (zS hc e (by intro _ _ _ z;cases z))),fun b o x e=>?_,fun b ps e=>?_⟩
 ·rw[yG (no b n)]
  exact u.free b o e (mk b n) hx
 ·by_cases z:b∈as
  ·rw[vf z];exact e
  ·rw[yG z]
   exact u.frzs b o x (by rw[yg z];exact e)
 ·obtain⟨more,q⟩:=u.tbls b ps (zS hc e (by intro _ _ _ z;cases z))
  exact⟨more,up _ _ q⟩
end
theorem XH{CX:CXT}{P:Program}{w:World}{K:ub}{mg:Str->Option Value}{base:Heap}{k:Nat}{f c:Addr}{name qual:Str}{params:Arguments}{body:Expr}{scope:Scope}{cl:List (Str×Addr)}{pm ct:Value}
  {N ps fs:List Str} {sp:Sp} (S:LamScope N ps fs scope) (len:∀vs H Q E,sp vs H Q E->vs.length=ps.length)
  (hbody:∀(A:Around)(outer:List Env)(s:Shared)(H:Hp)(vs:List V)(Q:VK)(E:XK),Room k (A.deeper (Tg qual scope s.heap.objs.size f (.ref c) cl))->sp vs H Q E ->
   H f=some (FunO f (PySem.W.kla_fn name qual params body scope cl pm (.ref c) ct))/\H c=some (CodO c qual)/\∃fvs,Clo H cl fs fvs /\
   ∃t,jE (V4 CX P w K mg base N qual scope f (.ref c) cl A outer s H E) body t/\t (vs.map some++fvs.map some) (yK H (cl.map (·.2))) fun v H'=>(∀a∈cl.map (·.2),H' a=none)->Q v (xI H' H (cl.map (·.2)))) :
  FnOk P w K mg base CX (k+1) f (PySem.W.kla_fn name qual params body scope cl pm (.ref c) ct) ps sp:=by
 refine⟨len,fun A outer s H args us vs Q E hr e0 hb r hsp=>?_⟩
 have hl:=len _ _ _ _ hsp
 have lim:s.heap.NoLimit:=e0.mod.nolimit.keeps fun b o e=>(e0.bs b o e).1
 obtain⟨hf,hc,fvs,C,t,ht,hq⟩:=hbody A outer s H vs Q E (hr.deeper _) hsp
 have of:=(e0.hok f _ hf).1
 have oc:=(e0.hok c _ hc).1
 have hcA:∀a∈cl.map (·.2),∃v,Cel H a v:=fun a ha=>by
  obtain⟨p,hp,rfl⟩:=uy.mp ha
  exact C.all p hp
 have hcl:∀x a,cl.lookup x=some a->a∈cl.map (·.2):=fun x a e=>uy.mpr ⟨(x,a),u6 e,rfl⟩
 refine PySem.W.kla_callFunE hr.depth of rfl S.co S.gen rfl oc (hb _ _ _ _ ?_)
 refine wpAny_newFunctionEnv S.nocell (fun y hy=>S.par _ (UI hy).1) (fun h₁ hns hsb=>?_) S.kind
 have hk₁:∀b o,s.heap.get? b=some o->h₁.get? b=some o:=fun b o e=>hsb.extBut b o (uS (uv e)) (ug _ e)
 refine⟨lim.keeps hk₁,PySem.W.kla_codeExpr ?_⟩
 have isc:∀x a,cl.lookup x=some a->∃v,Cel H a v:=fun x a e=>hcA a (hcl x a e)
 have cget:∀a v,Cel H a v->∃u,RelV v u/\s.heap.IsCell a (some u):=fun a v ⟨o,q⟩=>(e0.hok a _ q).2.1
 have I:Inv (V4 CX P w K mg base N qual scope f (.ref c) cl A outer s H E) [] (vs.map some++fvs.map some) (yK H (cl.map (·.2))) { s with heap:=h₁,toks:=s.toks+(ps.zip us).length }:=by
  have noA:∀b:Addr,b∉(V4 CX P w K mg base N qual scope f (.ref c) cl A outer s H E).ex:=fun b z=>absurd (show b∈([]:List Addr)from z) (by simp)
  have mnone:∀b,H b=none->yK H (cl.map (·.2)) b=none:=fun b e=>by
   unfold yK
   split
   ·rfl
   ·exact e
  refine⟨⟨e0.mod,S.kind,rfl,rfl,ud _,fun y z a h1 h2=>C.inj y z a h1 h2,fun y hy=>?_,fun y a z=>absurd (show false=true from z) (by decide),fun _=>hr.hd,Around.frames_deeper e0.frames,.inr ⟨rfl,rfl⟩,fun b z=>absurd z (noA b),fun b o e=>⟨(e0.bs b o e).1,mnone _ (e0.bs b o e).2⟩,e0.bsz,fun b _ _=>noA b,fun b z=>absurd z (noA b),e0.funs,fun b hb=>mnone _ (e0.frf b hb)⟩,
   rfl,e0.bare,Un.kept hk₁,⟨_,hns,fun i y v h1 h2 h3=>?_⟩,fun y a h=>?_,mnone _ (e0.hok.fresh (ud _)),fun y a h=>wf (hcl y a h),fun p hp=>absurd (show p∈([]:List (Addr×Obj))from hp) (by simp),XG hcA (e0.hok.kept hk₁),?_⟩
  ·have hy:scope.names.lookup y=some .cell\/scope.names.lookup y=some .free:=hy
   rcases hy with hy|hy
   ·exact absurd rfl (S.nocell _ (u6 hy))
   ·exact C.has y (S.has _ (u6 hy) rfl)
  ·have h1:(ps++fs)[i]?=some y:=by rw[<- S.cat];exact h1
   have ndP:ps.Nodup:=by have:=S.nd;rw[S.cat]at this;exact(tO.mp this).1
   by_cases hi:i < vs.length
   ·rw[uX (by simpa using hi),ue]at h2
    rw[uX (by lia)]at h1
    cases e:vs[i]? with
    |none=>rw[e]at h2;cases h2
    |some a =>
     rw[e]at h2;cases h2
     obtain⟨u,hu,rv⟩:=r.get e
     exact⟨u,rv,.inl ⟨S.par y (uq h1),vN ndP h1 hu⟩⟩
   ·rw[Ug (by simpa using hi),ue]at h2
    rw[Ug (by lia)]at h1
    rw[ua,hl]at h2
    cases e:fvs[i-ps.length]? with
    |none=>rw[e]at h2;cases h2
    |some a =>
     rw[e]at h2;cases h2
     obtain⟨ca,g1,g2⟩:=C.get _ _ _ h1 e
     obtain⟨u,rv,q⟩:=cget _ _ g2
     exact⟨u,rv,.inr ⟨.inr (S.fre y (uq h1)),ca,g1,q.keeps hk₁⟩⟩
  ·obtain⟨v,q⟩:=isc y a h
   obtain⟨u,_,q⟩:=cget _ _ q
   exact⟨_,q.keeps hk₁⟩
  ·show _=N.length
   rw[S.cat,uf,uf,ua,ua,C.len,hl]
 refine wpAny_mono (ht.out [] _ _ _ _ I hq) (fun u s' hs=>?_) fun e s' hs=>hs
 obtain⟨v,H',J,rv,q⟩:=hs
 have hn:∀a∈cl.map (·.2),H' a=none:=fun a ha=>by
  obtain⟨v,o,q⟩:=hcA a ha
  obtain⟨e1,_⟩:=e0.hok a _ q
  exact J.base.free a o e1 (wf ha) (by exact fun z=>absurd (show a∈([]:List Addr)from z) (by simp))
 refine⟨v,_,J.os,J.bare,Q5 hcA J.base hn,Q4 hn (fun a ha u e=>?_) e0.hok J.hok,rv,q hn⟩
 obtain⟨v',o,q'⟩:=hcA a ha
 rw[q']at e;cases e
 obtain⟨e1,_⟩:=e0.hok a _ q'
 refine⟨v',o,rfl,e1,J.base.keep a o e1 (wf ha) (fun z=>?_) (fun z=>absurd (show a∈([]:List Addr)from z) (by simp))⟩
 rw[e0.frf a z]at q'
 cases q'
structure EndsR where
 nx:St->Hp->Prop
 rt:St->V->Hp->Prop
abbrev TR:=EndsR->St->Hp->Prop
def SPR(X:Cx)(D:EndsR)(f:Flow)(s':Shared):Prop :=
 match f with
 |.next=>∃σ' H',Inv X [] σ' H' s'/\D.nx σ' H'
 |.ret u=>∃v σ' H',Inv X [] σ' H' s'/\RelV v u/\D.rt σ' v H'
 |_=>False
structure jR(X:Cx)(st:List Stmt)(t:TR):Prop where
 out:∀(s:Shared)(σ:St)(H:Hp)(D:EndsR),Inv X [] σ H s->t D σ H->wpAny (model X.prog X.w) X.A (execs st X.env) (SPR X D) X.xe s
section
variable{X:Cx}{st:Stmt}{rest A:List Stmt}{t:TS}{u tA:TR}{e c:Expr}{te:TE}{tc:TT}{pos:Pos}
theorem Q6(h1:jS X st t)(h2:jR X rest u):jR X (st::rest) (fun D σ H=>t { nx:=u D,rt:=fun _ _=>False } σ H):=⟨by
 intro s σ H D I h
 refine wpAny_execs_cons (thn (h1.out [] s σ H { nx:=u D,rt:=fun _ _=>False } I h) fun f s1 q=>?_)
 cases f with
 |next =>
  obtain⟨σ',H',I',q⟩:=q
  exact h2.out s1 σ' H' D I' q
 |ret v =>
  obtain⟨_,_,_,_,_,q⟩:=q
  exact False.elim q
 |brk =>
  obtain⟨_,_,_,q⟩:=q
  exact False.elim q
 |cont =>
  obtain⟨_,_,_,q⟩:=q
  exact False.elim q⟩
theorem zcj(he:jE X e te):jR X [.Return (some e) pos] (fun D σ H=>te σ H (D.rt σ)):=⟨by
 intro s σ H D I h
 refine wpAny_execs_cons (wpAny_Return_some (thn (he.out [] s σ H _ I h) fun v s1 ⟨x,H1,I1,r1,q1⟩=>?_))
 exact⟨x,σ,H1,I1,r1,q1⟩⟩
end
structure Pub(H H3:Hp)(cvs:List (Addr×V)):Prop where
 old:∀b,b∉cvs.map (·.1)->H3 b=H b
 non:∀p∈cvs,H p.1=none
 cel:∀p∈cvs,Cel H3 p.1 p.2
def CellsAt(X:Cx)(σ:St)(cvs:List (Addr×V)):Prop:=∀p∈cvs,∃(i:Nat)(x:Str),X.N[i]?=some x/\σ[i]?=some (some p.2)/\X.env.cells.lookup x=some p.1/\(X.env.scope.names.lookup x=some .cell\/X.env.scope.names.lookup x=some .free)
theorem CellsAt.cell{X:Cx}{pins:List (Addr×Obj)}{σ:St}{H:Hp}{s:Shared}{cvs:List (Addr×V)}(I:Inv X pins σ H s)(h:CellsAt X σ cvs):∀p∈cvs,∃o u,s.heap.get? p.1=some o/\o.data=.cell (some u)/\RelV p.2 u:=fun p hp=>by
 obtain⟨i,x,e1,e2,e3,e4⟩:=h p hp
 obtain⟨m,_,l⟩:=I.loc
 obtain⟨u,r,l⟩:=l i x _ e1 e2 (.inr e4)
 rcases l with⟨k,_⟩|⟨_,c,q,o,e,d⟩
 ·have k:X.env.scope.names.lookup x=some .local:=k
  rcases e4 with e4|e4<;>rw[e4]at k<;>cases k
 ·rw[e3]at q;cases q
  exact⟨o,u,e,d,r⟩
def pubH(h:Heap)(H:Hp)(cvs:List (Addr×V)):Hp:=fun b=>match cvs.find? (fun p=>p.1 == b)with
 |some p=>some (.frz ((h.get? b).getD { cls:=.none,data:=.plain }) (CelO b p.2))
 |none=>H b
theorem YV{h:Heap}{H:Hp}{cvs:List (Addr×V)}{b:Addr}(hb:b∈cvs.map (·.1)):∃v,(b,v)∈cvs/\pubH h H cvs b=some (.frz ((h.get? b).getD { cls:=.none,data:=.plain }) (CelO b v)):=by
 obtain⟨p,hp,rfl⟩:=uy.mp hb
 cases e:cvs.find? (fun q=>q.1 == p.1)with
 |none=>exact absurd (List.find?_eq_none.mp e p hp) (by simp)
 |some q =>
  have h1:=List.find?_some e
  have h2:=List.mem_of_find?_eq_some e
  have h3:q.1=p.1:=by simpa using h1
  refine⟨q.2,by rw[<- h3];exact h2,?_⟩
  unfold pubH
  rw[e]
theorem yM{h:Heap}{H:Hp}{cvs:List (Addr×V)}{b:Addr}(hb:b∉cvs.map (·.1)):pubH h H cvs b=H b:=by
 unfold pubH
 rw[List.find?_eq_none.mpr fun p hp=>by simpa using fun z:p.1=b=>hb (uy.mpr ⟨p,hp,z⟩)]
section
variable{X:Cx}{pins:List (Addr×Obj)}{σ:St}{H:Hp}{s:Shared}{cvs:List (Addr×V)}
theorem Q7(I:Inv X pins σ H s)(h:CellsAt X σ cvs)(hN:X.N.Nodup){b:Addr}{v v':V}(h1:(b,v)∈cvs)(h2:(b,v')∈cvs):v=v':=by
 obtain⟨i,x,e1,e2,e3,_⟩:=h _ h1
 obtain⟨j,y,g1,g2,g3,_⟩:=h _ h2
 have:=I.ok.inj x y b e3 g3
 subst this
 have:i=j:=(List.getElem?_inj (uc.mp e1).1 hN).mp (e1.trans g1.symm)
 subst this
 rw[e2]at g2
 cases g2
 rfl
theorem V5(I:Inv X pins σ H s)(h:CellsAt X σ cvs)(hN:X.N.Nodup):Pub H (pubH s.heap H cvs) cvs :=
 ⟨fun b hb=>yM hb,fun p hp=>let ⟨_,x,_,_,e3,_⟩:=h p hp;I.freeC x _ e3,fun p hp=>by
  obtain⟨v,hv,e⟩:=YV (h:=s.heap) (H:=H) (uy.mpr ⟨p,hp,rfl⟩)
  have:=Q7 I h hN (b:=p.1) (v:=v) (v':=p.2) hv hp
  subst this
  exact⟨_,e⟩⟩
theorem V6(I:Inv X pins σ H s)(h:CellsAt X σ cvs):HOk X.prog X.w (pubH s.heap H cvs) s.heap:=fun b u e=>by
 have up:∀d z,H d=some z->pubH s.heap H cvs d=some z:=fun d z q=>by
  rw[yM]
  ·exact q
  ·intro y
   obtain⟨p,hp,rfl⟩:=uy.mp y
   obtain⟨_,x,_,_,e3,_⟩:=h p hp
   rw[I.freeC x _ e3]at q;cases q
 by_cases hb:b∈cvs.map (·.1)
 ·obtain⟨v,hv,e'⟩:=YV (h:=s.heap) (H:=H) hb
  rw[e']at e;cases e
  obtain⟨o,u,e1,e2,r⟩:=h.cell I _ hv
  have e1:s.heap.get? b=some o:=e1
  rw[e1]
  exact V2 e1 e2 r
 ·rw[yM hb]at e
  exact(I.hok b u e).stay (fun _ _ _ q=>q) (fun d q=>up d _ q) fun d xs q=>up d _ q
end
theorem zck{CX:CXT}{P:Program}{w:World}{K:ub}{mg:Str->Option Value}{base:Heap}{k:Nat}{f:Addr}{name qual:Str}{params:Arguments}{body:List Stmt}{scope:Scope}{dV kV doc pm cdv ct oc:Value}{an od:Option Addr}
  {osl:Array (Option Value)} {N ps:List Str} {sp:Sp} (lk:K.lookup f=some ⟨oc,od,.func (Ui name qual params body scope dV kV doc pm an cdv ct),osl⟩) (hcd:UM K cdv qual=true) (S:FnScope N ps scope)
  (len:∀vs H Q E,sp vs H Q E->vs.length=ps.length)
  (hbody:∀(A:Around)(outer:List Env)(s:Shared)(H:Hp)(vs:List V)(Q:VK)(E:XK),Room k (A.deeper (envOfC qual scope s.heap.objs.size f cdv))->sp vs H Q E->(∀b,s.heap.objs.size<=b->H b=none) ->
   ∃t,jR (cxOf CX P w K mg base N qual scope f cdv A outer s H E) body t/\t { nx:=fun _ H'=>Q .non H',rt:=fun σ v H'=>∃cvs,CellsAt (cxOf CX P w K mg base N qual scope f cdv A outer s H E) σ cvs/\∀H3,Pub H' H3 cvs->Q v H3 } (start N vs) H) :
  FnOk P w K mg base CX (k+1) f (Ui name qual params body scope dV kV doc pm an cdv ct) ps sp:=by
 refine⟨len,fun A outer s H args us vs Q E hr e0 hb r hsp=>?_⟩
 have hl:=len _ _ _ _ hsp
 have KX:K.In s.heap:=e0.mod.kin.keeps fun b o e=>(e0.bs b o e).1
 have lim:s.heap.NoLimit:=e0.mod.nolimit.keeps fun b o e=>(e0.bs b o e).1
 have hkind:∀y∈ps.zip us,scope.names.lookup y.1=some .local\/(scope.names.lookup y.1=some .cell/\((cellsFrom (s.heap.objs.size+1) scope.names []).lookup y.1).isSome=true):=fun⟨n,v⟩ hy=>by
  rcases S.par n (UI hy).1 with q|q
  ·exact .inl q
  ·exact .inr ⟨q,Td _ _ _ (.inl q)⟩
 refine codeAny_call_function hr.depth (KX _ _ lk) rfl S.co S.gen rfl (PySem.W.codeRec_of KX hcd) (hb _ _ _ _ ?_)
 refine wpAny_newFunctionEnv_cells S.kind hkind fun env he s1 x=>?_
 subst he
 refine⟨lim.keeps x.toInCall.keep,codeAny_func ?_⟩
 obtain⟨t,ht,hq⟩:=hbody A outer s H vs Q E (hr.deeper _) hsp fun b hb=>e0.hok.fresh hb
 have I:Inv (cxOf CX P w K mg base N qual scope f cdv A outer s H E) [] (start N vs) H s1:=jj S hr.hd e0 hl r x
 refine wpAny_mono (ht.out s1 (start N vs) H _ I hq) (fun fl s' hs=>?_) fun e s' hs=>hs
 cases fl with
 |ret u =>
  obtain⟨v,σ',H',J,rv,cvs,hc,q⟩:=hs
  have pb:=V5 J hc S.nd
  have q:=q _ pb
  have ab:∀b,b∈cvs.map (·.1)->s.heap.objs.size<=b:=fun b hb=>by
   obtain⟨p,hp,rfl⟩:=uy.mp hb
   obtain⟨_,x,_,_,e3,_⟩:=hc p hp
   exact J.ok.cab x _ rfl e3
  have no:∀b o,H' b=some o->b∉cvs.map (·.1):=fun b o e hb=>by
   obtain⟨p,hp,rfl⟩:=uy.mp hb
   rw[pb.non p hp]at e;cases e
  have un:Un (frs outer) [] H H' s.heap s'.heap:=J.base
  refine⟨v,_,J.os,J.bare,⟨un.keep,un.slot,fun b o e n hx=>?_,un.there,fun b xs e=>?_,fun b o xs e=>?_,fun b p e=>?_⟩,V6 J hc,rv,q⟩
  ·rw[pb.old b fun z=>absurd (uP (uv e) (ab b z)) (UG _)]
   exact un.free b o e n hx
  ·have e':=un.tups b xs e
   rw[pb.old b (no b _ e')];exact e'
  ·have e':=un.frzs b o xs e
   rw[pb.old b (no b _ e')];exact e'
  ·obtain⟨more,e'⟩:=un.tbls b p e
   exact⟨more,by rw[pb.old b (no b _ e')];exact e'⟩
 |next =>
  obtain⟨σ',H',J,q⟩:=hs
  exact⟨.non,H',J.os,J.bare,J.base,J.hok,rfl,q⟩
 |brk=>exact False.elim hs
 |cont=>exact False.elim hs
def zcl(X:Cx)(sp:Sp)(E:XK)(t:TA):TE:=fun σ H Q=>t σ H fun vs H1=>∃cvs,CellsAt X σ cvs/\∀H3,Pub H1 H3 cvs->sp vs H3 (fun r H4=>(∀p∈cvs,Cel H4 p.1 p.2)->Q r (yK H4 (cvs.map (·.1)))) E
theorem zcm{X:Cx}{k:Nat}{ps:List Str}{sp:Sp}{E:XK}{x:Str}{p pos:Pos}{e:Expr}{es:List Expr}{t:TA}(F:Ca X.prog X.w X.K X.mg X.base CX0 k x ps sp)(hr:Room k X.A)(hN:X.N.Nodup)(hg:Gl X x)(hfn:∀x,X.fn x=true)(ha:jA X (e::es) t)
  (hdb:(x == ("__debug__":Str))=false:=by decide) (h1:zw e=false:=by rfl) (h2:es.all (fun e=>!zw e)=true:=by rfl) :
  jE X (.Call (.Name x p) (e::es) [] pos) (zcl X sp E t):=⟨by
 obtain⟨f,fd,F,hb,hk,hm⟩:=F.ex
 intro pins s σ H Q I h
 refine wpAny_Call_Name_kw (xS I hg hm ?_ hdb)
 refine tJ (h₀:=X.base) I.ok.mod.kin hk (thn (ha.out pos pins s σ H _ I h) fun us s1 ⟨vs,H1,I1,r,cvs,hc,q⟩=>⟨I1.kIn,?_⟩) (zC h1) (yn h2)
 have pb:=V5 I1 hc hN
 have ok3:=V6 I1 hc
 have q:=q _ pb
 have hl:us.length=ps.length:=by rw[<- r.length];exact F.len _ _ _ _ q
 have nas:∀b o,H1 b=some o->b∉cvs.map (·.1):=fun b o e hb=>by
  obtain⟨p,hp,rfl⟩:=uy.mp hb
  rw[pb.non p hp]at e;cases e
 have e0:Env0 X.prog X.w X.K X.mg X.base X.A X.stack s1 (pubH s1.heap H1 cvs):=by
  have z:=I1.env0
  refine⟨z.frames,z.mod,fun b o e=>⟨(z.bs b o e).1,?_⟩,z.bsz,z.funs,fun b hb=>?_,ok3,z.bare⟩
  ·rw[yM]
   ·exact(z.bs b o e).2
   ·intro hb
    obtain⟨p,hp,rfl⟩:=uy.mp hb
    obtain⟨_,y,_,_,e3,_⟩:=hc p hp
    exact absurd (uP (uv e) (Uc I1.ok.bsz (I1.ok.cab y _ (hfn y) e3))) (UG _)
  ·rw[yM]
   ·exact z.frf b hb
   ·intro hb'
    obtain⟨p,hp,rfl⟩:=uy.mp hb'
    obtain⟨_,y,_,_,e3,_⟩:=hc p hp
    rcases um.mp (I1.stkSub _ hb)with q|q
    ·exact I1.cne y _ e3 q
    ·obtain⟨_,o,ho,_⟩:=I1.ok.funs.mem q
     exact absurd (uP (uv ho) (I1.ok.cab y _ (hfn y) e3)) (UG _)
 refine wpAny_call (codeAny_mono (F.run X.A X.stack s1 _ ⟨us,[]⟩ us vs _ E hr e0 (by have:=hb s1 us I1.kIn (by simpa using hl);simpa using this) r q) fun r s' hq=>?_)
 cases r with
 |error e=>exact False.elim hq
 |ok fl =>
  cases fl with
  |next=>exact False.elim hq
  |brk=>exact False.elim hq
  |cont=>exact False.elim hq
  |ret u =>
   refine I1.after ?_
   obtain⟨v,H4,os,bare,un,hok,rv,q⟩:=hq
   have cel4:∀b,b∈cvs.map (·.1)->∃o v,s1.heap.get? b=some o/\s'.heap.get? b=some o/\H4 b=some (.frz o (CelO b v)):=fun b hb=>by
    obtain⟨v,hv,e⟩:=YV (h:=s1.heap) (H:=H1) hb
    have e4:=un.frzs b _ _ e
    exact⟨_,v,(ok3 b _ e).1,(hok b _ e4).1,e4⟩
   have hcA:∀a∈cvs.map (·.1),∃v,Cel H4 a v:=fun a ha=>let ⟨o,v,_,_,e⟩:=cel4 a ha;⟨v,o,e⟩
   have up:∀b o,H1 b=some o->pubH s1.heap H1 cvs b=some o:=fun b o e=>by rw[yM (nas b o e)];exact e
   refine⟨v,_,os,bare,⟨fun b o e n hb hx=>?_,fun b o e n hb hx=>?_,fun b o e n hx=>?_,un.there,fun b xs e=>?_,fun b o xs e=>?_,fun b p e=>?_⟩,XG hcA hok,rv,q fun p hp=>let ⟨o,e⟩:=pb.cel p hp;⟨o,un.frzs _ _ _ e⟩⟩
   ·by_cases hb':b∈cvs.map (·.1)
    ·obtain⟨o',_,e1,e2,_⟩:=cel4 b hb'
     rw[e]at e1;cases e1
     exact e2
    ·exact un.keep b o e (by rw[yM hb'];exact n) hb hx
   ·by_cases hb':b∈cvs.map (·.1)
    ·obtain⟨o',_,e1,e2,_⟩:=cel4 b hb'
     rw[e]at e1;cases e1
     exact⟨o.slots,e2⟩
    ·exact un.slot b o e (by rw[yM hb'];exact n) hb hx
   ·by_cases hb':b∈cvs.map (·.1)
    ·exact wf hb'
    ·rw[yg hb']
     exact un.free b o e (by rw[yM hb'];exact n) hx
   ·rw[yg (nas b _ e)]
    exact un.tups b xs (up _ _ e)
   ·rw[yg (nas b _ e)]
    exact un.frzs b o xs (up _ _ e)
   ·obtain⟨more,e'⟩:=un.tbls b p (up _ _ e)
    exact⟨more,by rw[yg (nas b _ e)];exact e'⟩⟩
def V7(P:Program)(w:World)(K:ub)(mg:Str->Option Value)(base:Heap)(k:Nat)(E:XK)(i:Nat)(t:TA):TE:=fun σ H Q=>∃f,σ[i]?=some (some (.ref f)) /\
 (((∃fd,H f=some (FunO f fd))/\t σ H fun vs H1=>∃fd ps sp,FnOk P w K mg base CX0 k f fd ps sp/\Binds K fd ps []/\H1 f=some (FunO f fd)/\sp vs H1 Q E) \/
   (u0 K (.ref f)=true/\t σ H fun vs H1=>∃fd ps sp,FnOk P w K mg base CX0 k f fd ps sp/\Binds K fd ps []/\sp vs H1 Q E))
theorem Z3{X:Cx}{k:Nat}{E:XK}{i:Nat}{x:Str}{p pos:Pos}{e:Expr}{es:List Expr}{t:TA}(hr:Room k X.A)(hn:jE X (.Name x p) (tVar i))(hx:yw CX0 X E)(ha:jA X (e::es) t)(h1:zw e=false:=by rfl)(h2:es.all (fun e=>!zw e)=true:=by rfl):
  jE X (.Call (.Name x p) (e::es) [] pos) (V7 X.prog X.w X.K X.mg X.base k E i t):=⟨by
 intro pins s σ H Q I h
 obtain⟨f,hf,h⟩:=h
 refine wpAny_Call_Name_kw (thn (hn.out pins s σ H (fun v H1=>v=.ref f/\H1=H) I ⟨_,hf,rfl,rfl⟩) fun u s0 ⟨v,H0,I0,r0,e1,e2⟩=>?_)
 subst e1;subst e2
 cases r0
 rcases h with⟨⟨fd,hF⟩,h⟩|⟨hk,h⟩
 ·refine PySem.W.callWith_F ⟨_,_,_,_,(I0.hok f _ hF).1⟩ (thn (ha.out pos pins s0 σ H0 _ I0 h) fun us s1 ⟨vs,H1,I1,r,fd,ps,sp,F,hb,hF1,q⟩=>⟨⟨_,_,_,_,(I1.hok f _ hF1).1⟩,?_⟩) (zC h1) (yn h2)
  exact jQ F hr hb .nil hx I1 r (by rw[ux];exact q)
 ·refine tJ (h₀:=X.base) I0.ok.mod.kin hk (thn (ha.out pos pins s0 σ H0 _ I0 h) fun us s1 ⟨vs,H1,I1,r,fd,ps,sp,F,hb,q⟩=>⟨I1.kIn,?_⟩) (zC h1) (yn h2)
  exact jQ F hr hb .nil hx I1 r (by rw[ux];exact q)⟩
structure FunC(K:ub)(x:Str)(st:Stmt)(c f:Addr)(fd:FuncData):Prop where
 ex:∃(oc:Value)(od:Option Addr)(kV doc pm:Value)(an:Option Addr)(ct:Value)(osl:Array (Option Value)),fd=Ui x x (zX st) (zL st) (zo st) .none kV doc pm an (.ref c) ct/\K.lookup f=some ⟨oc,od,.func fd,osl⟩/\UM K (.ref c) x=true
section
variable{P:Program}{w:World}{K:ub}{mg:Str->Option Value}{base h:Heap}{x:Str}{st:Stmt}{c f:Addr}{fd:FuncData}{N ps:List Str}{k:Nat}{sp:Sp}
theorem FunC.by(F:FunC K x st c f fd)(S:FnScope N ps (zo st))(len:∀vs H Q E,sp vs H Q E->vs.length=ps.length)
  (hbody:∀(A:Around)(outer:List Env)(s:Shared)(H:Hp)(vs:List V)(Q:VK)(E:XK),Room k (A.deeper (envOfC x (zo st) s.heap.objs.size f (.ref c)))->sp vs H Q E ->
   ∃t,jSs (cxOf CX0 P w K mg base N x (zo st) f (.ref c) A outer s H E).nox (zL st) t/\t { nx:=fun _ H'=>Q .non H',rt:=Q } (start N vs) H):FnOk P w K mg base CX0 (k+1) f fd ps sp:=by
 obtain⟨oc,od,kV,doc,pm,an,ct,osl,rfl,lk,hcd⟩:=F.ex
 refine za0 lk hcd S len fun A outer s H vs Q E hr hsp=>?_
 obtain⟨t,h,q⟩:=hbody A outer s H vs Q E hr hsp
 exact⟨t,h.out.nox,q⟩
theorem FunC.byR(F:FunC K x st c f fd)(S:FnScope N ps (zo st))(len:∀vs H Q E,sp vs H Q E->vs.length=ps.length)
  (hbody:∀(A:Around)(outer:List Env)(s:Shared)(H:Hp)(vs:List V)(Q:VK)(E:XK),Room k (A.deeper (envOfC x (zo st) s.heap.objs.size f (.ref c)))->sp vs H Q E->(∀b,s.heap.objs.size<=b->H b=none) ->
   ∃t,jR (cxOf CX0 P w K mg base N x (zo st) f (.ref c) A outer s H E) (zL st) t/\t { nx:=fun _ H'=>Q .non H',rt:=fun σ v H'=>∃cvs,CellsAt (cxOf CX0 P w K mg base N x (zo st) f (.ref c) A outer s H E) σ cvs/\∀H3,Pub H' H3 cvs->Q v H3 } (start N vs) H) :
  FnOk P w K mg base CX0 (k+1) f fd ps sp:=by
 obtain⟨oc,od,kV,doc,pm,an,ct,osl,rfl,lk,hcd⟩:=F.ex
 exact zck lk hcd S len hbody
def DcIn(K:ub)(x:Str)(st:Stmt)(c:Addr):Prop:=∃f,Up K mainGlobals x=some (some (.ref f))/\∃(oc:Value)(od:Option Addr)(kV doc pm:Value)(an:Option Addr)(ct:Value)(osl:Array (Option Value)),K.lookup f=some ⟨oc,od,.func (Ui x x (zX st) (zL st) (zo st) .none kV doc pm an (.ref c) ct),osl⟩/\UM K (.ref c) x=true/\u0 K (.ref f)=true
theorem DcIn.mk{oc:Value}{od:Option Addr}{kV doc pm:Value}{an:Option Addr}{ct:Value}{osl:Array (Option Value)}(a:Up K mainGlobals x=some (some (.ref f)))(l:K.lookup f=some ⟨oc,od,.func (Ui x x (zX st) (zL st) (zo st) .none kV doc pm an (.ref c) ct),osl⟩)(cc:UM K (.ref c) x=true)(k:u0 K (.ref f)=true):DcIn K x st c:=⟨f,a,oc,od,kV,doc,pm,an,ct,osl,l,cc,k⟩
theorem DcIn.ca(X:K.In h)(G:h.Ns mainGlobals mg)(d:DcIn K x st c)(hb:∀(kV doc pm:Value)(an:Option Addr)(ct:Value)(us:List Value),us.length=ps.length->bindArgs (Ui x x (zX st) (zL st) (zo st) .none kV doc pm an (.ref c) ct) ⟨us,[]⟩=pure (ps.zip us))
  (ok:∀f fd,FunC K x st c f fd->FnOk P w K mg base CX0 k f fd ps sp):Ca P w K mg base CX0 k x ps sp:=by
 obtain⟨f,a,oc,od,kV,doc,pm,an,ct,osl,l,cc,kp⟩:=d
 exact⟨f,_,ok f _ ⟨oc,od,kV,doc,pm,an,ct,osl,rfl,l,cc⟩,.all fun us hl=>hb kV doc pm an ct us hl,kp,tY X G a⟩
end
def TbG(T:Addr)(ls:List (Pos×Str))(H:Hp):Prop:=∃ps,H T=some (.tbl ps)/\TriplesOk ps.toList/\∀p∈ls,codeAmong p.1 ps.toList=none\/∃c,codeAmong p.1 ps.toList=some (.ref c)/\H c=some (CodO c p.2)
theorem Ws{a b:Int}{c:Value}(l:List Value)(h:TriplesOk l):TriplesOk (l++[rawInt a,rawInt b,c]):=by
 fun_induction TriplesOk l with
 |case1=>trivial
 |case2 i t j u v rest ih=>exact ih h
 |case3=>exact False.elim h
theorem Z4{pos p':Pos}{c:Value}(l:List Value)(h:TriplesOk l)(n:¬ (p'.line=pos.line/\p'.col=pos.col)):codeAmong pos (l++[rawInt p'.line,rawInt p'.col,c])=codeAmong pos l:=by
 fun_induction TriplesOk l with
 |case1 =>
  show(if((p'.line:Nat):Int) == (pos.line:Nat) && ((p'.col:Nat):Int) == (pos.col:Nat)then some c else codeAmong pos [])=_
  rw[if_neg]
  simp
  intro e e'
  exact n ⟨by lia,by lia⟩
 |case2 i t j u v rest ih =>
  show(if i == (pos.line:Nat) && j == (pos.col:Nat)then some v else codeAmong pos (rest++_))=if i == (pos.line:Nat) && j == (pos.col:Nat)then some v else codeAmong pos rest
  rw[ih h]
 |case3=>exact False.elim h
theorem Wt{pos p':Pos}(l:List Value)(n:p'.line=pos.line/\p'.col=pos.col):codeAmong pos l=codeAmong p' l:=by
 fun_induction codeAmong pos l with
 |case1 line _ col _ c rest h=>rw[codeAmong,n.1,n.2,if_pos h]
 |case2 line _ col _ c rest h ih=>rw[codeAmong,n.1,n.2,if_neg h];exact ih
 |case3 l h =>
  unfold codeAmong
  split
  ·exact absurd rfl (h _ _ _ _ _ _)
  ·rfl
theorem TbG.keep{T:Addr}{ls:List (Pos×Str)}{H H':Hp}(h:TbG T ls H)(kt:∀ps,H T=some (.tbl ps)->H' T=some (.tbl ps))(kc:∀c q,H c=some (CodO c q)->H' c=some (CodO c q)):TbG T ls H':=by
 obtain⟨ps,e,t,h⟩:=h
 exact⟨ps,kt _ e,t,fun p hp=>(h p hp).imp_right fun⟨c,a,b⟩=>⟨c,a,kc _ _ b⟩⟩
theorem TbG.empty{T:Addr}{ls:List (Pos×Str)}{H:Hp}(h:H T=some (.tbl #[])):TbG T ls H:=⟨#[],h,trivial,fun p _=>.inl rfl⟩
theorem Z5{mg:Str->Option Value}{T:Addr}{ls:List (Pos×Str)}{qual:Str}{params:Arguments}{body:Expr}{scope:Scope}{pos:Pos}{cl:List (Str×Addr)}{σ:St}{H:Hp}{Q:VK}(h:TbG T ls H)(hm:(pos,qual)∈ls)(hu:∀p∈ls,(pos.line=p.1.line/\pos.col=p.1.col)->p.2=qual)
  (q:∀H' f c ct,(∀b u,b≠T->H b=some u->H' b=some u)->TbG T ls H'->H f=none->f≠T->c≠T->H' f=some (FunO f (lamC mg qual params body scope cl c ct))->H' c=some (CodO c qual)->Q (.ref f) H'):V3 mg T qual params body scope pos cl σ H Q:=by
 obtain⟨ps,hT,tr,ha⟩:=h
 refine⟨ps,hT,tr,?_⟩
 rcases ha _ hm with hn|⟨c,hs,hc⟩
 ·refine .inl ⟨hn,fun c f ct h1 h2 h3=>?_⟩
  have n1:T≠c:=zk hT h1
  have n2:T≠f:=zk hT h2
  have kp:∀b u,b≠T->H b=some u->upd (upd (upd H T (.tbl (ps ++ #[rawInt pos.line,rawInt pos.col,.ref c]))) c (CodO c qual)) f (FunO f (lamC mg qual params body scope cl c ct)) b=some u:=fun b u n e=>by rw[zi (zk e h2),zi (zk e h1),zi n];exact e
  have e2:upd (upd (upd H T (.tbl (ps ++ #[rawInt pos.line,rawInt pos.col,.ref c]))) c (CodO c qual)) f (FunO f (lamC mg qual params body scope cl c ct)) c=some (CodO c qual):=by rw[zi h3.symm];exact upd_same
  refine q _ f c ct kp ⟨_,by rw[zi n2,zi n1];exact upd_same,?_,fun p hp=>?_⟩ h2 n2.symm n1.symm upd_same e2
  ·rw[Array.toList_append]
   exact Ws _ tr
  ·rw[Array.toList_append]
   by_cases z:pos.line=p.1.line/\pos.col=p.1.col
   ·refine .inr ⟨c,?_,by rw[e2,hu p hp z]⟩
    rw[Wt _ z]
    exact codeAmong_snoc _ tr hn
   ·rw[show(#[rawInt pos.line,rawInt pos.col,Value.ref c]:Array Value).toList=[rawInt pos.line,rawInt pos.col,.ref c]from rfl,Z4 _ tr z]
    refine(ha p hp).imp_right fun⟨d,a,b⟩=>⟨d,a,kp _ _ (fun w=>?_) b⟩
    rw[w,hT]at b
    cases b
 ·refine .inr ⟨c,hs,fun f ct h2=>?_⟩
  have kp:∀b u,H b=some u->upd H f (FunO f (lamC mg qual params body scope cl c ct)) b=some u:=fun b u e=>by rw[zi (zk e h2)];exact e
  refine q _ f c ct (fun b u _ e=>kp b u e) ⟨ps,kp _ _ hT,tr,fun p hp=>(ha p hp).imp_right fun⟨d,a,b⟩=>⟨d,a,kp _ _ b⟩⟩ h2 (zk hT h2).symm (fun w=>?_) upd_same (kp _ _ hc)
  rw[w,hT]at hc
  cases hc
section
variable{X:Cx}
end
end L2
namespace GN
open PySem L2
inductive All2{α β:Type}(F:α->β->Prop):List α->List β->Prop
 |nil:All2 F [] []
 |cons {a b l m}:F a b->All2 F l m->All2 F (a::l) (b::m)
section
variable{α β:Type}{F G:α->β->Prop}{l:List α}{m:List β}
theorem All2.imp(h:All2 F l m)(f:∀a b,F a b->G a b):All2 G l m:=by
 induction h with
 |nil=>exact .nil
 |cons a _ ih=>exact .cons (f _ _ a) ih
theorem All2.len(h:All2 F l m):l.length=m.length:=by
 induction h with
 |nil=>rfl
 |cons _ _ ih=>rw[ul,ul,ih]
theorem All2.app{l':List α}{m':List β}(h:All2 F l m)(g:All2 F l' m'):All2 F (l++l') (m++m'):=by
 induction h with
 |nil=>exact g
 |cons a _ ih=>exact .cons a ih
theorem All2.get(h:All2 F l m):∀{i:Nat}{b:β},m[i]?=some b->∃a,l[i]?=some a/\F a b:=by
 induction h with
 |nil=>intro i b e;simp at e
 |cons a _ ih =>
  intro i b e
  cases i with
  |zero=>simp at e;subst e;exact⟨_,rfl,a⟩
  |succ i=>simp at e;obtain⟨x,h1,h2⟩:=ih e;exact⟨x,by simpa using h1,h2⟩
theorem All2.getl(h:All2 F l m):∀{i:Nat}{a:α},l[i]?=some a->∃b,m[i]?=some b/\F a b:=by
 induction h with
 |nil=>intro i b e;simp at e
 |cons a _ ih =>
  intro i b e
  cases i with
  |zero=>simp at e;subst e;exact⟨_,rfl,a⟩
  |succ i=>simp at e;obtain⟨x,h1,h2⟩:=ih e;exact⟨x,by simpa using h1,h2⟩
end
theorem iteN{b:Bool}{A B:Prop}(e:b=false)(h:B):if b=true then A else B:=by rw[if_neg (by rw[e];decide)];exact h
def KM(M:Addr->Prop)(H H':Hp):Prop:=∀b u,¬ M b->H b=some u->H' b=some u
def Kz(M R:Addr->Prop)(H H':Hp):Prop:=∀b u,H b=some u->¬ M b->(∀xs,u=.lst xs->R b)->H' b=some u
def KO(M:Addr->Prop)(H H':Hp):Prop:=∀b u,H b=some u->(∀xs,u=.lst xs->M b)->H' b=some u
theorem KM.refl{M:Addr->Prop}{H:Hp}:KM M H H:=fun _ _ _ h=>h
theorem KM.trans{M:Addr->Prop}{H H1 H2:Hp}(a:KM M H H1)(b:KM M H1 H2):KM M H H2:=fun c u n h=>b c u n (a c u n h)
theorem KM.of{M:Addr->Prop}{H H1:Hp}(a:Same H H1):KM M H H1:=fun c u _ h=>a c u h
theorem KM.free{M:Addr->Prop}{H H1:Hp}{b:Addr}(a:KM M H H1)(n:¬ M b)(h:H1 b=none):H b=none:=by
 cases e:H b with
 |none=>rfl
 |some u=>rw[a b u n e]at h;cases h
theorem KM.new{M:Addr->Prop}{H H1:Hp}{p:Addr}{o:HO}(a:KM M H H1)(h:H1 p=none):KM M H (upd H1 p o):=a.trans (.of fun b u e=>by rw[zi (zk e h)];exact e)
theorem KM.put{M:Addr->Prop}{H H1:Hp}{p:Addr}{o:HO}(a:KM M H H1)(h:H p=none):KM M H (upd H1 p o):=fun b u n e=>by rw[zi (zk e h)];exact a b u n e
def CanC(P:Program)(w:World)(K:ub)(mg:Str->Option Value)(base:Heap)(k:Nat)(H:Hp)(f:Addr)(vs:List V)(Q:VK)(E:XK):Prop :=
 ∃fd ps sp,FnOk P w K mg base CX0 k f fd ps sp/\Binds K fd ps []/\sp vs H Q E/\(H f=some (FunO f fd)\/u0 K (.ref f)=true)
structure WoD(P:Program)(w:World)(K:ub)(mg:Str->Option Value)(base:Heap)(k:Nat) where
 Tk:Type
 M:Addr->Prop
 fb:Addr
 wt:Tk->Nat
 kids:Tk->List Tk
 wk:∀t,((kids t).map wt).sum+2<=wt t
 IT:Hp->(Addr->Prop)->Tk->V->Prop
 IR:Hp->(Addr->Prop)->Tk->V->Prop
 IF:Hp->(Addr->Prop)->Tk->V->Prop
 Ok:Hp->Prop
 itk:∀{H H' R R' t v},IT H R t v->Ok H->Kz M R H H'->(∀b,R b->R' b)->IT H' R' t v
 irk:∀{H H' R R' t v},IR H R t v->Ok H->Kz M R H H'->(∀b,R b->R' b)->IR H' R' t v
 ifk:∀{H H' R R' t v},IF H R t v->Ok H->Kz M R H H'->(∀b,R b->R' b)->IF H' R' t v
 okk:∀{H H'},Ok H->KO M H H'->Ok H'
 okM:∀{H b},Ok H->M b->H b≠none
 beg:∀{H R t v Q},IT H R t v->Ok H->(∀b,R b->H b≠none)->(∀b,R b->¬ M b) ->
  (∀H' q l fl vs R',KM M H H'->Ok H'->H' q=some (.tup [.ref l,.ref fl])->H l=none->H' l=some (.lst vs)->(∀b,R b->R' b)->(∀b,R' b->R b\/H b=none)->(∀b,R' b->H' b≠none)->R' l->All2 (IT H' R') (kids t) vs->IF H' R' t (.ref fl)->Q (.ref q) H') ->
  CanC P w K mg base k H fb [v] Q E0
 fin:∀{H R t fl rl rs Q},IF H R t (.ref fl)->Ok H->(∀b,R b->H b≠none)->(∀b,R b->¬ M b)->R rl->H rl=some (.lst rs)->All2 (IR H R) (kids t) rs ->
  (∀H' v R',KM M H H'->Ok H'->(∀b,R b->R' b)->(∀b,R' b->R b\/H b=none)->(∀b,R' b->H' b≠none)->IR H' R' t v->Q v H') ->
  CanC P w K mg base k H fl [.ref rl] Q E0
structure Bn(K:ub)(cB:Addr):Prop where
 cl:Cls K cB
 b1:NoAttr K cB "within"
 b2:NoAttr K cB "finish"
 b3:NoAttr K cB "results"
def BO(cB dx wa fl ra:Addr):HO:=.ins cB dx [("within",.ref wa),("finish",.ref fl),("results",.ref ra)]
def XI(cB:Addr):Sp:=fun vs H Q _=>∃(x dx wa fl:Addr),vs=[.ref x,.ref wa,.ref fl]/\H x=some (.ins cB dx [])/\∀H' ra,(∀b u,b≠x->H b=some u->H' b=some u)->H ra=none->H' ra=some (.lst [])->H' x=some (BO cB dx wa fl ra)->Q .non H'
def V8:Sp:=fun vs H Q _=>∃(p:Addr)(v:V)(xs:List V),vs=[.ref p]/\H p=some (.lst (v::xs))/\Q v H
section
variable{P:Program}{w:World}{K:ub}{mg:Str->Option Value}{base:Heap}{f cB:Addr}{fd:FuncData}
theorem Q8:FnScope lS22 lS22 (zo YD):=.ok
theorem V9(F:Fun K "__init__" "Begun.__init__" YD f fd)(N:Bn K cB):FnOk P w K mg base CX0 1 f fd lS22 (XI cB):=by
 refine F.by Q8 (fun vs H Q E h=>?_) (fun cdv A outer s H vs Q E hr h=>?_)
 ·obtain⟨x,dx,wa,fl,rfl,_⟩:=h
  rfl
 obtain⟨x,dx,wa,fl,rfl,hx,q⟩:=h
 refine⟨_,(zg (wB (jv 0) (jv 1)) (zg (wB (jv 0) (jv 2)) (zh (wB (jv 0) (zB zE))))),?_⟩
 refine⟨_,rfl,_,rfl,x,cB,dx,_,rfl,hx,N.cl,N.b1,by show 0 < 1000;decide,?_⟩
 refine⟨_,rfl,_,rfl,x,cB,dx,_,rfl,upd_same,N.cl,N.b2,by show 1 < 1000;decide,?_⟩
 refine⟨sN0,fun ra hra=>?_⟩
 have nx:ra≠x:=fun z=>by
  rw[z,upd_same]at hra
  cases hra
 have hra':H ra=none:=by
  rw[zi nx,zi nx]at hra
  exact hra
 refine⟨_,rfl,x,cB,dx,_,rfl,by rw[zi nx.symm];exact upd_same,N.cl,N.b3,by show 2 < 1000;decide,?_⟩
 refine q _ ra (fun b u n e=>?_) hra' (by rw[zi nx];exact upd_same) upd_same
 rw[zi n,zi (zk e hra'),zi n,zi n]
 exact e
theorem zcn:FnScope ["results"] ["results"] (zo VF):=.ok
theorem Q9(F:Fun K "only_one" "only_one" VF f fd):FnOk P w K mg base CX0 1 f fd ["results"] V8:=by
 refine F.by zcn (fun vs H Q E h=>?_) (fun cdv A outer s H vs Q E hr h=>?_)
 ·obtain⟨p,v,xs,rfl,_⟩:=h
  rfl
 obtain⟨p,v,xs,rfl,hp,q⟩:=h
 exact⟨_,(zh (zq (xL 0))),_,rfl,ixL hp aI0 (q)⟩
end
structure En(Tk:Type) where
 bo:Addr
 dx:Addr
 wa:Addr
 ra:Addr
 fl:Addr
 tk:Option Tk
 ts:List Tk
 rs:List V
section
variable{P:Program}{w:World}{K:ub}{mg:Str->Option Value}{base:Heap}{k:Nat}(D:WoD P w K mg base k)(cB fo:Addr)(root:D.Tk)
structure EnOk(H:Hp)(R:Addr->Prop)(e:En D.Tk):Prop where
 o:H e.bo=some (BO cB e.dx e.wa e.fl e.ra)
 nb:¬ D.M e.bo
 w:∃ws,H e.wa=some (.lst ws)/\All2 (D.IT H R) e.ts ws
 Rw:R e.wa
 r:H e.ra=some (.lst e.rs)
 nr:¬ R e.ra
 nM:¬ D.M e.ra
 le:e.rs.length<=e.ts.length
 rr:All2 (D.IR H R) (e.ts.take e.rs.length) e.rs
 fin:match e.tk with
  |none=>e.fl=fo/\e.ts=[root]
  |some t=>D.IF H R t (.ref e.fl)/\e.ts=D.kids t
inductive Lnk:List (En D.Tk)->Prop
 |bot {e:En D.Tk}:e.tk=none->Lnk [e]
 |up {e e':En D.Tk} {es:List (En D.Tk)} {t:D.Tk}:Lnk (e'::es)->e.tk=some t->e'.ts[e'.rs.length]?=some t->Lnk (e::e'::es)
def mlow:List (En D.Tk)->Nat
 |[]=>0
 |e::es=>1+((e.ts.drop (e.rs.length+1)).map D.wt).sum+mlow es
def mall:List (En D.Tk)->Nat
 |[]=>0
 |e::es=>1+((e.ts.drop e.rs.length).map D.wt).sum+mlow D es
theorem Z6:∀es:List (En D.Tk),es.length<=mlow D es
 |[]=>ud _
 |e::es=>by
  unfold mlow
  have:=Z6 es
  rw[ul]
  lia
theorem Ja(es:List (En D.Tk)):es.length<=mall D es:=by
 cases es with
 |nil=>exact ud _
 |cons e es =>
  unfold mall
  have:=Z6 D es
  rw[ul]
  lia
theorem Jb:∀ts:List D.Tk,ts.length<=(ts.map D.wt).sum
 |[]=>ud _
 |t::ts=>by
  have:=Jb ts
  have:=D.wk t
  rw[ul,uH,Uu]
  lia
variable{D cB fo root}
theorem EnOk.keep{H H':Hp}{R R':Addr->Prop}{e:En D.Tk}(h:EnOk D cB fo root H R e)(ok:D.Ok H)(z:Kz D.M R H H')(rM:∀b,R b->¬ D.M b)(sub:∀b,R b->R' b)(hr:H' e.ra=some (.lst e.rs))(nr:¬ R' e.ra):EnOk D cB fo root H' R' e:=by
 obtain⟨o,nb,⟨ws,w1,w2⟩,Rw,r,nr',nM,le,rr,fin⟩:=h
 refine⟨z _ _ o nb (by intro xs q;unfold BO at q;cases q),nb,⟨ws,z _ _ w1 (rM _ Rw) (fun _ _=>Rw),w2.imp fun a b q=>D.itk q ok z sub⟩,sub _ Rw,hr,nr,nM,le,rr.imp fun a b q=>D.irk q ok z sub,?_⟩
 cases q:e.tk with
 |none=>rw[q]at fin;exact fin
 |some t=>rw[q]at fin;exact⟨D.ifk fin.1 ok z sub,fin.2⟩
end
def Z7(P:Program)(w:World)(K:ub)(mg:Str->Option Value)(base:Heap)(k:Nat):Sp:=fun vs H Q _=>∃(D:WoD P w K mg base k)(v:V)(root:D.Tk)(R:Addr->Prop),vs=[v,.ref D.fb]/\D.IT H R root v/\D.Ok H/\(∀b,R b->H b≠none)/\(∀b,R b->¬ D.M b)/\D.wt root<=1000000 /\
 ((∃fd,H D.fb=some (FunO D.fb fd))/\¬ D.M D.fb\/u0 K (.ref D.fb)=true) /\
 ∀H' v' R',KM D.M H H'->D.Ok H'->(∀b,R' b->¬ D.M b)->D.IR H' R' root v'->Q v' H'
section
variable{P:Program}{w:World}{K:ub}{mg:Str->Option Value}{base:Heap}{f cB fo:Addr}{fd fdo:FuncData}{k:Nat}
theorem scWorked:FnScope ["task","begin","waiting","last","pair","finish","result"] ["task","begin"] (zo j8):=.ok
theorem vO{i:Nat}{t:TA}{σ:St}{H:Hp}{Q:VK}{f:Addr}{vs:List V}(hi:σ[i]?=some (some (.ref f)))(ha:∀R:List V->Hp->Prop,R vs H->t σ H R)(h:CanC P w K mg base k H f vs Q E0):V7 P w K mg base k E0 i t σ H Q:=by
 obtain⟨fd,ps,sp,F,b,q,c⟩:=h
 rcases c with c|c
 ·exact⟨f,hi,.inl ⟨⟨fd,c⟩,ha _ ⟨fd,ps,sp,F,b,c,q⟩⟩⟩
 ·exact⟨f,hi,.inr ⟨c,ha _ ⟨fd,ps,sp,F,b,q⟩⟩⟩
theorem Wu(F:Fun K "worked_out" "worked_out" j8 f fd)(N:Bn K cB)(GB:Ma P w K mg base CX0 1 "Begun" cB lS22 (XI cB))(GO:FnOk P w K mg base CX0 1 fo fdo ["results"] V8)(bO:Binds K fdo ["results"] [])(kO:u0 K (.ref fo)=true)(mO:mg "only_one"=some (.ref fo))(m_len:mg "len"=none)(hk:2<=k):FnOk P w K mg base CX0 (k+1) f fd ["task","begin"] (Z7 P w K mg base k):=by
 refine F.by scWorked (fun vs H Q E h=>?_) (fun cdv A outer s H vs Q E hr h=>?_)
 ·obtain⟨D,v,root,R,rfl,_⟩:=h
  rfl
 obtain⟨D,v,root,R0,rfl,hIT,hOk,hR0,hRM0,hwt,hfb,q⟩:=h
 have hr2:Room (1+1) _:=hr.mono (by lia)
 refine⟨_,
  (zg (sE 2 scWorked.nd (zB (jA1 (za9 GB hr2 rfl xp (jA2 (zB (jA1 (jv 0))) (Qz (v:=.ref fo) rfl mO rfl))))))
  (zh (vt PassesOwn.never (yI yt)
   (zg (sE 3 scWorked.nd (xX zI (jv 2) (xK zj)))
   (zh (zy (tN wU (jL m_len (yC (jv 3))) (jL m_len (yC (jv 3))))
    (zg (sE 4 scWorked.nd (Z3 hr (jv 1) xp (jA1 (xX zI (yC (jv 3)) (jL m_len (yC (jv 3)))))))
    (zh (zD (yu uz uI uJ zH (jv 2) (jA1 (za9 GB hr2 rfl xp (jA2 (xT 4) (xT 4))))))))
    (zg (sE 5 scWorked.nd (yC (jv 3)))
    (zg (sE 6 scWorked.nd (Z3 hr (jv 5) xp (jA1 (yC (jv 3)))))
    (zg (zD (YA uz PySem.F.slot_list_pop PySem.F.type_list_pop Vj (jv 2)))
    (zg (zy (tN zA (jL m_len (jv 2)) zj)
     (zh (zq (jv 6))) zt)
    (zh (zD (yu uz uI uJ zH (yC (xX zI (jv 2) (xK zj))) (jA1 (jv 6))))))))))))))),?_⟩
 have sl:=zF
 refine⟨_,rfl,sN1,fun l0 hl0=>?_⟩
 have s0:Same H (upd H l0 (.lst [v])):=fun b u e=>by rw[zi (zk e hl0)];exact e
 have hl0':=upd_same (H:=H) (a:=l0) (o:=.lst [v])
 generalize upd H l0 (.lst [v])=H1 at *
 intro x dx hx hdx nxd
 refine⟨x,dx,l0,fo,rfl,upd_same,fun H2 ra kp hra hra2 hx2=>⟨rfl,sN1,fun wl hwl=>?_⟩⟩
 have hM:∀b,H b=none->¬ D.M b:=fun b e m=>D.okM hOk m e
 have s12:Same H1 H2:=fun b u e=>kp b u (zk e hx) (by rw[zi (zk e hx),zi (zk e hdx)];exact e)
 have s2:Same H H2:=s0.trans s12
 have s3:Same H (upd H2 wl (.lst [.ref x])):=s2.new hwl
 have nra:ra≠x:=fun z=>by
  rw[z,upd_same]at hra
  cases hra
 have nrd:ra≠dx:=fun z=>by
  rw[z,zi nxd,upd_same]at hra
  cases hra
 have hra1:H1 ra=none:=by
  rw[zi nra,zi nrd]at hra
  exact hra
 have hra0:H ra=none:=s0.free hra1
 have hx0:H x=none:=s0.free hx
 have nl0:l0≠ra:=zk hl0' hra1
 have nwr:ra≠wl:=zk hra2 hwl
 have nwx:x≠wl:=zk hx2 hwl
 have nwl:l0≠wl:=zk (s12 _ _ hl0') hwl
 have hwl0:H wl=none:=s2.free hwl
 refine⟨fun m σ H'=>∃(es:List (En D.Tk))(R:Addr->Prop)(y3 y4 y5 y6:Option V),m=mall D es/\σ=[some v,some (.ref D.fb),some (.ref wl),y3,y4,y5,y6]/\KM D.M H H'/\D.Ok H'/\H' wl=some (.lst (es.reverse.map fun e=>V.ref e.bo))/\¬ R wl/\(∀e∈es,EnOk D cB fo root H' R e)/\(∀e∈es,H e.ra=none)/\Lnk D es/\(∀b,R b->H' b≠none)/\(∀b,R b->¬ D.M b)/\(wl::es.map (·.ra)).Nodup/\mall D es<=D.wt root+1/\(∀e∈es,e.ts.length<=1000000),
  ⟨_,[⟨x,dx,l0,ra,fo,none,[root],[]⟩],(fun b=>R0 b\/b=l0),none,none,none,none,rfl,rfl,.of s3,D.okk hOk (fun b u e _=>s3 b u e),upd_same,?_,?_,?_,.bot rfl,?_,?_,?_,?_,?_⟩,?_⟩
 ·rintro(z|z)
  ·exact hR0 _ z hwl0
  ·exact nwl z.symm
 ·intro e he
  rw[uj.mp he]
  refine⟨by rw[zi nwx];exact hx2,hM _ hx0,⟨[v],by rw[zi nwl];exact s12 _ _ hl0',.cons (D.itk hIT hOk (fun b u e _ _=>s3 b u e) fun b z=>.inl z) .nil⟩,.inr rfl,by rw[zi nwr];exact hra2,?_,hM _ hra0,uW _,.nil,rfl,rfl⟩
  rintro(z|z)
  ·exact hR0 _ z hra0
  ·exact nl0 z.symm
 ·intro e he
  rw[uj.mp he]
  exact hra0
 ·rintro b (z|z)
  ·cases e:H b with
   |none=>exact absurd e (hR0 b z)
   |some u=>rw[s3 b u e];simp
  ·rw[z,zi nwl,s12 _ _ hl0'];simp
 ·rintro b (z|z)
  ·exact hRM0 b z
  ·rw[z];exact hM _ hl0
 ·show[wl,ra].Nodup
  simp[nwr.symm]
 ·unfold mall mlow
  simp
  lia
 ·intro e he
  rw[uj.mp he]
  show 1<=1000000
  decide
 rintro m σ Ha ⟨es,R,y3,y4,y5,y6,rfl,rfl,kHa,okA,hwlA,nRw,hes,hra,lk,hRd,hRM,nd,hms,hln⟩
 refine⟨_,rfl,iteT ⟨_,fun _ _ h=>h,?_⟩⟩
 refine cutR (fun D_ rt_ fin=>?_) (fun _ _ h=>h)
 have hMA:∀b,Ha b=none->¬ D.M b:=fun b e m=>D.okM okA m e
 have mwl:¬ D.M wl:=hM _ hwl0
 cases es with
 |nil=>cases lk
 |cons e es =>
 have he:=hes e (.head _)
 have eo:=he.o
 obtain⟨ws,hw,hIT'⟩:=he.w
 have wlen:=hIT'.len
 have els:((e::es).reverse.map fun e=>V.ref e.bo)=(es.reverse.map fun e=>V.ref e.bo)++[.ref e.bo]:=by simp
 rw[els]at hwlA
 have elen:=Ja D (e::es)
 rw[ul]at elen
 have dr:∀t,e.ts[e.rs.length]?=some t->e.ts.drop e.rs.length=t::e.ts.drop (e.rs.length+1):=fun t ht=>(List.drop_eq_getElem_cons (uc.mp ht).1).trans (by rw[(uc.mp ht).2])
 refine⟨_,rfl,_,rfl,wl,_,_,_,rfl,rfl,SqL.of hwlA,ZA _ _,?_⟩
 refine⟨_,rfl,e.bo,cB,e.dx,_,_,rfl,eo,N.cl,N.b3,rfl,_,_,rfl,.inl (SqL.of he.r),_,rfl,e.bo,cB,e.dx,_,_,rfl,eo,N.cl,N.b1,rfl,_,_,rfl,.inl (SqL.of hw),_,_,rfl,rfl,_,rfl,?_⟩
 refine ite2 (fun c=>?_) (fun c=>?_)
 ·rw[decide_eq_true_eq]at c
  have c:e.rs.length < ws.length:=by lia
  obtain⟨t,ht,hIt⟩:=hIT'.get (ui c)
  refine vO rfl (fun R h=>⟨_,rfl,e.bo,cB,e.dx,_,_,rfl,eo,N.cl,N.b1,rfl,_,rfl,e.bo,cB,e.dx,_,_,rfl,eo,N.cl,N.b3,rfl,_,_,rfl,.inl (SqL.of he.r),_,_,_,_,rfl,rfl,SqL.of hw,zN (ui c),h⟩) (D.beg hIt okA hRd hRM fun Hb pq l fl vs R' kB okB hq hl hlB sub sub' dom' Rl hks hfin=>?_)
  refine⟨_,rfl,.inl ⟨rfl,_,SqL.of (kB _ _ mwl hwlA)⟩,_,rfl,ixT hq aI0 ⟨_,rfl,ixT hq aI1 (fun x' dx' hx' hdx' nxd'=>?_)⟩⟩
  refine⟨x',dx',l,fl,rfl,upd_same,fun Hc rb kp' hrb hrb2 hxc=>⟨rfl,?_⟩⟩
  have sbc:Same Hb Hc:=fun b u e=>kp' b u (zk e hx') (by rw[zi (zk e hx'),zi (zk e hdx')];exact e)
  have nrx:rb≠x':=fun z=>by
   rw[z,upd_same]at hrb
   cases hrb
  have nrd':rb≠dx':=fun z=>by
   rw[z,zi nxd',upd_same]at hrb
   cases hrb
  have hrbB:Hb rb=none:=by
   rw[zi nrx,zi nrd']at hrb
   exact hrb
  have okC:D.Ok Hc:=D.okk okB fun b u e _=>sbc b u e
  have hMB:∀b,Hb b=none->¬ D.M b:=fun b e m=>D.okM okB m e
  have hwlC:Hc wl=some (.lst ((es.reverse.map fun e=>V.ref e.bo)++[.ref e.bo])):=sbc _ _ (kB _ _ mwl hwlA)
  refine⟨wl,_,_,rfl,rfl,hwlC,by rw[uf,ua,Uj];show es.length+1 < _;lia,?_⟩
  have nR'w:¬ R' wl:=fun z=>by
   rcases sub' _ z with z|z
   ·exact nRw z
   ·rw[hwlA]at z;cases z
  have kzA:Kz D.M R Ha (upd Hc wl (.lst ((es.reverse.map fun e=>V.ref e.bo)++[.ref e.bo]++[.ref x']))):=fun b u q1 q2 q3=>by
   rw[zi]
   ·exact sbc _ _ (kB _ _ q2 q1)
   ·intro z
    rw[z,hwlA]at q1
    cases q1
    rw[z]at q3
    exact nRw (q3 _ rfl)
  have kzB:Kz D.M R' Hb (upd Hc wl (.lst ((es.reverse.map fun e=>V.ref e.bo)++[.ref e.bo]++[.ref x']))):=fun b u q1 q2 q3=>by
   rw[zi]
   ·exact sbc _ _ q1
   ·intro z
    rw[z,kB _ _ mwl hwlA]at q1
    cases q1
    rw[z]at q3
    exact nR'w (q3 _ rfl)
  have nx':x'≠wl:=zk (by exact kB _ _ mwl hwlA) hx' |>.symm
  have nrb:rb≠wl:=(zk (kB _ _ mwl hwlA) hrbB).symm
  have nl:l≠wl:=fun z=>nR'w (z ▸ Rl)
  have nolds:∀e'∈e::es,Hc e'.ra=some (.lst e'.rs)/\e'.ra≠wl/\¬ R' e'.ra:=fun e' he'=>by
   have h':=hes e' he'
   refine⟨sbc _ _ (kB _ _ h'.nM h'.r),fun z=>?_,fun z=>?_⟩
   ·have:=(Ub.mp nd).1
    exact this (z ▸ uy.mpr ⟨e',he',rfl⟩)
   ·rcases sub' _ z with z|z
    ·exact h'.nr z
    ·rw[h'.r]at z;cases z
  refine fin _ _ ⟨_,?_,⟨x',dx',l,rb,fl,some t,D.kids t,[]⟩ :: e::es,R',_,_,_,_,rfl,rfl,?_,D.okk okC ?_,?_,nR'w,?_,?_,.up lk rfl ht,?_,?_,?_,?_,?_⟩
  ·show 1+(((D.kids t).drop 0).map D.wt).sum+mlow D (e::es) < 1+((e.ts.drop e.rs.length).map D.wt).sum+mlow D es
   rw[dr t ht]
   have:=D.wk t
   rw[show mlow D (e::es)=1+((e.ts.drop (e.rs.length+1)).map D.wt).sum+mlow D es from rfl]
   simp only[List.drop_zero,uH,Uu]
   lia
  ·exact((kHa.trans kB).trans (.of sbc)).put hwl0
  ·intro b u q1 q2
   rw[zi]
   ·exact q1
   ·intro z
    rw[z,hwlC]at q1
    cases q1
    rw[z]at q2
    exact mwl (q2 _ rfl)
  ·rw[upd_same]
   simp
  ·intro e' he'
   rcases um.mp he' with rfl|he'
   ·exact⟨by rw[zi nx'];exact hxc,hMB _ hx',⟨vs,by rw[zi nl];exact sbc _ _ hlB,hks.imp fun a b q=>D.itk q okB kzB fun _ z=>z⟩,Rl,by rw[zi nrb];exact hrb2,fun z=>dom' _ z hrbB,hMB _ hrbB,uW _,.nil,D.ifk hfin okB kzB fun _ z=>z,rfl⟩
   ·obtain⟨n1,n2,n3⟩:=nolds e' he'
    exact(hes e' he').keep okA kzA hRM sub (by rw[zi n2];exact n1) n3
  ·intro e' he'
   rcases um.mp he' with rfl|he'
   ·exact(kHa.trans kB).free (hMB _ hrbB) hrbB
   ·exact hra e' he'
  ·intro b z
   by_cases hb:b=wl
   ·rw[hb,upd_same];simp
   ·rw[zi hb]
    cases q:Hb b with
    |none=>exact absurd q (dom' b z)
    |some u=>rw[sbc _ _ q];simp
  ·intro b z
   rcases sub' b z with z|z
   ·exact hRM b z
   ·exact hMA b z
  ·rw[uH,Ub]at *
   refine⟨fun z=>?_,Ub.mpr ⟨fun z=>?_,nd.2⟩⟩
   ·rcases um.mp z with z|z
    ·exact nrb z.symm
    ·exact nd.1 z
   ·obtain⟨e',he',z⟩:=uy.mp z
    have:=kB _ _ (hes e' he').nM (hes e' he').r
    rw[z,hrbB]at this
    cases this
  ·refine Uc ?_ hms
   show 1+(((D.kids t).drop 0).map D.wt).sum+mlow D (e::es)<=1+((e.ts.drop e.rs.length).map D.wt).sum+mlow D es
   rw[dr t ht]
   have:=D.wk t
   rw[show mlow D (e::es)=1+((e.ts.drop (e.rs.length+1)).map D.wt).sum+mlow D es from rfl]
   simp only[List.drop_zero,uH,Uu]
   lia
  ·intro e' he'
   rcases um.mp he' with rfl|he'
   ·have h1:=D.wk t
    have h2:D.wt t<=mall D (e::es):=by
     show _<=1+((e.ts.drop e.rs.length).map D.wt).sum+mlow D es
     rw[dr t ht,uH,Uu]
     lia
    have h3:=Jb D (D.kids t)
    show(D.kids t).length<=1000000
    lia
   ·exact hln e' he'
 ·have c:¬ e.rs.length < ws.length:=fun z=>c (decide_eq_true (by lia))
  have le:=he.le
  have rr:=he.rr
  rw[uk (by lia)]at rr
  refine⟨_,rfl,e.bo,cB,e.dx,_,_,rfl,eo,N.cl,N.b2,rfl,?_⟩
  have pop:∀{Hb:Hp},Hb wl=some (.lst ((es.reverse.map fun e=>V.ref e.bo)++[.ref e.bo]))->∀{Q:VK},Q (.ref e.bo) (upd Hb wl (.lst (es.reverse.map fun e=>V.ref e.bo)))->rPop (.ref wl) [] Hb Q:=fun h Q q=>⟨wl,_,.ref e.bo,rfl,rfl,h,by simp,by rw[List.dropLast_concat];exact q⟩
  cases htk:e.tk with
  |none =>
   have fin:=he.fin
   rw[htk]at fin
   obtain⟨e1,e2⟩:=fin
   have es0:es=[]:=by
    cases lk with
    |bot _=>rfl
    |up _ q _=>rw[htk]at q;cases q
   subst es0
   rw[e2]at rr
   have hrs:=he.r
   generalize e.rs=rs at *
   cases rr with
   |cons hv hn =>
   cases hn
   rw[e1]
   refine vO rfl (fun R h=>⟨_,rfl,e.bo,cB,e.dx,_,_,rfl,eo,N.cl,N.b3,rfl,h⟩) ⟨fdo,_,_,GO.mono (by lia),bO,⟨e.ra,_,[],rfl,hrs,?_⟩,.inr kO⟩
   refine⟨_,rfl,.inl ⟨rfl,_,SqL.of hwlA⟩,pop hwlA ?_⟩
   refine⟨_,rfl,_,_,rfl,.inl (SqL.of upd_same),rfl,_,rfl,iteT ⟨_,rfl,?_⟩⟩
   rw[rt_]
   refine q _ _ R (kHa.put hwl0) (D.okk okA fun b u q1 q2=>?_) hRM (D.irk hv okA (fun b u q1 q2 q3=>?_) fun _ z=>z)
   ·rw[zi]
    ·exact q1
    ·intro z
     rw[z,hwlA]at q1
     cases q1
     rw[z]at q2
     exact mwl (q2 _ rfl)
   ·rw[zi]
    ·exact q1
    ·intro z
     rw[z,hwlA]at q1
     cases q1
     rw[z]at q3
     exact nRw (q3 _ rfl)
  |some t =>
   have fin:=he.fin
   rw[htk]at fin
   obtain⟨e1,e2⟩:=fin
   rw[e2]at rr
   cases lk with
   |bot q=>rw[htk]at q;cases q
   |@up _ e' es' t' lk' q ht' =>
   rw[htk]at q
   cases q
   have he':=hes e' (.tail _ (.head _))
   have ndA:=nd
   rw[uH,uH,Ub,Ub,Ub]at ndA
   obtain⟨nd1,nd2,nd3,nd4⟩:=ndA
   have nwe:e.ra≠wl:=fun z=>nd1 (z ▸ .head _)
   have nwe':e'.ra≠wl:=fun z=>nd1 (z ▸ .tail _ (.head _))
   have nee':e'.ra≠e.ra:=fun z=>nd2 (z ▸ .head _)
   have kzR:Kz D.M R Ha Ha:=fun b u q _ _=>q
   refine vO rfl (fun R h=>⟨_,rfl,e.bo,cB,e.dx,_,_,rfl,eo,N.cl,N.b3,rfl,h⟩) (D.fin (R:=fun b=>R b\/b=e.ra) (D.ifk e1 okA kzR fun _ z=>.inl z) okA ?_ ?_ (.inr rfl) he.r (rr.imp fun a b q=>D.irk q okA kzR fun _ z=>.inl z) fun Hb rv R' kB okB sub sub' dom' hIR=>?_)
   ·rintro b (z|z)
    ·exact hRd b z
    ·rw[z,he.r];simp
   ·rintro b (z|z)
    ·exact hRM b z
    ·rw[z];exact he.nM
   have hwlB:=kB _ _ mwl hwlA
   have heB:=kB _ _ he'.nM he'.r
   have hoB:=kB _ _ he'.nb he'.o
   have no':e'.bo≠wl:=yN hoB hwlB (by unfold BO;intro z;cases z)
   refine⟨_,rfl,.inl ⟨rfl,_,SqL.of hwlB⟩,pop hwlB ?_⟩
   have els':((e'::es').reverse.map fun e=>V.ref e.bo)=(es'.reverse.map fun e=>V.ref e.bo)++[.ref e'.bo]:=by simp
   rw[els']
   refine⟨_,rfl,_,_,rfl,.inl (SqL.of upd_same),rfl,_,rfl,iteN ?_ ?_⟩
   ·rw[uf]
    exact decide_eq_false (by intro z;have:=V.int.inj z;simp at this;lia)
   refine⟨_,rfl,_,rfl,wl,_,_,_,rfl,rfl,SqL.of upd_same,ZA _ _,e'.bo,cB,e'.dx,_,.ref e'.ra,rfl,by rw[zi no'];exact hoB,N.cl,N.b3,rfl,.inl ⟨rfl,_,SqL.of (by rw[zi nwe'];exact heB)⟩,_,rfl,e'.ra,_,_,rfl,rfl,by rw[zi nwe'];exact heB,?_,?_⟩
   ·have:=(uc.mp ht').1
    have:=hln e' (.tail _ (.head _))
    lia
   have nR'w:¬ R' wl:=fun z=>by
    rcases sub' _ z with(z|z)|z
    ·exact nRw z
    ·exact nwe z.symm
    ·rw[hwlA]at z;cases z
   have nR':∀e1∈e'::es',¬ R' e1.ra:=fun e1 h1 z=>by
    rcases sub' _ z with(z|z)|z
    ·exact(hes e1 (.tail _ h1)).nr z
    ·exact nd2 (z ▸ uy.mpr ⟨e1,h1,rfl⟩)
    ·rw[(hes e1 (.tail _ h1)).r]at z;cases z
   have kzB:Kz D.M R' Hb (upd (upd Hb wl (.lst ((es'.reverse.map fun e=>V.ref e.bo)++[.ref e'.bo]))) e'.ra (.lst (e'.rs++[rv]))):=fun b u q1 q2 q3=>by
    have n1:b≠e'.ra:=fun z=>by
     rw[z,heB]at q1
     cases q1
     rw[z]at q3
     exact nR' e' (.head _) (q3 _ rfl)
    have n2:b≠wl:=fun z=>by
     rw[z,hwlB]at q1
     cases q1
     rw[z]at q3
     exact nR'w (q3 _ rfl)
    rw[zi n1,zi n2]
    exact q1
   have kzA:Kz D.M R Ha (upd (upd Hb wl (.lst ((es'.reverse.map fun e=>V.ref e.bo)++[.ref e'.bo]))) e'.ra (.lst (e'.rs++[rv]))):=fun b u q1 q2 q3=>kzB b u (kB _ _ q2 q1) q2 fun xs z=>sub _ (.inl (q3 xs z))
   have subR:∀b,R b->R' b:=fun b z=>sub _ (.inl z)
   refine fin _ _ ⟨_,?_,{ e' with rs:=e'.rs++[rv] } :: es',R',_,_,_,_,rfl,rfl,((kHa.trans kB).put hwl0).put (hra e' (.tail _ (.head _))),D.okk okB ?_,?_,nR'w,?_,?_,?_,?_,?_,?_,?_,?_⟩
   ·show 1+((e'.ts.drop (e'.rs++[rv]).length).map D.wt).sum+mlow D es' < 1+((e.ts.drop e.rs.length).map D.wt).sum+(1+((e'.ts.drop (e'.rs.length+1)).map D.wt).sum+mlow D es')
    rw[uf,uZ]
    lia
   ·intro b u q1 q2
    have n1:b≠e'.ra:=fun z=>by
     rw[z,heB]at q1
     cases q1
     rw[z]at q2
     exact he'.nM (q2 _ rfl)
    have n2:b≠wl:=fun z=>by
     rw[z,hwlB]at q1
     cases q1
     rw[z]at q2
     exact mwl (q2 _ rfl)
    rw[zi n1,zi n2]
    exact q1
   ·rw[zi nwe'.symm,upd_same]
    simp
   ·intro e1 h1
    rcases um.mp h1 with rfl|h1
    ·obtain⟨o,nb,⟨ws',w1,w2⟩,Rw,r,nr',nM,le',rr',fin⟩:=he'
     refine⟨kzA _ _ o nb (by intro xs q;unfold BO at q;cases q),nb,⟨ws',kzA _ _ w1 (hRM _ Rw) (fun _ _=>Rw),w2.imp fun a b q=>D.itk q okA kzA subR⟩,subR _ Rw,upd_same,nR' e' (.head _),nM,?_,?_,?_⟩
     ·show(e'.rs++[rv]).length<=_
      rw[uf,uZ]
      exact(uc.mp ht').1
     ·show All2 _ (e'.ts.take (e'.rs++[rv]).length) (e'.rs++[rv])
      rw[uf,uZ,uw,ht']
      exact(rr'.imp fun a b q=>D.irk q okA kzA subR).app (.cons (D.irk hIR okB kzB fun _ z=>z) .nil)
     ·show(match e'.tk with|none=>_|some t=>_)
      cases q:e'.tk with
      |none=>rw[q]at fin;exact fin
      |some t=>rw[q]at fin;exact⟨D.ifk fin.1 okA kzA subR,fin.2⟩
    ·have h1':=hes e1 (.tail _ (.tail _ h1))
     have m1:e1.ra≠e'.ra:=fun z=>nd3 (z ▸ uy.mpr ⟨e1,h1,rfl⟩)
     have m2:e1.ra≠wl:=fun z=>nd1 (z ▸ .tail _ (.tail _ (uy.mpr ⟨e1,h1,rfl⟩)))
     exact h1'.keep okA kzA hRM subR (by rw[zi m1,zi m2];exact kB _ _ h1'.nM h1'.r) (nR' e1 (.tail _ h1))
   ·intro e1 h1
    rcases um.mp h1 with rfl|h1
    ·exact hra e' (.tail _ (.head _))
    ·exact hra e1 (.tail _ (.tail _ h1))
   ·cases lk' with
    |bot q=>exact .bot q
    |up a b c=>exact .up a b c
   ·intro b z
    have:=dom' b z
    unfold upd
    split
    ·simp
    ·split
     ·simp
     ·exact this
   ·intro b z
    rcases sub' b z with(z|z)|z
    ·exact hRM b z
    ·rw[z];exact he.nM
    ·exact hMA b z
   ·exact Ub.mpr ⟨fun z=>nd1 (.tail _ z),Ub.mpr ⟨nd3,nd4⟩⟩
   ·refine Uc ?_ hms
    show 1+((e'.ts.drop (e'.rs++[rv]).length).map D.wt).sum+mlow D es'<=1+((e.ts.drop e.rs.length).map D.wt).sum+(1+((e'.ts.drop (e'.rs.length+1)).map D.wt).sum+mlow D es')
    rw[uf,uZ]
    lia
   ·intro e1 h1
    rcases um.mp h1 with rfl|h1
    ·exact hln e' (.tail _ (.head _))
    ·exact hln e1 (.tail _ (.tail _ h1))
end
end GN
namespace HT
open PySem PySem.Spec PyProof.Rows
section
variable{prog:Program}{w:World}{A:Around}{s:Shared}{E:Value->Shared->Prop}
theorem getItem_tuple_whole{t sl:Addr}{items:Array Value}{vl vu:Value}{lo hi:Option Int}{Q:Value->Shared->Prop}(ht:IsTup s.heap t items)(hs:s.heap.IsSliceOf sl vl vu .none)(pl:IsPart vl lo)(pu:IsPart vu hi)
  (hw:sIx items.size 0 lo=0/\sIx items.size items.size hi=items.size) (h:Q (.ref t) s):wpAny (model prog w) A (getItem (.ref t) (.ref sl)) Q E s:=by
 obtain⟨os,hos,hcs,hds⟩:=id hs
 have hTs:s.TypeIs (.ref sl) "slice":=⟨os,hos,hcs⟩
 unfold getItem
 try with_reducible refine wpAny_holding ?_
 first|refine wpAny_bind (wpAny_pure ?_)|skip
 refine wpAny_bind (wpAny_sequenceKey ht.typeIs (by decide) ?_)
 refine wpAny_bind (wpAny_callSpecial?_slot (name:=Str.ofString "__getitem__") ht.typeIs Uo
  (wpAny_call_entry Uo ht.typeIs entry_tuple_getitem ?_ (args_tuple_getitem _ _)))
 show wpAny _ _ (Builtin.Tuple.tupleItemsOf (.ref t) >>= _) _ _ s
 refine wpAny_bind (tupleItemsOf_ ht ?_)
 refine wpAny_bind (wpAny_typeOf hTs ?_)
 rw[if_pos (by decide)]
 refine wpAny_bind (yY hs pl pu ?_)
 have hyes:(((sIx items.size 0 lo:Nat):Int) == 0 && (1:Int) == 1 && (sIx items.size items.size hi-sIx items.size 0 lo) == items.size)=true:=by
  rw[hw.1,hw.2]
  simp
 show wpAny _ _ (if(((sIx items.size 0 lo:Nat):Int) == 0 && (1:Int) == 1 && (sIx items.size items.size hi-sIx items.size 0 lo) == items.size)=true then _ else _) _ _ s
 rw[if_pos hyes]
 have hx:wpAny (model prog w) A.in1 (Builtin.Tuple.tupleIsExact (.ref t)) (fun b s'=>b=true/\s'=s) (fun _ _=>False) s:=by
  unfold Builtin.Tuple.tupleIsExact
  exact wpAny_bind (wpAny_typeOf ht.typeIs (wpAny_pure ⟨by decide,rfl⟩))
 refine wpAny_bind (wpAny_mono hx (fun b s' q=>?_) fun _ _ z=>z.elim)
 obtain⟨rfl,rfl⟩:=q
 rw[if_pos rfl]
 exact wpAny_bind (wpAny_rule (wpAny_pure ⟨_,rfl,wpAny_pure h⟩))
end
end HT
namespace L2
open PySem PySem.Spec PyProof.Rows
def rSlW(K:ub):V->Option Int->Option Int->Hp->VK->Prop:=fun x lo hi H Q=>∃a xs,x=.ref a/\SqT K H a xs /\
 (cutV xs lo hi=xs->Q (.ref a) H)/\∀p,H p=none->Q (.ref p) (upd H p (.tup (cutV xs lo hi)))
section
variable{X:Cx}
theorem zaa:SlR X (rSlW X.K):=by
 intro pins s σ H x v vl vu lo hi sl Q I rx hs pl pu h
 obtain⟨a,xs,rfl,hx,q1,q⟩:=h
 by_cases hw:HT.sIx xs.length 0 lo=0/\HT.sIx xs.length xs.length hi=xs.length
 ·cases rx
  obtain⟨its,r,ht,hz⟩:=I.tuple hx
  have hlen:its.toArray.size=xs.length:=by rw[ur];exact r.length.symm
  refine⟨"tuple",_,Uo.lookup,ht.typeIs,?_⟩
  refine HT.getItem_tuple_whole ht hs pl pu (by rw[hlen];exact hw) ⟨.ref a,H,I,rfl,q1 ?_⟩
  unfold cutV
  rw[hw.1,hw.2]
  simp
 ·exact zbR pins s σ H (.ref a) v vl vu lo hi sl Q I rx hs pl pu ⟨a,xs,rfl,hx,hw,q⟩
def rSlO:V->Option Int->Option Int->Hp->VK->Prop:=fun x lo hi H Q=>∃a xs,x=.ref a/\H a=some (.tup xs)/\∀p H',(∀b o,H b=some o->H' b=some o)->H' p=some (.tup (cutV xs lo hi))->Q (.ref p) H'
theorem zab:SlR X rSlO:=by
 intro pins s σ H x v vl vu lo hi sl Q I rx hs pl pu h
 obtain⟨a,xs,rfl,hx,q⟩:=h
 refine zaa pins s σ H (.ref a) v vl vu lo hi sl Q I rx hs pl pu ⟨a,xs,rfl,SqT.of hx,fun e=>q a H (fun _ _ z=>z) (by rw[e];exact hx),fun p hp=>q p _ (fun b o z=>?_) upd_same⟩
 rw[zi (zk z hp)]
 exact z
theorem xC:jSl X rSlO:=⟨zab⟩
end
section
variable{prog:Program}{w:World}{A:Around}{E:Value->Shared->Prop}
end
inductive TyN(H:Hp):V->Bool->Prop where
 |int (i:Int):TyN H (.int i) false
 |str (z:Str):TyN H (.str z) false
 |bl (b:Bool):TyN H (.bl b) false
 |non:TyN H .non false
 |lst {a:Addr} {xs:List V} (e:H a=some (.lst xs)):TyN H (.ref a) true
 |tup {a:Addr} {xs:List V} (e:H a=some (.tup xs)):TyN H (.ref a) true
section
variable{X:Cx}
variable{CX:CXT}{k:Nat}{C:Addr}{ps:List Str}{sp:Sp}{E:XK}{x m:Str}{p pos apos:Pos}{e o:Expr}{es:List Expr}{ta:TE}{t:TA}
theorem zco(F:Ma X.prog X.w X.K X.mg X.base CX k x C ps sp)(hr:Room (k+1) X.A)(hg:Gl X x)(hx:yw CX X E)(hdb:(x == ("__debug__":Str))=false:=by decide):
  jE X (.Call (.Name x p) [] [] pos) (Xi C sp [] E tNil):=let ⟨_,_,M,G,b,mg⟩:=F.ex;⟨W1 M G hr hg mg b .nil hx hdb⟩
theorem XJ{o i:Expr}{td ty:TE}{pos:Pos}(hr:Room k X.A)(ho:jE X o td)(hi:jE X i ty)(hs:NoSl i:=by intro _ _;rfl):jE X (.Subscript o i pos) (zbc td ty):=⟨QL (ZD hr) ho.out hi.out hs⟩
theorem vP{o e f:Expr}{td ty tx:TE}{apos cpos:Pos}(hr:Room k X.A)(ho:jE X o td)(he:jE X e ty)(hf:jE X f tx)(m:M2 X o "get" apos e f cpos:=by exact⟨rfl,rfl,rfl,rfl⟩):jE X (.Call (.Attribute o "get" apos) [e,f] [] cpos) (VC td ty tx):=⟨VD (ZD hr) ho.out he.out hf.out m⟩
end
section
variable{g:TG}{tt:TT}{te:TE}{Q:VK}{σ:St}{H:Hp}
end
end L2
namespace L2
open PySem
section
variable{X:Cx}{a:Expr}{ta:TE}{pos:Pos}
theorem YW:jOp X (binaryOp .BitOr) (rI0 fun i j=>.int (Builtin.bitOr i j)):=⟨zcU⟩
theorem zac:jOp X (binaryOp .BitAnd) (rI0 fun i j=>.int (Builtin.bitAnd i j)):=⟨zbI⟩
theorem zcp(ha:jE X a ta):jE X (.UnaryOp .Invert a pos) (tUn (rU fun i=>.int (Builtin.bitNot i)) ta):=⟨zaY zbK ha.out⟩
end
end L2
namespace GN
open PySem L2 K11
def Jc:Sp:=fun vs H Q _=>∃(p:Addr)(ns:List Str),vs=[.ref p]/\H p=some (.lst (ns.map V.str))/\ns.Nodup/\ns.length<=1000/\∀(H':Hp)(d:Addr),Same H H'->H d=none->H' d=some (.dK (yA ns 1))->Q (.ref d) H'
def zbf:Sp:=fun vs H Q _=>∃(p d:Addr)(xs ns:List Str),vs=[.ref p,.ref d]/\H p=some (.tup (xs.map V.str))/\H d=some (.dK (yA ns 1))/\Q (.int ((tog ns xs:Nat):Int)) H
def jy:Sp:=fun vs H Q _=>∃(p:Addr)(d:De),vs=[.ref p]/\IsDe H d p/\∀(H':Hp)(q:Addr),Same H H'->H' q=some (.tup (d.uses.map V.str))->Q (.ref q) H'
def Jd:Sp:=fun vs H Q _=>∃(p:Addr)(b:Bd),vs=[.ref p]/\IsB H b p/\∀(H':Hp)(q:Addr),Same H H'->H' q=some (.tup (b.used.map V.str))->Q (.ref q) H'
theorem Wv{ns:List Str}{x:Str}{b:Nat}(h:x∉ns):putK (yA ns b) (.inr x) (.int ((b*2 ^ ns.length:Nat):Int))=yA (ns++[x]) b:=by
 unfold putK
 rw[xq,wK,if_neg h,if_neg (by simp),jw]
theorem Je{ns xs:List Str}{i:Nat}{x:Str}(h:xs[i]?=some x):tog ns (xs.take (i+1))=tog ns (xs.take i) ||| bitN ns x:=by
 unfold tog
 rw[uw,h,UU]
 rfl
section
variable{P:Program}{w:World}{K:ub}{mg:Str->Option Value}{base:Heap}{f:Addr}{fd:FuncData}
theorem scBits:FnScope ["names","bits","bit","name"] ["names"] (zo VG):=.ok
theorem zad(F:Fun K "bits_of" "bits_of" VG f fd):FnOk P w K mg base CX0 1 f fd ["names"] Jc:=by
 refine F.by scBits (fun vs H Q E h=>?_) (fun cdv A outer s H vs Q E hr h=>?_)
 ·obtain⟨p,ns,rfl,_⟩:=h
  rfl
 obtain⟨p,ns,rfl,hp,nd,hl,q⟩:=h
 refine⟨_,
  (zg (sE 1 scBits.nd vA)
  (zg (sE 2 scBits.nd zj)
  (zg (zK PassesOwn.never rfl (zG (jv 0)) (gN 3 scBits.nd)
   (zg (xB hr (jv 1) (jv 3) (jv 2)) (zh (sE 2 scBits.nd (zx zU (jv 2) (jv 2))))))
  (zh (zq (jv 1)))))),?_⟩
 have sl:=zF
 intro d hd
 have s1:=zn (o:=.dK []) hd
 have npd:p≠d:=zk hp hd
 refine⟨_,rfl,p,rfl,⟨_,SqL.of (s1 _ _ hp)⟩,ym (xs:=ns.map V.str) (fun i σ H'=>Same H H'/\H' d=some (.dK (yA (ns.take i) 1))/\∃z,σ=[some (.ref p),some (.ref d),some (.int ((2 ^ i:Nat):Int)),z]) ⟨s1,upd_same,none,rfl⟩ (fun i σ H' _ h=>SqL.of (h.1 _ _ hp)) ?_ ?_⟩
 ·rintro i v σ H1 hv ⟨s2,hd2,z,rfl⟩
  rw[ue]at hv
  obtain⟨x,hx,rfl⟩:=uh.mp hv
  have hi:=(uc.mp hx).1
  have hnx:x∉ns.take i:=fun hm=>by
   obtain⟨j,hj⟩:=Uv.mp hm
   have hj':j < i:=by
    have:=(uc.mp hj).1
    rw[uN]at this
    lia
   rw[List.getElem?_take_of_lt hj']at hj
   have:=(List.getElem?_inj (uc.mp hj).1 nd).mp (hj.trans hx.symm)
   lia
  have tl:(ns.take i).length=i:=by rw[uN];lia
  have e:=Wv (b:=1) hnx
  rw[tl,Nat.one_mul]at e
  refine⟨_,rfl,_,rfl,_,rfl,d,_,rfl,DPut.k (k:=.inr x) hd2 (by rw[jx,tl];lia),?_⟩
  refine⟨_,rfl,_,rfl,_,_,rfl,rfl,s2.put hd,?_,some (.str x),?_⟩
  ·rw[upd_same,e,uw,hx]
   rfl
  ·show[_,_,some (V.int (_+_)),_]=_
   rw[<- Int.natCast_add,<- Nat.two_mul,Nat.mul_comm,<- Nat.pow_succ]
 ·rintro σ H1 ⟨s2,hd2,z,rfl⟩
  rw[ua,uk (ud _)]at hd2
  exact⟨_,rfl,q _ d s2 hd hd2⟩
theorem scTog:FnScope ["names","bits","found","name"] ["names","bits"] (zo sTog):=.ok
theorem zcq(F:Fun K "together" "together" sTog f fd):FnOk P w K mg base CX0 1 f fd ["names","bits"] zbf:=by
 refine F.by scTog (fun vs H Q E h=>?_) (fun cdv A outer s H vs Q E hr h=>?_)
 ·obtain⟨p,d,xs,ns,rfl,_⟩:=h
  rfl
 obtain⟨p,d,xs,ns,rfl,hp,hd,q⟩:=h
 refine⟨_,
  (zg (sE 2 scTog.nd zj)
  (zg (zK PassesOwn.never rfl (yW (jv 0)) (gN 3 scTog.nd)
   (zh (sE 2 scTog.nd (zx YW (jv 2) (vP hr (jv 1) (jv 3) zj)))))
  (zh (zq (jv 2))))),?_⟩
 refine⟨_,rfl,p,rfl,⟨_,SqT.of hp⟩,yS (xs:=xs.map V.str) (fun i σ H'=>H=H'/\∃z,σ=[some (.ref p),some (.ref d),some (.int ((tog ns (xs.take i):Nat):Int)),z]) ⟨rfl,none,rfl⟩ (fun i σ H' _ h=>SqT.of (h.1 ▸ hp)) ?_ ?_⟩
 ·rintro i v σ H1 hv ⟨rfl,z,rfl⟩
  rw[ue]at hv
  obtain⟨x,hx,rfl⟩:=uh.mp hv
  have e:((valV (yA ns 1) (.inr x)).getD (.int 0))=.int ((bitN ns x:Nat):Int):=by
   rw[wK]
   by_cases c:x∈ns
   ·rw[if_pos c,Nat.one_mul];rfl
   ·rw[if_neg c,ZZ c];rfl
  refine⟨_,rfl,_,rfl,d,rfl,.inl ⟨_,.inl hd⟩,_,rfl,_,DGet.k (k:=.inr x) hd,?_⟩
  rw[e]
  refine⟨_,_,rfl,rfl,rfl,some (.str x),?_⟩
  show[_,_,some (V.int (Builtin.bitOr _ _)),_]=_
  rw[Zl,<- Je hx]
 ·rintro σ H1 ⟨rfl,z,rfl⟩
  rw[ua,uk (ud _)]
  exact⟨_,rfl,q⟩
theorem Ww:FnScope ["deed"] ["deed"] (zo vC):=.ok
theorem YX(F:Fun K "names_of" "names_of" vC f fd):FnOk P w K mg base CX0 1 f fd ["deed"] jy:=by
 refine F.by Ww (fun vs H Q E h=>?_) (fun cdv A outer s H vs Q E hr h=>?_)
 ·obtain⟨p,d,rfl,_⟩:=h
  rfl
 obtain⟨p,d,rfl,hd,q⟩:=h
 refine⟨_,
  (zg (zy (tN zA (xT 0) zp) (zh (zq (zu zE))) zt)
  (zg (zy (tN zA (xT 0) zp) (zh (zq (yo xC (jv 0) (yF zj) yE))) zt)
  (zg (zy (tN zA (xT 0) zp) (zh (zq (zx Xq (zu (jA1 (xT 0))) (xT 0)))) zt)
  (zh (zq (xT 0)))))),?_⟩
 have sl:=zF
 cases hd with
 |num hp =>
  refine⟨_,rfl,ixT hp aI0 ⟨rfl,_,rfl,ite2 (fun _=>?_) aB⟩⟩
  exact⟨sN0,fun r hr=>q _ r (zn hr _) upd_same⟩
 |@op w0 a b _ hp =>
  refine⟨_,rfl,ixT hp aI0 ⟨rfl,_,rfl,ite2 aB (fun _=>?_)⟩⟩
  refine⟨_,rfl,ixT hp aI0 ⟨rfl,_,rfl,ite2 (fun _=>?_) aB⟩⟩
  exact⟨_,rfl,_,rfl,p,_,rfl,hp,fun r H' s1 h1=>q H' r s1 h1⟩
 |@app w0 g xs _ pq hw hp hq =>
  obtain⟨w1,w2,w3⟩:=hw
  have n1:¬ (decide (V.str w0=V.str "num")=true):=fun c=>w1 (V.str.inj (of_decide_eq_true c))
  have n2:¬ (decide (V.str w0=V.str "op")=true):=fun c=>w2 (V.str.inj (of_decide_eq_true c))
  refine⟨_,rfl,ixT hp aI0 ⟨rfl,_,rfl,ite2 (fun c=>absurd c n1) (fun _=>?_)⟩⟩
  refine⟨_,rfl,ixT hp aI0 ⟨rfl,_,rfl,ite2 (fun c=>absurd c n2) (fun _=>?_)⟩⟩
  refine⟨_,rfl,ixT hp aI0 ⟨rfl,_,rfl,ite2 (fun c=>?_) (fun c=>?_)⟩⟩
  ·have e:w0="ask":=V.str.inj (of_decide_eq_true c)
   subst e
   rw[x5]at q
   refine⟨_,rfl,ixT hp aI1 ⟨sN1,fun t1 h1=>?_⟩⟩
   have s1:=zn (o:=.tup [.str g]) h1
   refine⟨_,rfl,ixT (s1 _ _ hp) aI2 ⟨t1,pq,_,_,rfl,rfl,SqT.of upd_same,SqT.of (s1 _ _ hq),by simp,by rw[ua];show 1+xs.length<=_;lia,fun e=>?_,fun _ r hr=>?_⟩⟩
   ·have e:xs=[]:=List.map_eq_nil_iff.mp e
    subst e
    exact q _ t1 s1 upd_same
   ·exact q _ r (s1.new hr) upd_same
  ·have e:w0≠"ask":=fun e=>c (decide_eq_true (by rw[e]))
   rw[xv e]at q
   exact⟨_,rfl,ixT hp aI2 (q _ pq (Same.refl _) hq)⟩
theorem zcr:FnScope ["body"] ["body"] (zo xN):=.ok
theorem zae(F:Fun K "names_used" "names_used" xN f fd)(GN':Ca P w K mg base CX0 1 "names_of" ["deed"] jy):FnOk P w K mg base CX0 2 f fd ["body"] Jd:=by
 refine F.by zcr (fun vs H Q E h=>?_) (fun cdv A outer s H vs Q E hr h=>?_)
 ·obtain⟨p,b,rfl,_⟩:=h
  rfl
 obtain⟨p,b,rfl,hb,q⟩:=h
 refine⟨_,
  (zg (zy (tN zA (xT 0) zp) (zh (zq (cA GN' hr (jA1 (xT 0))))) zt)
  (zg (zy (tN zA (xT 0) zp) (zh (zq (zu (jA1 (xT 0))))) zt)
  (zg (zy (yk yv (xT 0) (zu (jA2 zp zp)) (by with_unfolding_all rfl)) (zh (zq (zu zE))) zt)
  (zh (zq (zu (jA1 (xT 0)))))))),?_⟩
 have sl:=zF
 suffices tail:∀{t x:Str}{xs:List V},H p=some (.tup (.str t::.str x::xs))->t≠"let"->t≠"hold"->inV (.str t) [V.str "drop",V.str "loose"]=false->(∀(H':Hp)(q:Addr),Same H H'->H' q=some (.tup [.str x])->Q (.ref q) H') ->
   (tSeq _ (tSeq _ (tSeq _ _)):TS) { nx:=fun _ H'=>Q .non H',rt:=Q } [some (.ref p)] H by
  cases hb with
  |give hp=>exact tail hp (by decide) (by decide) (by decide) q
  |iff hp _ _=>exact tail hp (by decide) (by decide) (by decide) q
  |case hp _ _ _=>exact tail hp (by decide) (by decide) (by decide) q
  |@lt x d b _ p1 p2 hp hd hb =>
   refine⟨_,rfl,ixT hp aI0 ⟨rfl,_,rfl,ite2 (fun _=>?_) aB⟩⟩
   exact⟨_,rfl,ixT hp aI2 ⟨p1,d,rfl,hd,fun H' r s1 h1=>q H' r s1 h1⟩⟩
 intro t x xs hp h1 h2 h3 q
 have n1:¬ (decide (V.str t=V.str "let")=true):=fun c=>h1 (V.str.inj (of_decide_eq_true c))
 have n2:¬ (decide (V.str t=V.str "hold")=true):=fun c=>h2 (V.str.inj (of_decide_eq_true c))
 refine⟨_,rfl,ixT hp aI0 ⟨rfl,_,rfl,ite2 (fun c=>absurd c n1) (fun _=>?_)⟩⟩
 refine⟨_,rfl,ixT hp aI0 ⟨rfl,_,rfl,ite2 (fun c=>absurd c n2) (fun _=>?_)⟩⟩
 refine⟨_,rfl,ixT hp aI0 ⟨sN2,fun t0 h0=>?_⟩⟩
 have s0:=zn (o:=.tup [.str "drop",.str "loose"]) h0
 refine⟨t0,_,rfl,.inr (SqT.of upd_same),rfl,rfl,_,rfl,?_⟩
 refine ite2 (fun c=>absurd (show inV (.str t) [V.str "drop",V.str "loose"]=true from c) (by rw[h3];decide)) (fun _=>?_)
 exact⟨_,rfl,ixT (s0 _ _ hp) aI1 ⟨sN1,fun r hr=>q _ r (s0.new hr) upd_same⟩⟩
theorem IsY.get{H:Hp}:∀{l:Wy}{ps:List Addr}{i:Nat}{p:Addr},IsY H l ps->ps[i]?=some p->∃ns b q r,l[i]?=some (ns,b)/\H p=some (.tup [.ref q,.ref r])/\H q=some (.tup (ns.map V.str))/\IsB H b r
 |_,_,_,_,.nil,e=>by simp at e
 |_,_,0,_,.cons a b c _,e=>by
  simp at e
  subst e
  exact⟨_,_,_,_,rfl,a,b,c⟩
 |_,_,i+1,_,.cons _ _ _ d,e=>by
  obtain⟨ns,b,q,r,h1,h2⟩:=IsY.get (i:=i) d (by simpa using e)
  exact⟨ns,b,q,r,by simpa using h1,h2⟩
def IsN(ns:List Str)(H:Hp)(b:Bd)(v:V):Prop:=∃q l,v=.ref q/\H q=some (.tup [.int ((b.mk ns:Nat):Int),.ref l])
theorem IsN.keep{ns:List Str}{H H':Hp}{b:Bd}{v:V}(h:IsN ns H b v)(t:Tups H H'):IsN ns H' b v:=let ⟨q,l,e,h⟩:=h;⟨q,l,e,t _ _ h⟩
def IsNs(ns:List Str)(H:Hp)(l:Wy)(nv:List V):Prop:=All2 (fun(w:List Str×Bd) v=>IsN ns H w.2 v) l nv
def wg:Sp:=fun vs H Q _=>∃(p wl nl d:Addr)(b:Bd)(ps:List Addr)(nv:List V)(ns:List Str),vs=[.ref p,.ref wl,.ref nl,.ref d]/\IsB H b p/\H wl=some (.lst (ps.map V.ref))/\IsY H b.ways ps/\H nl=some (.lst nv)/\IsNs ns H b.ways nv/\H d=some (.dK (yA ns 1)) /\
 ∀H' r,Same H H'->H' r=some (.tup [.int ((b.mk ns:Nat):Int),.ref nl])->Q (.ref r) H'
theorem Wx{ns:List Str}{l:Wy}{i:Nat}{xs:List Str}{b:Bd}(h:l[i]?=some (xs,b)):accW ns (l.take (i+1)) 0=accW ns (l.take i) 0 ||| dif (b.mk ns) (tog ns xs):=by
 unfold accW
 rw[uw,h,UU]
 rfl
theorem scNoteOf:FnScope ["body","ways","notes","bits","found","way","note"] lS17 (zo j9):=.ok
theorem Wz(F:Fun K "note_of" "note_of" j9 f fd)(GT:Ca P w K mg base CX0 1 "together" ["names","bits"] zbf)(GU:Ca P w K mg base CX0 2 "names_used" ["body"] Jd)(m_zip:mg "zip"=none):FnOk P w K mg base CX0 3 f fd lS17 wg:=by
 refine F.by scNoteOf (fun vs H Q E h=>?_) (fun cdv A outer s H vs Q E hr h=>?_)
 ·obtain⟨p,wl,nl,d,b,ps,nv,ns,rfl,_⟩:=h
  rfl
 obtain⟨p,wl,nl,d,b,ps,nv,ns,rfl,hb,hw,hy,hn,hnv,hd,q⟩:=h
 have hr1:Room 1 _:=hr.mono (by decide)
 refine⟨_,
  (zg (sE 4 scNoteOf.nd zj)
  (zg (zK PassesOwn.never rfl (Vs rfl m_zip (jA2 (jv 1) (jv 2))) (yi rfl (zv (gN 5 scNoteOf.nd) (zv (gN 6 scNoteOf.nd) zM)))
   (zh (sE 4 scNoteOf.nd (zx YW (jv 4) (zx zac (xT 6) (zcp (cA GT hr1 (jA2 (xT 5) (jv 3)))))))))
  (zh (zq (zu (jA2 (zx YW (jv 4) (cA GT hr1 (jA2 (cA GU hr (jA1 (jv 0))) (jv 3)))) (jv 2))))))),?_⟩
 have sl:=zF
 have yl:=hy.len
 have nl':b.ways.length=nv.length:=All2.len hnv
 refine⟨_,rfl,_,rfl,wl,nl,true,true,_,_,rfl,SqK.l hw,SqK.l hn,Xx (xs:=ps.map V.ref) (ys:=nv) (by rw[ua];lia) (fun i σ H'=>Same H H'/\∃y z,σ=[some (.ref p),some (.ref wl),some (.ref nl),some (.ref d),some (.int ((accW ns (b.ways.take i) 0:Nat):Int)),y,z]) ⟨Same.refl _,none,none,rfl⟩ (fun i σ H' _ h=>⟨SqK.l (h.1 _ _ hw),SqK.l (h.1 _ _ hn)⟩) ?_ ?_⟩
 ·rintro i v1 v2 T σ H1 hv1 hv2 hT ⟨s1,y,z,rfl⟩
  rw[ue]at hv1
  obtain⟨pw,hpw,rfl⟩:=uh.mp hv1
  obtain⟨xs,b',q1,r1,e1,e2,e3,e4⟩:=hy.get hpw
  obtain⟨w',e1',qn,ln,rfl,en⟩:=All2.get hnv hv2
  rw[e1]at e1'
  cases e1'
  have s2:=s1.new (o:=.tup [.ref pw,.ref qn]) hT
  refine⟨T,_,rfl,SqT.of upd_same,rfl,_,_,rfl,_,_,rfl,rfl,?_⟩
  refine⟨_,rfl,_,rfl,ixT (s2 _ _ en) aI0 ⟨_,rfl,ixT (s2 _ _ e2) aI0 ⟨_,rfl,q1,d,xs,ns,rfl,s2 _ _ e3,s2 _ _ hd,_,rfl,_,_,rfl,rfl,_,_,rfl,rfl,s2,some (.ref pw),some (.ref qn),?_⟩⟩⟩
  show[_,_,_,_,some (V.int (Builtin.bitOr _ (Builtin.bitAnd _ _))),_,_]=_
  rw[VZ,Zl,<- Wx e1]
 ·rintro σ H1 ⟨s1,y,z,rfl⟩
  rw[ua,<- yl,uk (ud _)]
  refine⟨_,rfl,_,rfl,p,b,rfl,hb.keep (.of s1),fun H2 qu s2 hqu=>?_⟩
  refine⟨_,rfl,qu,d,_,ns,rfl,hqu,s2 _ _ (s1 _ _ hd),_,_,rfl,rfl,_,rfl,sN2,fun r hr=>?_⟩
  refine q _ r ((s1.trans s2).new hr) ?_
  rw[upd_same]
  show some (HO.tup [V.int (Builtin.bitOr _ _),_])=_
  rw[Zl,<- Bd.mk_ways]
end
def XL:Expr:=match zL y8 with
 |[_,.Return (some (.Tuple [_,l] _ _)) _]=>l
 |_=>.Constant .none 0 ⟨0,0,0,0⟩
def zbg:Arguments:=match XL with
 |.Lambda a _ _ _=>a
 |_=>zX y8
def Jf:Expr:=match XL with
 |.Lambda _ b _ _=>b
 |e=>e
def Jg:Scope:=match XL with
 |.Lambda _ _ s _=>s
 |_=>zo y8
def XM:Pos:=match XL with
 |.Lambda _ _ _ p=>p
 |_=>⟨0,0,0,0⟩
def Z8:Str:=("begun_note":Str)++(".<locals>.":Str)++("<lambda>":Str)
def cl2(c1 c2 c3:Addr):List (Str×Addr):=[("ways",c3),("body",c1),("bits",c2)]
abbrev vQ(mg:Str->Option Value)(c1 c2 c3 c:Addr)(ct:Value):FuncData:=lamC mg Z8 zbg Jf Jg (cl2 c1 c2 c3) c ct
theorem zcs:LamScope ["notes","bits","body","ways"] ["notes"] ["bits","body","ways"] Jg:=⟨rfl,rfl,rfl,by decide +kernel,rfl,by decide +kernel,by decide +kernel,by decide +kernel,by decide +kernel⟩
theorem Jh:∃p0 p1 p2 p3 p4 p5,Jf=.Call (.Name "note_of" p0) [.Name "body" p1,.Name "ways" p2,.Name "notes" p3,.Name "bits" p4] [] p5:=⟨_,_,_,_,_,_,rfl⟩
def Clo2(mg:Str->Option Value)(ns:List Str)(H:Hp)(R:Addr->Prop)(d:Addr)(b:Bd)(f:Addr):Prop:=∃c1 c2 c3 c ct p wl ps,H f=some (FunO f (vQ mg c1 c2 c3 c ct))/\H c=some (CodO c Z8)/\Cel H c1 (.ref p)/\Cel H c2 (.ref d)/\Cel H c3 (.ref wl)/\c1≠c2/\c1≠c3/\c2≠c3/\IsB H b p/\H wl=some (.lst (ps.map V.ref))/\R wl/\IsY H b.ways ps
def zct(mg:Str->Option Value)(ns:List Str)(f:Addr)(fd:FuncData):Sp:=fun vs H Q _=>∃(nl d c1 c2 c3 c p wl:Addr)(ct:Value)(b:Bd)(ps:List Addr)(nv:List V),vs=[.ref nl]/\fd=vQ mg c1 c2 c3 c ct/\H f=some (FunO f fd)/\H c=some (CodO c Z8)/\Cel H c1 (.ref p)/\Cel H c2 (.ref d)/\Cel H c3 (.ref wl)/\c1≠c2/\c1≠c3/\c2≠c3/\IsB H b p/\H wl=some (.lst (ps.map V.ref))/\IsY H b.ways ps/\H nl=some (.lst nv)/\IsNs ns H b.ways nv/\H d=some (.dK (yA ns 1)) /\
 ∀H' r,Same H H'->H' r=some (.tup [.int ((b.mk ns:Nat):Int),.ref nl])->Q (.ref r) H'
theorem clo3{H:Hp}{c1 c2 c3:Addr}{v1 v2 v3:V}(h1:Cel H c1 v1)(h2:Cel H c2 v2)(h3:Cel H c3 v3)(n1:c1≠c2)(n2:c1≠c3)(n3:c2≠c3):Clo H (cl2 c1 c2 c3) ["bits","body","ways"] [v2,v1,v3]:=by
 have l1:(cl2 c1 c2 c3).lookup ("bits":Str)=some c2:=rfl
 have l2:(cl2 c1 c2 c3).lookup ("body":Str)=some c1:=rfl
 have l3:(cl2 c1 c2 c3).lookup ("ways":Str)=some c3:=rfl
 refine⟨rfl,fun p hp=>?_,fun i x v e1 e2=>?_,fun x hx=>?_,fun x y a e1 e2=>?_⟩
 ·unfold cl2 at hp
  simp only[um,UL,or_false]at hp
  rcases hp with rfl|rfl|rfl
  ·exact⟨_,h3⟩
  ·exact⟨_,h1⟩
  ·exact⟨_,h2⟩
 ·match i,e1,e2 with
  |0,e1,e2=>cases e1;cases e2;exact⟨c2,l1,h2⟩
  |1,e1,e2=>cases e1;cases e2;exact⟨c1,l2,h1⟩
  |2,e1,e2=>cases e1;cases e2;exact⟨c3,l3,h3⟩
  |i+3,e1,_=>simp at e1
 ·simp only[um,UL,or_false]at hx
  rcases hx with rfl|rfl|rfl
  ·exact⟨_,l1⟩
  ·exact⟨_,l2⟩
  ·exact⟨_,l3⟩
 ·have m1:=u6 e1
  have m2:=u6 e2
  unfold cl2 at m1 m2
  simp only[um,Prod.mk.injEq,UL,or_false]at m1 m2
  rcases m1 with⟨rfl,rfl⟩|⟨rfl,rfl⟩|⟨rfl,rfl⟩<;>rcases m2 with⟨rfl,z⟩|⟨rfl,z⟩|⟨rfl,z⟩<;>first|rfl|exact absurd z (by assumption)|exact absurd z.symm (by assumption)
theorem wL{H:Hp}{as:List Addr}(hc:∀a∈as,∃v,Cel H a v):Tups H (yK H as):=fun p xs e=>zS hc e (by intro _ _ _ z;cases z)
theorem WA{H H':Hp}{as:List Addr}(s:Same (yK H as) H'):Same H (xI H' H as):=fun b u e=>by
 by_cases z:b∈as
 ·rw[vf z];exact e
 ·rw[yG z];exact s b u (by rw[yg z];exact e)
theorem Z9{H H':Hp}{as:List Addr}{b:Addr}{u:HO}(hn:∀a∈as,H' a=none)(e:H' b=some u):xI H' H as b=some u:=by
 rw[yG]
 ·exact e
 ·intro z;rw[hn b z]at e;cases e
section
variable{P:Program}{w:World}{K:ub}{mg:Str->Option Value}{base:Heap}
theorem zaf(GN':Ca P w K mg base CX0 3 "note_of" lS17 wg)(ns:List Str)(f c1 c2 c3 c:Addr)(ct:Value):FnOk P w K mg base CX0 4 f (vQ mg c1 c2 c3 c ct) ["notes"] (zct mg ns f (vQ mg c1 c2 c3 c ct)):=by
 refine XH (k:=3) zcs (fun vs H Q E h=>?_) (fun A outer s H vs Q E hr h=>?_)
 ·obtain⟨nl,d,_,_,_,_,p,wl,_,b,ps,nv,rfl,_⟩:=h
  rfl
 ·obtain⟨nl,d,d1,d2,d3,d0,p,wl,ct',b,ps,nv,rfl,efd,hf,hc,h1,h2,h3,n1,n2,n3,hb,hw,hy,hn,hnv,hd,q⟩:=h
  have ecl:cl2 c1 c2 c3=cl2 d1 d2 d3:=congrArg FuncData.closure efd
  have ec:Value.ref c=Value.ref d0:=congrArg FuncData.code efd
  cases ec
  have e3:c3=d3:=by injection ecl with a b;exact(Prod.mk.inj a).2
  have e1:c1=d1:=by injection ecl with a b;injection b with a b;exact(Prod.mk.inj a).2
  have e2:c2=d2:=by injection ecl with a b;injection b with a b;injection b with a b;exact(Prod.mk.inj a).2
  subst e1;subst e2;subst e3
  refine⟨hf,hc,_,clo3 h1 h2 h3 n1 n2 n3,?_⟩
  obtain⟨p0,p1,p2,p3,p4,p5,eb⟩:=Jh
  rw[eb]
  have hcA:∀a∈(cl2 c1 c2 c3).map (·.2),∃v,Cel H a v:=fun a ha=>by
   obtain⟨p,hp,rfl⟩:=uy.mp ha
   exact(clo3 h1 h2 h3 n1 n2 n3).all p hp
  have tp:=wL hcA
  have ml:∀{b:Addr}{xs:List V},H b=some (.lst xs)->yK H ((cl2 c1 c2 c3).map (·.2)) b=some (.lst xs):=fun e=>zS hcA e (by intro _ _ _ z;cases z)
  refine⟨_,(cA GN' hr (jA4 (jv 2) (jv 3) (jv 0) (jv 1))),?_⟩
  refine⟨_,rfl,_,rfl,_,rfl,_,rfl,p,wl,nl,d,b,ps,nv,ns,rfl,hb.keep tp,ml hw,hy.keep tp,ml hn,hnv.imp fun _ _ h=>h.keep tp,zS hcA hd (by intro _ _ _ z;cases z),fun H' r s1 hr1 hnn=>?_⟩
  exact q _ r (WA s1) (Z9 hnn hr1)
theorem zag(c1 c2 c3 c:Addr)(ct:Value):Binds K (vQ mg c1 c2 c3 c ct) ["notes"] []:=.all fun us hl=>match us,hl with|[_],_=>rfl
end
theorem Pub.same{H H3:Hp}{cvs:List (Addr×V)}(h:Pub H H3 cvs):Same H H3:=fun b u e=>by
 rw[h.old b]
 ·exact e
 ·intro z
  obtain⟨p,hp,rfl⟩:=uy.mp z
  rw[h.non p hp]at e;cases e
def ls2:List (Pos×Str):=[(XM,Z8)]
def IsKs(H:Hp)(l:Wy)(vs:List V):Prop:=All2 (fun(w:List Str×Bd) v=>∃p,v=.ref p/\IsB H w.2 p) l vs
def xD(mg:Str->Option Value)(T:Addr):Sp:=fun vs H Q _=>∃(p d:Addr)(b:Bd)(ns:List Str),vs=[.ref p,.ref d]/\IsB H b p/\b.sz<=1000000/\TbG T ls2 H /\
 ∀H' q l fl wl vs,KM (·=T) H H'->TbG T ls2 H'->H' q=some (.tup [.ref l,.ref fl])->H l=none->H' l=some (.lst vs)->IsKs H' b.ways vs->H wl=none->(∃xs,H' wl=some (.lst xs))->(∀R:Addr->Prop,R wl->Clo2 mg ns H' R d b fl)->Q (.ref q) H'
section
variable{P:Program}{w:World}{K:ub}{mg:Str->Option Value}{base:Heap}{f:Addr}{fd:FuncData}
theorem scBegNote:FnScope ["body","bits","ways"] lS20 (zo y8):=.ok
theorem WB:(["body","bits","ways","way"]:List Str).Nodup:=by decide +kernel
theorem YY{c T:Addr}(F:FunC K "begun_note" y8 c f fd)(hB:BMn mg base)(hc:U7 K c T=true)(GW:Ca P w K mg base CX0 1 "ways_on" ["body"] YU):FnOk P w K mg base CX0 2 f fd lS20 (xD mg T):=by
 refine F.byR scBegNote (fun vs H Q E h=>?_) (fun A outer s H vs Q E hr h fresh=>?_)
 ·obtain⟨p,d,b,ns,rfl,_⟩:=h
  rfl
 obtain⟨p,d,b,ns,rfl,hb,hz,hT,q⟩:=h
 refine⟨_,
  (Q6 (sE 2 scBegNote.nd (cA GW hr (jA1 (jv 0))))
  (zcj (zu (ja_c (yp ["way"] rfl (zG (jv 2)) (fun _ _ _ _ _=>(gN 3 WB)) (fun _ _ _ _ _=>zT) (fun _ _ _ _ _=>(zP (z9 K) (jv 3) zj (fun _ _=>rfl))))
   (jA1 (XF (params:=zbg) (body:=Jf) (scope:=Jg) (pos:=XM) (T:=T) (qual:=Z8) (cl:=cl2 (s.heap.objs.size+1) (s.heap.objs.size+2) (s.heap.objs.size+3)) hB rfl hc rfl)))))),?_⟩
 have sl:=zF
 refine⟨_,rfl,p,b,rfl,hb,hz,fun H1 wl ps s1 hwl hwl1 hy=>?_⟩
 have yl:=hy.len
 have wl1:=vM b.ways
 have wl2:=Bd.wsz b
 refine⟨_,rfl,wl,rfl,⟨_,SqL.of hwl1⟩,zY (xs:=ps.map V.ref) (fun j τ ys H'=>H1=H'/\(∃v,τ=[some (.ref p),some (.ref d),some (.ref wl),v])/\IsKs H1 (b.ways.take j) ys) ⟨rfl,⟨none,rfl⟩,.nil⟩ (fun j τ ys H' _ h=>SqL.of (h.1 ▸ hwl1)) ?_ ?_⟩
 ·rintro j v τ ys H2 hv ⟨rfl,⟨v',rfl⟩,hk⟩
  rw[ue]at hv
  obtain⟨pw,hpw,rfl⟩:=uh.mp hv
  obtain⟨xs,b',q1,r1,e1,e2,e3,e4⟩:=hy.get hpw
  have kl:=All2.len hk
  rw[uN]at kl
  refine⟨_,rfl,ixT e2 aI1 ⟨by have:=(uc.mp e1).1;lia,rfl,⟨_,rfl⟩,?_⟩⟩
  rw[uw,e1]
  exact All2.app hk (.cons ⟨r1,rfl,e4⟩ .nil)
 rintro τ ys H2 ⟨rfl,_,hk⟩ l hl
 rw[ua,<- yl,uk (ud _)]at hk
 have s2:=zn (o:=.lst ys) hl
 have hTb:TbG T ls2 (upd H1 l (.lst ys)):=hT.keep (fun ps e=>s2 _ _ (s1 _ _ e)) (fun c q e=>s2 _ _ (s1 _ _ e))
 refine Z5 hTb (by unfold ls2;exact .head _) (fun p hp _=>by unfold ls2 at hp;rw[uj.mp hp]) fun H3 fl cc ct k3 T3 hfl nfT ncT hfl3 hcc=>?_
 refine⟨sN2,fun r hr=>?_⟩
 have nlT:∀{b:Addr}{u:HO},upd H1 l (.lst ys) b=some u->(∀ps,u≠.tbl ps)->b≠T:=fun{b u} e n z=>by
  obtain⟨ps,h,_⟩:=hTb
  rw[z,h]at e
  exact n _ (uO.inj e).symm
 have k4:∀b u,b≠T->upd H1 l (.lst ys) b=some u->upd H3 r (.tup [.ref l,.ref fl]) b=some u:=fun b u n e=>by
  rw[zi (zk (k3 b u n e) hr)];exact k3 b u n e
 have t4:Tups (upd H1 l (.lst ys)) (upd H3 r (.tup [.ref l,.ref fl])):=fun b xs e=>k4 b _ (nlT e (by intro _ z;cases z)) e
 have T4:TbG T ls2 (upd H3 r (.tup [.ref l,.ref fl])):=T3.keep (fun ps e=>old hr e) (fun c q e=>old hr e)
 have e_l:=k4 l _ (nlT upd_same (by intro _ z;cases z)) upd_same
 have e_w:=k4 wl _ (nlT (s2 _ _ hwl1) (by intro _ z;cases z)) (s2 _ _ hwl1)
 have k04:KM (·=T) H (upd H3 r (.tup [.ref l,.ref fl])):=fun b u n e=>k4 b u n (s2 _ _ (s1 _ _ e))
 have tp04:Tups H1 (upd H3 r (.tup [.ref l,.ref fl])):=fun b xs e=>t4 b xs (s2 _ _ e)
 have hr4:=upd_same (H:=H3) (a:=r) (o:=.tup [.ref l,.ref fl])
 have hfl4:=old (o:=.tup [.ref l,.ref fl]) hr hfl3
 have hcc4:=old (o:=.tup [.ref l,.ref fl]) hr hcc
 generalize upd H3 r (.tup [.ref l,.ref fl])=H4 at *
 refine⟨[(s.heap.objs.size+1,.ref p),(s.heap.objs.size+2,.ref d),(s.heap.objs.size+3,.ref wl)],fun x hx=>?_,fun H5 pb=>?_⟩
 ·simp only[um,UL,or_false]at hx
  rcases hx with rfl|rfl|rfl
  ·exact⟨0,"body",rfl,rfl,rfl,.inl rfl⟩
  ·exact⟨1,"bits",rfl,rfl,rfl,.inl rfl⟩
  ·exact⟨2,"ways",rfl,rfl,rfl,.inl rfl⟩
 have s5:=Pub.same pb
 refine q H5 r l fl wl ys (k04.trans (.of s5)) (T4.keep (fun ps e=>s5 _ _ e) fun c q e=>s5 _ _ e) (s5 _ _ hr4) (s1.free hl) (s5 _ _ e_l) (hk.imp fun _ _ ⟨p,e,h⟩=>⟨p,e,h.keep (tp04.trans (.of s5))⟩) hwl ⟨_,s5 _ _ e_w⟩ fun R hR=>?_
 exact⟨_,_,_,cc,ct,p,wl,ps,s5 _ _ hfl4,s5 _ _ hcc4,pb.cel (_,_) (.head _),pb.cel (_,_) (.tail _ (.head _)),pb.cel (_,_) (.tail _ (.tail _ (.head _))),by simp,by simp,by simp,hb.keep ((Tups.of s1).trans (tp04.trans (.of s5))),s5 _ _ e_w,hR,hy.keep (tp04.trans (.of s5))⟩
end
def XN:Expr:=match zL wC with
 |[.Return (some (.Call _ [_,l] _ _)) _]=>l
 |_=>.Constant .none 0 ⟨0,0,0,0⟩
def zbh:Arguments:=match XN with
 |.Lambda a _ _ _=>a
 |_=>zX wC
def Ji:Expr:=match XN with
 |.Lambda _ b _ _=>b
 |e=>e
def Jj:Scope:=match XN with
 |.Lambda _ _ s _=>s
 |_=>zo wC
def XO:Pos:=match XN with
 |.Lambda _ _ _ p=>p
 |_=>⟨0,0,0,0⟩
def Ya:Str:=("noted":Str)++(".<locals>.":Str)++("<lambda>":Str)
def ls1:List (Pos×Str):=[(XO,Ya)]
def cl1(c0:Addr):List (Str×Addr):=[("bits",c0)]
abbrev vR(mg:Str->Option Value)(c0 c:Addr)(ct:Value):FuncData:=lamC mg Ya zbh Ji Jj (cl1 c0) c ct
theorem zcu:LamScope ["task","bits"] ["task"] ["bits"] Jj:=⟨rfl,rfl,rfl,by decide +kernel,rfl,by decide +kernel,by decide +kernel,by decide +kernel,by decide +kernel⟩
theorem Jk:∃p0 p1 p2 p3,Ji=.Call (.Name "begun_note" p0) [.Name "task" p1,.Name "bits" p2] [] p3:=⟨_,_,_,_,rfl⟩
theorem clo1{H:Hp}{c1:Addr}{v1:V}(h1:Cel H c1 v1):Clo H (cl1 c1) ["bits"] [v1]:=by
 have l1:(cl1 c1).lookup ("bits":Str)=some c1:=rfl
 refine⟨rfl,fun p hp=>?_,fun i x v e1 e2=>?_,fun x hx=>?_,fun x y a e1 e2=>?_⟩
 ·unfold cl1 at hp
  rw[uj.mp hp]
  exact⟨_,h1⟩
 ·match i,e1,e2 with
  |0,e1,e2=>cases e1;cases e2;exact⟨c1,l1,h1⟩
  |i+1,e1,_=>simp at e1
 ·rw[uj.mp hx]
  exact⟨_,l1⟩
 ·have m1:=u6 e1
  have m2:=u6 e2
  unfold cl1 at m1 m2
  rw[uj]at m1 m2
  exact(Prod.mk.inj m1).1.trans (Prod.mk.inj m2).1.symm
theorem Clo2.same{mg:Str->Option Value}{ns:List Str}{H H':Hp}{R:Addr->Prop}{d:Addr}{b:Bd}{f:Addr}(h:Clo2 mg ns H R d b f)(s:Same H H'):Clo2 mg ns H' R d b f:=by
 obtain⟨c1,c2,c3,c,ct,p,wl,ps,h1,h2,⟨o3,h3⟩,⟨o4,h4⟩,⟨o5,h5⟩,n1,n2,n3,h6,h7,h8,h9⟩:=h
 exact⟨c1,c2,c3,c,ct,p,wl,ps,s _ _ h1,s _ _ h2,⟨o3,s _ _ h3⟩,⟨o4,s _ _ h4⟩,⟨o5,s _ _ h5⟩,n1,n2,n3,h6.keep (.of s),s _ _ h7,h8,h9.keep (.of s)⟩
def zcv(mg:Str->Option Value)(T:Addr)(ns:List Str)(f:Addr)(fd:FuncData):Sp:=fun vs H Q _=>∃(p d c0 c:Addr)(ct:Value)(b:Bd),vs=[.ref p]/\fd=vR mg c0 c ct/\H f=some (FunO f fd)/\H c=some (CodO c Ya)/\Cel H c0 (.ref d)/\IsB H b p/\b.sz<=1000000/\TbG T ls2 H /\
 ∀H' q l fl wl vs,KM (·=T) H H'->TbG T ls2 H'->H' q=some (.tup [.ref l,.ref fl])->H l=none->H' l=some (.lst vs)->IsKs H' b.ways vs->H wl=none->(∃xs,H' wl=some (.lst xs))->(∀R:Addr->Prop,R wl->Clo2 mg ns H' R d b fl)->Q (.ref q) H'
section
variable{P:Program}{w:World}{K:ub}{mg:Str->Option Value}{base:Heap}
theorem zah{T:Addr}(GB:Ca P w K mg base CX0 2 "begun_note" lS20 (xD mg T))(ns:List Str)(f c0 c:Addr)(ct:Value):FnOk P w K mg base CX0 3 f (vR mg c0 c ct) ["task"] (zcv mg T ns f (vR mg c0 c ct)):=by
 refine XH (k:=2) zcu (fun vs H Q E h=>?_) (fun A outer s H vs Q E hr h=>?_)
 ·obtain⟨p,d,_,_,_,b,rfl,_⟩:=h
  rfl
 ·obtain⟨p,d,d1,d0,ct',b,rfl,efd,hf,hc,h1,hb,hz,hT,q⟩:=h
  have ecl:cl1 c0=cl1 d1:=congrArg FuncData.closure efd
  have ec:Value.ref c=Value.ref d0:=congrArg FuncData.code efd
  cases ec
  have e1:c0=d1:=by injection ecl with a b;exact(Prod.mk.inj a).2
  subst e1
  refine⟨hf,hc,_,clo1 h1,?_⟩
  obtain⟨p0,p1,p2,p3,eb⟩:=Jk
  rw[eb]
  have hcA:∀a∈(cl1 c0).map (·.2),∃v,Cel H a v:=fun a ha=>by
   obtain⟨p,hp,rfl⟩:=uy.mp ha
   exact(clo1 h1).all p hp
  have tp:=wL hcA
  refine⟨_,(cA GB hr (jA2 (jv 0) (jv 1))),?_⟩
  refine⟨_,rfl,_,rfl,p,d,b,ns,rfl,hb.keep tp,hz,hT.keep (fun ps e=>zS hcA e (by intro _ _ _ z;cases z)) (fun c q e=>zS hcA e (by intro _ _ _ z;unfold CodO at z;cases z)),fun H' r l fl wl vs k1 T1 hr1 hl hl1 hk hwl hwl1 hclo hnn=>?_⟩
  have sp:Same H' (xI H' H ((cl1 c0).map (·.2))):=fun b u e=>Z9 hnn e
  obtain⟨xs,hwl2⟩:=hwl1
  have out:∀{b:Addr}{u:HO},H' b=some u->yK H ((cl1 c0).map (·.2)) b=none->H b=none:=fun{b u} e n=>by
   rw[yg]at n
   ·exact n
   ·intro z;rw[hnn b z]at e;cases e
  refine q _ r l fl wl vs (fun b u n e=>?_) (T1.keep (fun ps e=>sp _ _ e) fun c q e=>sp _ _ e) (sp _ _ hr1) (out hl1 hl) (sp _ _ hl1) (hk.imp fun _ _ ⟨p,e,h⟩=>⟨p,e,h.keep (.of sp)⟩) (out hwl2 hwl) ⟨xs,sp _ _ hwl2⟩ fun R hR=>(hclo R hR).same sp
  by_cases z:b∈(cl1 c0).map (·.2)
  ·rw[vf z];exact e
  ·rw[yG z]
   exact k1 b u n (by rw[yg z];exact e)
theorem zai(c0 c:Addr)(ct:Value):Binds K (vR mg c0 c ct) ["task"] []:=.all (us1 fun _=>rfl)
theorem All2.mapl{α β γ:Type}{F:α->β->Prop}{g:γ->α}:∀{l:List γ}{m:List β},All2 (fun c b=>F (g c) b) l m->All2 F (l.map g) m
 |_,_,.nil=>.nil
 |_,_,.cons a r=>.cons a (All2.mapl r)
theorem All2.unmapl{α β γ:Type}{F:α->β->Prop}{g:γ->α}:∀{l:List γ}{m:List β},All2 F (l.map g) m->All2 (fun c b=>F (g c) b) l m
 |[],_,.nil=>.nil
 |_::_,_,.cons a r=>.cons a (All2.unmapl r)
theorem Jl:∀{l:Wy}{w:List Str×Bd},w∈l->w.2.sz<=wsz l
 |p::l,w,h=>by
  unfold wsz
  rw[uH,Uu]
  rcases um.mp h with rfl|h
  ·lia
  ·have:=Jl h
   unfold wsz at this
   lia
theorem All2.memP{α β:Type}{F:α->β->Prop}{Pr:α->Prop}:∀{l:List α}{m:List β},All2 F l m->(∀a∈l,Pr a)->All2 (fun a b=>Pr a/\F a b) l m
 |_,_,.nil,_=>.nil
 |_,_,.cons a r,h=>.cons ⟨h _ (.head _),a⟩ (All2.memP r fun a ha=>h a (.tail _ ha))
structure NOk(mg:Str->Option Value)(T1 T2 d fl c0 cc:Addr)(ct:Value)(ns:List Str)(H:Hp):Prop where
 t1:TbG T1 ls1 H
 t2:TbG T2 ls2 H
 hd:H d=some (.dK (yA ns 1))
 f:H fl=some (FunO fl (vR mg c0 cc ct))
 c:H cc=some (CodO cc Ya)
 cel:Cel H c0 (.ref d)
theorem NOk.keep{mg:Str->Option Value}{T1 T2 d fl c0 cc:Addr}{ct:Value}{ns:List Str}{H H':Hp}(h:NOk mg T1 T2 d fl c0 cc ct ns H)(h1:TbG T1 ls1 H')(h2:TbG T2 ls2 H')(k:∀b u,H b=some u->(∀ps,u≠.tbl ps)->(∀xs,u≠.lst xs)->H' b=some u):NOk mg T1 T2 d fl c0 cc ct ns H' :=
 ⟨h1,h2,k _ _ h.hd (by intro _ z;cases z) (by intro _ z;cases z),k _ _ h.f (by intro _ z;unfold FunO at z;cases z) (by intro _ z;unfold FunO at z;cases z),k _ _ h.c (by intro _ z;unfold CodO at z;cases z) (by intro _ z;unfold CodO at z;cases z),let ⟨o,e⟩:=h.cel;⟨o,k _ _ e (by intro _ z;cases z) (by intro _ z;cases z)⟩⟩
theorem NOk.noM{mg:Str->Option Value}{T1 T2 d fl c0 cc:Addr}{ct:Value}{ns:List Str}{H:Hp}(h:NOk mg T1 T2 d fl c0 cc ct ns H){b:Addr}{u:HO}(e:H b=some u)(n:∀ps,u≠.tbl ps):¬ (b=T1\/b=T2):=by
 rintro(z|z)
 ·obtain⟨ps,q,_⟩:=h.t1
  rw[z,q]at e
  exact n _ (uO.inj e).symm
 ·obtain⟨ps,q,_⟩:=h.t2
  rw[z,q]at e
  exact n _ (uO.inj e).symm
theorem NOk.tups{mg:Str->Option Value}{T1 T2 d fl c0 cc:Addr}{ct:Value}{ns:List Str}{H H':Hp}{R:Addr->Prop}(h:NOk mg T1 T2 d fl c0 cc ct ns H)(z:Kz (fun b=>b=T1\/b=T2) R H H'):Tups H H':=fun b xs e=>z b _ e (h.noM e (by intro _ z;cases z)) (by intro _ z;cases z)
def zaj{T1 T2:Addr}(nT:T1≠T2)(GB:Ca P w K mg base CX0 2 "begun_note" lS20 (xD mg T2))(GO:Ca P w K mg base CX0 3 "note_of" lS17 wg)(d fl c0 cc:Addr)(ct:Value)(ns:List Str):WoD P w K mg base 4 where
 Tk:=Bd
 M:=fun b=>b=T1\/b=T2
 fb:=fl
 wt:=fun b=>2*b.sz
 kids:=fun b=>b.ways.map (·.2)
 wk:=fun b=>by
  have h:=Bd.wsz b
  have e:∀l:Wy,((l.map (·.2)).map fun b:Bd=>2*b.sz).sum=2*wsz l:=by
   intro l
   induction l with
   |nil=>rfl
   |cons p l ih =>
    unfold wsz at ih ⊢
    rw[uH,uH,uH,Uu,Uu,ih]
    lia
  rw[e]
  lia
 IT:=fun H _ b v=>b.sz<=1000000/\∃p,v=.ref p/\IsB H b p
 IR:=fun H _ b v=>IsN ns H b v
 IF:=fun H R b v=>∃f,v=.ref f/\Clo2 mg ns H R d b f
 Ok:=NOk mg T1 T2 d fl c0 cc ct ns
 itk:=fun⟨h,p,e,hb⟩ ok z _=>⟨h,p,e,hb.keep (ok.tups z)⟩
 irk:=fun h ok z _=>h.keep (ok.tups z)
 ifk:=fun{H H' R R' t v} hh ok z sub=>by
  obtain⟨f,e,c1,c2,c3,c,ct,p,wl,ps,h1,h2,⟨o3,h3⟩,⟨o4,h4⟩,⟨o5,h5⟩,n1,n2,n3,h6,h7,h8,h9⟩:=hh
  have g:∀b u,H b=some u->(∀ps,u≠.tbl ps)->(∀xs,u≠.lst xs)->H' b=some u:=fun b u e n1 n2=>z b u e (ok.noM e n1) fun xs q=>absurd q (n2 xs)
  exact⟨f,e,c1,c2,c3,c,ct,p,wl,ps,g _ _ h1 (by intro _ z;unfold FunO at z;cases z) (by intro _ z;unfold FunO at z;cases z),g _ _ h2 (by intro _ z;unfold CodO at z;cases z) (by intro _ z;unfold CodO at z;cases z),⟨o3,g _ _ h3 (by intro _ z;cases z) (by intro _ z;cases z)⟩,⟨o4,g _ _ h4 (by intro _ z;cases z) (by intro _ z;cases z)⟩,⟨o5,g _ _ h5 (by intro _ z;cases z) (by intro _ z;cases z)⟩,n1,n2,n3,h6.keep (ok.tups z),z _ _ h7 (ok.noM h7 (by intro _ z;cases z)) (fun _ _=>h8),sub _ h8,h9.keep (ok.tups z)⟩
 okk:=fun{H H'} ok z=>by
  have g:∀b u,H b=some u->(∀xs,u≠.lst xs)->H' b=some u:=fun b u e n=>z b u e fun xs q=>absurd q (n xs)
  exact ok.keep (ok.t1.keep (fun ps e=>g _ _ e (by intro _ z;cases z)) fun c q e=>g _ _ e (by intro _ z;unfold CodO at z;cases z)) (ok.t2.keep (fun ps e=>g _ _ e (by intro _ z;cases z)) fun c q e=>g _ _ e (by intro _ z;unfold CodO at z;cases z)) fun b u e _ n=>g b u e n
 okM:=fun{H b} ok z=>by
  rcases z with z|z
  ·obtain⟨ps,q,_⟩:=ok.t1
   rw[z,q];simp
  ·obtain⟨ps,q,_⟩:=ok.t2
   rw[z,q];simp
 beg:=fun{H R t v Q}⟨hz,p,e,hb⟩ ok hRd hRM q=>by
  subst e
  refine⟨_,_,_,(zah GB ns fl c0 cc ct).mono (by decide),zai c0 cc ct,⟨p,d,c0,cc,ct,t,rfl,rfl,ok.f,ok.c,ok.cel,hb,hz,ok.t2,fun H' r l f2 wl vs k1 t2 hr hl hl1 hk hwl ⟨xs,hwl1⟩ hclo=>?_⟩,.inl ok.f⟩
  have ok':NOk mg T1 T2 d fl c0 cc ct ns H':=by
   refine ok.keep (ok.t1.keep (fun ps e=>k1 _ _ nT e) fun c q e=>k1 _ _ (fun z=>ok.noM e (by intro _ z;unfold CodO at z;cases z) (.inr z)) e) t2 fun b u e n _=>k1 b u (fun z=>ok.noM e n (.inr z)) e
  refine q H' r l f2 vs (fun b=>R b\/b=l\/b=wl) (fun b u n e=>k1 b u (fun z=>n (.inr z)) e) ok' hr hl hl1 (fun _ z=>.inl z) ?_ ?_ (.inr (.inl rfl)) ?_ ⟨f2,rfl,hclo _ (.inr (.inr rfl))⟩
  ·rintro b (z|rfl|rfl)
   ·exact .inl z
   ·exact .inr hl
   ·exact .inr hwl
  ·rintro b (z|rfl|rfl)
   ·cases e:H b with
    |none=>exact absurd e (hRd b z)
    |some u=>rw[k1 b u (fun y=>hRM b z (.inr y)) e];simp
   ·rw[hl1];simp
   ·rw[hwl1];simp
  ·refine All2.mapl ((All2.memP hk (Pr:=fun w:List Str×Bd=>w.2.sz<=1000000) fun a ha=>?_).imp fun a b h=>h)
   have:=Jl ha
   have:=Bd.wsz t
   lia
 fin:=fun{H R t f2 rl rs Q} hh ok hRd hRM hRr hrl hrs q=>by
  obtain⟨f,e,c1,c2,c3,c,ct',p,wl,ps,h1,h2,h3,h4,h5,n1,n2,n3,h6,h7,h8,h9⟩:=hh
  cases e
  refine⟨_,_,_,zaf GO ns f2 c1 c2 c3 c ct',zag c1 c2 c3 c ct',⟨rl,d,c1,c2,c3,c,p,wl,ct',t,ps,rs,rfl,rfl,h1,h2,h3,h4,h5,n1,n2,n3,h6,h7,h9,hrl,All2.unmapl hrs,ok.hd,fun H' r s1 hr=>?_⟩,.inl h1⟩
  refine q H' (.ref r) R (.of s1) ?_ (fun _ z=>z) (fun _ z=>.inl z) ?_ ⟨r,rl,rfl,hr⟩
  ·exact ok.keep (ok.t1.keep (fun ps e=>s1 _ _ e) fun c q e=>s1 _ _ e) (ok.t2.keep (fun ps e=>s1 _ _ e) fun c q e=>s1 _ _ e) fun b u e _ _=>s1 b u e
  ·intro b z
   cases e:H b with
   |none=>exact absurd e (hRd b z)
   |some u=>rw[s1 b u e];simp
end
structure Tbs(T1 T2:Addr)(H:Hp):Prop where
 t1:TbG T1 ls1 H
 t2:TbG T2 ls2 H
theorem Tbs.same{T1 T2:Addr}{H H':Hp}(h:Tbs T1 T2 H)(s:Same H H'):Tbs T1 T2 H':=⟨h.t1.keep (fun ps e=>s _ _ e) fun c q e=>s _ _ e,h.t2.keep (fun ps e=>s _ _ e) fun c q e=>s _ _ e⟩
def MT(T1 T2:Addr)(b:Addr):Prop:=b=T1\/b=T2
def XQ(T1 T2:Addr):Sp:=fun vs H Q _=>∃(p d:Addr)(b:Bd)(ns:List Str),vs=[.ref p,.ref d]/\IsB H b p/\b.sz<=400000/\H d=some (.dK (yA ns 1))/\Tbs T1 T2 H/\∀H' v,KM (MT T1 T2) H H'->Tbs T1 T2 H'->IsN ns H' b v->Q v H'
def XR(T1 T2:Addr):Sp:=fun vs H Q _=>∃(p l:Addr)(b:Bd)(ns:List Str),vs=[.ref p,.ref l]/\IsB H b p/\b.sz<=400000/\H l=some (.lst (ns.map V.str))/\ns.Nodup/\ns.length<=1000/\Tbs T1 T2 H/\∀H',KM (MT T1 T2) H H'->Tbs T1 T2 H'->Q (.int ((b.mk ns:Nat):Int)) H'
section
variable{P:Program}{w:World}{K:ub}{mg:Str->Option Value}{base:Heap}{f:Addr}{fd:FuncData}
theorem scNoted:FnScope lS20 lS20 (zo wC):=.ok
theorem Jm{c T1 T2:Addr}(F:FunC K "noted" wC c f fd)(hB:BMn mg base)(hc:U7 K c T1=true)(nT:T1≠T2)(GB:Ca P w K mg base CX0 2 "begun_note" lS20 (xD mg T2))(GO:Ca P w K mg base CX0 3 "note_of" lS17 wg)(GW:Ca P w K mg base CX0 5 "worked_out" ["task","begin"] (Z7 P w K mg base 4)):FnOk P w K mg base CX0 6 f fd lS20 (XQ T1 T2):=by
 refine F.by scNoted (fun vs H Q E h=>?_) (fun A outer s H vs Q E hr h=>?_)
 ·obtain⟨p,d,b,ns,rfl,_⟩:=h
  rfl
 obtain⟨p,d,b,ns,rfl,hb,hz,hd,hT,q⟩:=h
 refine⟨_,
  (zh (zq (zcm (E:=E0) GW hr scNoted.nd rfl (fun _=>rfl) (jA2 (jv 0) (XF (params:=zbh) (body:=Ji) (scope:=Jj) (pos:=XO) (T:=T1) (qual:=Ya) (cl:=cl1 (s.heap.objs.size+1)) hB rfl hc rfl))))),?_⟩
 refine⟨_,rfl,Z5 hT.t1 (by unfold ls1;exact .head _) (fun p hp _=>by unfold ls1 at hp;rw[uj.mp hp]) fun H1 fl cc ct k1 T1' hfl nfT ncT hfl1 hcc=>?_⟩
 have noT1:∀{b:Addr}{u:HO},H b=some u->(∀ps,u≠.tbl ps)->b≠T1:=fun{b u} e n z=>by
  obtain⟨ps,h,_⟩:=hT.t1
  rw[z,h]at e
  exact n _ (uO.inj e).symm
 have tp1:Tups H H1:=fun b xs e=>k1 b _ (noT1 e (by intro _ z;cases z)) e
 have T2':TbG T2 ls2 H1:=hT.t2.keep (fun ps e=>k1 _ _ nT.symm e) fun c q e=>k1 _ _ (noT1 e (by intro _ z;unfold CodO at z;cases z)) e
 refine⟨[(s.heap.objs.size+1,.ref d)],fun x hx=>?_,fun H3 pb=>?_⟩
 ·rw[uj.mp hx]
  exact⟨1,"bits",rfl,rfl,rfl,.inl rfl⟩
 have s3:=Pub.same pb
 have ok3:NOk mg T1 T2 d fl (s.heap.objs.size+1) cc ct ns H3:=⟨T1'.keep (fun ps e=>s3 _ _ e) fun c q e=>s3 _ _ e,T2'.keep (fun ps e=>s3 _ _ e) fun c q e=>s3 _ _ e,s3 _ _ (k1 _ _ (noT1 hd (by intro _ z;cases z)) hd),s3 _ _ hfl1,s3 _ _ hcc,pb.cel (_,_) (.head _)⟩
 refine⟨zaj nT GB GO d fl (s.heap.objs.size+1) cc ct ns,.ref p,b,fun _=>False,rfl,⟨by lia,p,rfl,hb.keep (tp1.trans (.of s3))⟩,ok3,fun _ z=>z.elim,fun _ z=>z.elim,?_,.inl ⟨⟨_,ok3.f⟩,ok3.noM ok3.f (by intro _ z;unfold FunO at z;cases z)⟩,fun H4 v R' k4 ok4 _ hv hcel=>?_⟩
 ·show 2*b.sz<=1000000
  lia
 have hcA:∀a∈([(s.heap.objs.size+1,V.ref d)]:List (Addr×V)).map (·.1),∃v,Cel H4 a v:=fun a ha=>by
  obtain⟨x,hx,rfl⟩:=uy.mp ha
  exact⟨_,hcel x hx⟩
 refine q _ v (fun b u n e=>?_) ⟨ok4.t1.keep (fun ps e=>zS hcA e (by intro _ _ _ z;cases z)) fun c q e=>zS hcA e (by intro _ _ _ z;unfold CodO at z;cases z),ok4.t2.keep (fun ps e=>zS hcA e (by intro _ _ _ z;cases z)) fun c q e=>zS hcA e (by intro _ _ _ z;unfold CodO at z;cases z)⟩ (hv.keep (wL hcA))
 have e1:=k1 b u (fun z=>n (.inl z)) e
 rw[yg]
 ·exact k4 b u n (s3 _ _ e1)
 ·intro z
  obtain⟨x,hx,rfl⟩:=uy.mp z
  rw[pb.non x hx]at e1
  cases e1
theorem zak:FnScope ["body","names"] ["body","names"] (zo YE):=.ok
theorem Jn{T1 T2:Addr}(F:Fun K "ahead" "ahead" YE f fd)(GN':Ca P w K mg base CX0 6 "noted" lS20 (XQ T1 T2))(GB:Ca P w K mg base CX0 1 "bits_of" ["names"] Jc):FnOk P w K mg base CX0 7 f fd ["body","names"] (XR T1 T2):=by
 refine F.by zak (fun vs H Q E h=>?_) (fun cdv A outer s H vs Q E hr h=>?_)
 ·obtain⟨p,l,b,ns,rfl,_⟩:=h
  rfl
 obtain⟨p,l,b,ns,rfl,hb,hz,hl,nd,hn,hT,q⟩:=h
 have hr1:Room 1 _:=hr.mono (by decide)
 refine⟨_,(zh (zq (zP zZ (cA GN' hr (jA2 (jv 0) (cA GB hr1 (jA1 (jv 1))))) zj (fun _ _=>rfl)))),?_⟩
 refine⟨_,rfl,_,rfl,l,ns,rfl,hl,nd,hn,fun H1 d s1 hd hd1=>?_⟩
 refine⟨p,d,b,ns,rfl,hb.keep (.of s1),hz,hd1,hT.same s1,fun H2 v k2 T2' ⟨qa,la,e,hq⟩=>?_⟩
 subst e
 exact ixT hq aI0 (q H2 ((KM.of s1).trans k2) T2')
end
end GN
namespace L2
open PySem PySem.Spec PyProof.Rows
section
variable{X:Cx}
theorem vS(hc:X.calm=true):xm X (.builtin "any") (fun xs H Q=>∃(p:Addr)(bs:List Bool),xs=[.ref p]/\SqL X.K H p (bs.map V.bl)/\Q (.bl (bs.any _root_.id)) H):=by
 intro pins s σ H xs us Q I r h
 obtain⟨p,bs,rfl,hq,q⟩:=h
 obtain⟨u,rfl,rx⟩:=vo r
 cases rx
 obtain⟨its,rv,pl,hz⟩:=I.list hq
 have hh:X.A.handled=none:=I.ok.hd hc
 have hlen:its.toArray.size=bs.length:=by rw[ur,<- rv.length,ua]
 have hne:p≠s.heap.objs.size:=by
  obtain⟨o,n,e,_⟩:=pl
  exact uS (uv e)
 refine call_any_walk (wpAny_pyIter_list pl.isList ?_)
 refine⟨s.heap.objs.size,_,_,_,_,_,fun i=>(bs[i]?).getD false,rfl,Walks.list (A:=X.A.in1) hh _ p hne its.toArray,⟨⟨_,uA _ rfl,rfl,rfl⟩,pl.isList.at fun o e=>ug _ e⟩,fun i v s1 Q1 E1 hv hQ=>?_,fun h' tk kk=>?_⟩
 ·have hi:i < bs.length:=by
   obtain⟨hi,_⟩:=Array.getElem?_eq_some_iff.mp hv
   rw[hlen]at hi
   exact hi
  have hb:(bs.map V.bl)[i]?=some (V.bl ((bs[i]?).getD false)):=by
   rw[ue,ui hi]
   simp
  obtain⟨u',hu,ru⟩:=rv.get hb
  have e:its.toArray[i]?=some u':=by simpa using hu
  have hv':its.toArray[i]?=some v:=hv
  rw[hv']at e
  cases e
  cases ru
  exact wpAny_truthy_bool hQ
 ·rw[hlen,LSm.range_any]
  have I1:Inv X pins σ H { s with heap:=s.heap.push { cls:=.type "list_iterator",data:=.fields #[.ref p,.int 0 0] } }:=I.kept (t':=s.toks) fun b o e=>ug _ e
  have f:=I.fpOk (H':=H) (ud _) I.fresh
  exact⟨.bl (bs.any _root_.id),H,I1.turned (it:=s.heap.objs.size) (fun b o hb e=>kk b o (by simpa using hb) e) f.1 f.2.1 f.2.2.2.1 f.2.2.2.2.1 f.2.2.2.2.2,rfl,q⟩
theorem wj(hc:X.calm=true):jCa X (.builtin "any") (fun xs H Q=>∃(p:Addr)(bs:List Bool),xs=[.ref p]/\SqL X.K H p (bs.map V.bl)/\Q (.bl (bs.any _root_.id)) H):=⟨vS hc⟩
end
open AutoSeq1 (wpAny_loadPart') in
theorem xx(l:Addr)(items:Array Value)(n:Nat)(dct:Option Addr)(sl:Array (Option Value)):
  Meets (Builtin.«enumerate.__new__» ⟨[.type "enumerate",.ref l],[]⟩) (fun _ R s=>s.heap.get? l=some { cls:=.type "tuple",dict:=dct,data:=.seq items n,slots:=sl } /\
   R (.ok (.ret (.ref (s.heap.push { cls:=.type "tuple_iterator",data:=.fields #[.ref l,.int 0 0] }).objs.size)))
    { s with heap:=(s.heap.push { cls:=.type "tuple_iterator",data:=.fields #[.ref l,.int 0 0] }).push { cls:=.type "enumerate",data:=.fields #[.none,.bool false,.ref s.heap.objs.size,rawInt 0,.none,.none] } }) :=
 .of_wp fun prog w A R s h=>by
  obtain⟨hp,g,d,tk,os⟩:=s;obtain⟨hl,h⟩:=h
  have hsub:=sub_enumerate
  have hL:Heap.IsTuple (Shared.heap ⟨hp,g,d,tk,os⟩) l items:=⟨_,hl,rfl,n,rfl⟩
  wp_walk using wpAny_loadPart' hl
  refine wpAny_stack_any fun st=>wpAny_pure ?_
  split
  ·rename_i c _ _ _ _ _
   cases(c == Value.type "enumerate")
   ·wp_walk using wpAny_loadPart' hl,wpAny_pyIter_tuple hL
    exact⟨_,rfl,h⟩
   ·wp_walk using wpAny_loadPart' hl,wpAny_pyIter_tuple hL
    exact⟨_,rfl,h⟩
  ·wp_walk using wpAny_loadPart' hl,wpAny_pyIter_tuple hL
   exact⟨_,rfl,h⟩
section
variable{prog:Program}{w:World}{A:Around}{E:Value->Shared->Prop}{s:Shared}
theorem xy{l:Addr}{items:Array Value}{Q:Value->Shared->Prop}(hL:s.heap.IsTuple l items)
  (h:∀h',IsEnum h' (s.heap.objs.size+1) s.heap.objs.size 0 .none->h'.IsTupleIter s.heap.objs.size l 0->h'.objs.size=s.heap.objs.size+2 ->
   (∀b o,s.heap.get? b=some o->h'.get? b=some o)->Q (.ref (s.heap.objs.size+1)) { s with heap:=h' }) :
  wpAny (model prog w) A (call (.type "enumerate") [.ref l]) Q E s:=by
 obtain⟨⟨c,dct,dt,sl⟩,hl,hc,n,hd⟩:=hL
 replace hc:c=.type "tuple":=hc
 replace hd:dt=.seq items n:=hd
 subst hc hd
 refine callType_new F.called_enumerate (by decide) (F.typeCall_enumerate_1 _) (F.newCall_enumerate_1 _) (fun obj=>F.args_object_init_2 obj _) F.entry_enumerate_new
  (xx l items n dct sl) ⟨hl,?_⟩
 have hz:(s.heap.push { cls:=.type "tuple_iterator",data:=.fields #[.ref l,.int 0 0] }).objs.size=s.heap.objs.size+1:=Ut ..
 show _/\_
 rw[hz]
 have he:IsEnum ((s.heap.push { cls:=.type "tuple_iterator",data:=.fields #[.ref l,.int 0 0] }).push
   { cls:=.type "enumerate",data:=.fields #[.none,.bool false,.ref s.heap.objs.size,rawInt 0,.none,.none] }) (s.heap.objs.size+1) s.heap.objs.size 0 .none:=by
  have:=uA (s.heap.push { cls:=.type "tuple_iterator",data:=.fields #[.ref l,.int 0 0] })
   (o:={ cls:=.type "enumerate",data:=.fields #[.none,.bool false,.ref s.heap.objs.size,rawInt 0,.none,.none] }) rfl
  rw[hz]at this;exact this
 refine⟨⟨_,he,rfl⟩,h _ he ⟨_,ug _ (uA _ rfl),rfl,rfl⟩ (by rw[Ut,hz]) fun b o x=>ug _ (ug _ x)⟩
theorem wV(hh:A.handled=none){it l:Addr}(hne:l≠it)(items:Array Value):Draws prog w A it [it,l] items.size (fun i x=>items[i]?=some x) (fun i h=>h.IsTupleIter it l i/\h.IsTuple l items) where
 live:=fun i h st=>let ⟨o,ho,_⟩:=st.1;⟨o,ho⟩
 frame:=fun i h h' st k=>⟨let ⟨o,ho,r⟩:=st.1;⟨o,k it (by simp) o ho,r⟩,let ⟨o,ho,r⟩:=st.2;⟨o,k l (by simp) o ho,r⟩⟩
 item:=fun i s Q E hi st hQ=>by
  have hx:items[i]?=some items[i]:=Array.getElem?_eq_getElem hi
  exact ZJ st.1 st.2 hx fun h' hj hs=>hQ _ h' s.toks hx ⟨hj,st.2.extBut hs.extBut hne⟩ hs
 done:=fun s Q E st hE=>Xr hh st.1 st.2 (Array.getElem?_eq_none (ud _)) hE
end
def IteT(K:ub)(a:Addr):It :=
 ⟨fun i H=>∃xs x,SqT K H a xs/\xs[i]?=some x,fun i H x H'=>∃T v,x=.ref T/\H T=none/\H'=upd H T (.tup [.int i,v])/\∀xs,SqT K H a xs->xs[i]?=some v,fun i H=>∃xs,SqT K H a xs/\xs.length=i⟩
theorem YZ{P:Program}{w:World}{K:ub}{elts:List Expr}{k:Nat}{pos:Pos}{a e it:Addr}(hne:e≠it)(hea:e≠a)(hia:a≠it):Turn P w K (.Tuple elts k pos) (IteT K a) [e,it] e (fun i h=>(∃old,IsEnum h e it (i:Int) old)/\h.IsTupleIter it a i) where
 mem:=by simp
 obj:=fun i h st b hb=>by
  obtain⟨⟨old,he⟩,hit⟩:=st
  have e':b=e\/b=it:=by simpa using hb
  rcases e' with z|z
  ·subst z
   exact⟨_,he,fun v z=>by cases z⟩
  ·subst z
   obtain⟨o,e,c,d⟩:=hit
   exact⟨o,e,fun v z=>by rw[d]at z;cases z⟩
 keep:=fun i h h' st k=>⟨st.1.imp fun old he=>k e (by simp) _ he,let ⟨o,ho,r⟩:=st.2;⟨o,k it (by simp) o ho,r⟩⟩
 item:=by
  intro X hP hw hK hc i pins s σ H E I hf st hg
  subst hP hw hK
  obtain⟨xs,x,hq,hx⟩:=hg
  obtain⟨its,rv,p,hz⟩:=I.tuple hq
  obtain⟨u,hu,ru⟩:=rv.get hx
  obtain⟨⟨old,he⟩,hit⟩:=st
  have hil:i < its.toArray.size:=by
   obtain⟨hi,_⟩:=uc.mp hu
   simpa using hi
  refine wpAny_pyNext_enum_itemD (wV (A:=X.A.in1) (I.ok.hd hc) hia its.toArray) he ⟨hit,p⟩ hil hne (by simp[hne,hea]) fun u' h' tk hu' ho st' hT hsz hk=>?_
  obtain⟨hit',_⟩:=st'
  have eu:u'=u:=by
   have:its.toArray[i]?=some u:=by simpa using hu
   rw[this]at hu'
   exact(uO.inj hu').symm
  subst eu
  have new:ObjOk X.prog X.w (upd H s.heap.objs.size (.tup [.int i,x])) h' s.heap.objs.size (.tup [.int i,x]):=⟨sN2,[.int i tk,u'],.cons ⟨_,rfl⟩ (.cons ru .nil),⟨_,hT,rfl,rfl,_,rfl⟩⟩
  have I1:Inv X pins σ (upd H s.heap.objs.size (.tup [.int i,x])) { s with heap:=h',toks:=tk+1 }:=I.turnsLaid (ch:=[e,it]) (fun b o hb q=>hk b o (fun z=>hb (by simp[z])) (fun z=>hb (by simp[z])) q) hf (ud _) new
  have hlt:∀b∈[e,it],b≠s.heap.objs.size:=fun b hb=>by
   have e':b=e\/b=it:=by simpa using hb
   rcases e' with z|z
   ·rw[z];exact uS (uv he)
   ·rw[z];obtain⟨o,q,_⟩:=hit;exact uS (uv q)
  have hn:∀b∈[e,it],upd H s.heap.objs.size (.tup [.int i,x]) b=none:=fun b hb=>by rw[zi (hlt b hb)];exact(hf b hb).1
  have hf1:∀b∈[e,it],FpOk X pins (upd H s.heap.objs.size (.tup [.int i,x])) b:=fun b hb=>⟨hn b hb,(hf b hb).2⟩
  refine⟨_,rfl,wpAny_letOwnedTupleGo_enum (s:={ s with heap:=h',toks:=tk+1 }) ho fun h'' he' hs'=>?_⟩
  have I2:Inv X pins σ (upd H s.heap.objs.size (.tup [.int i,x])) { s with heap:=h'',toks:=tk+1 }:=Inv.turns (s:={ s with heap:=h',toks:=tk+1 }) (t':=tk+1) (ch:=[e,it]) I1 (fun b o hb q=>(hs'.2 b fun z=>hb (by simp[z])).trans q) hf1
  refine⟨.ref s.heap.objs.size,_,I2,rfl,⟨_,x,rfl,I.fresh,rfl,fun ys hy=>?_⟩,⟨⟨u',?_⟩,let ⟨o,ho,r⟩:=hit';⟨o,(hs'.2 it hne.symm).trans ho,r⟩⟩,hn⟩
  ·rw[I.tuple_inj hy hq];exact hx
  ·have e1:(((i+1:Nat)):Int)=(i:Int)+1:=by lia
   rw[e1]
   exact he'
 done:=by
  intro X hP hw hK hc i pins s σ H E I hf st hg
  subst hP hw hK
  obtain⟨xs,hq,hx⟩:=hg
  obtain⟨its,rv,p,hz⟩:=I.tuple hq
  have hl:=rv.length
  obtain⟨⟨old,he⟩,hit⟩:=st
  have ei:i=its.toArray.size:=by simp;lia
  subst ei
  exact wpAny_pyNext_enum_endD (wV (A:=X.A.in1) (I.ok.hd hc) hia its.toArray) he ⟨hit,p⟩ fun h' eb=>⟨rfl,I.turns (t':=s.toks) (ch:=[e,it]) (fun b o hb q=>eb b o (fun z=>hb (by simp[z])) q) hf⟩
 self:=fun _ _ _ _ _ st h=>by
  obtain⟨⟨old,he⟩,_⟩:=st
  exact wpAny_pyIter_enum he h
section
variable{X:Cx}{elts:List Expr}{k:Nat}{tpos:Pos}
def Jo(K:ub)(ta:TA):TI:=fun σ H R=>ta σ H fun vs H1=>∃a,vs=[.ref a]/\(∃xs,SqT K H1 a xs)/\R (IteT K a) H1
theorem Jp{a:Expr}{ta:TA}{p pos:Pos}(hg:Gl X "enumerate")(hm:X.mg "enumerate"=none)(ha:PA X [a] ta)(hs:starEach [a] X.env=[(false,eval a X.env)]:=by rfl):PI X (.Tuple elts k tpos) (.Call (.Name "enumerate" p) [a] [] pos) (Jo X.K ta):=by
 intro pins s σ H R I h
 refine Call_ (yU I hg hm boot_enumerate (Ue (thn (ha pos pins s σ H _ I h) fun us s1 ⟨vs,H1,I1,r1,q1⟩=>?_) hs rfl))
 obtain⟨l,e,⟨xs,hq⟩,q⟩:=q1
 subst e
 obtain⟨u,rfl,rx⟩:=vo r1
 cases rx
 obtain⟨its,rv,pl,hz⟩:=I1.tuple hq
 have hlt:l < s1.heap.objs.size:=by obtain⟨o,e,_⟩:=pl;exact uv e
 refine xy pl fun h' hE hI hsz hk=>?_
 refine wpAny_pyIter_enum hE ?_
 refine⟨s1.heap.objs.size+1,[s1.heap.objs.size+1,s1.heap.objs.size],_,_,H1,rfl,I1.kept (t':=s1.toks) hk,YZ (a:=l) (Nat.succ_ne_self _) (Nat.ne_of_gt (Te hlt)) (uS hlt),⟨⟨_,hE⟩,hI⟩,fun b hb=>?_,q⟩
 have e:b=s1.heap.objs.size+1\/b=s1.heap.objs.size:=by simpa using hb
 rcases e with e|e
 ·subst e
  exact I1.fpOk (tj _) (I1.hok.fresh (tj _))
 ·subst e
  exact I1.fpOk (ud _) (I1.hok.fresh (ud _))
theorem Yb{a:Expr}{t:TA}{p pos:Pos}(hg:Gl X "enumerate")(hm:X.mg "enumerate"=none)(ha:jA X [a] t)(h:zw a=false:=by rfl):jI X (.Tuple elts k tpos) (.Call (.Name "enumerate" p) [a] [] pos) (Jo X.K t):=⟨Jp hg hm ha.out (zC h)⟩
end
theorem jz{K:ub}{a:Addr}{xs:List V}{g:TG}{tb:TS}{D:Ends}{σ:St}{H:Hp}(Pv:Nat->St->Hp->Prop)(h0:Pv 0 σ H)(hl:∀i σ H,i<=xs.length->Pv i σ H->SqT K H a xs)
  (hs:∀i x T σ H,xs[i]?=some x->H T=none->Pv i σ H->g (.ref T) σ (upd H T (.tup [.int (i:Nat),x])) fun σ2 H2=>tb { D with nx:=Pv (i+1),ct:=Pv (i+1),bk:=D.nx } σ2 H2) (hd:∀σ H,Pv xs.length σ H->D.nx σ H) :
  ∃W:Nat->Nat->St->Hp->Prop,(∃m,W 0 m σ H)/\∀i m σ H,W i m σ H ->
   ((IteT K a).stop i H/\D.nx σ H)\/((IteT K a).go i H/\∃N:St->Hp->Prop,(∀σ' H',N σ' H'->∃m',m' < m/\W (i+1) m' σ' H')/\∀x H',(IteT K a).yld i H x H'->g x σ H' fun σ2 H2=>tb { D with nx:=N,ct:=N,bk:=D.nx } σ2 H2):=by
 refine⟨fun i m σ H=>m=xs.length-i/\i<=xs.length/\Pv i σ H,⟨xs.length,by simp,uW _,h0⟩,?_⟩
 rintro i m σ H ⟨rfl,hi,p⟩
 have q:=hl i σ H hi p
 by_cases hlt:i < xs.length
 ·refine .inr ⟨⟨xs,xs[i],q,by simp[hlt]⟩,Pv (i+1),fun σ' H' p'=>⟨xs.length-(i+1),by lia,rfl,hlt,p'⟩,fun x H' y=>?_⟩
  obtain⟨T,v,rfl,hT,rfl,e⟩:=y
  exact hs i v T σ H (e xs q) hT p
 ·have e:i=xs.length:=by lia
  subst e
  exact .inl ⟨⟨xs,q,rfl⟩,hd σ H p⟩
end L2
namespace GN
open PySem L2 K11
mutual
def Bd.all:Bd->List Bd
 |.give x=>[.give x]
 |.lt x d b=>.lt x d b::b.all
 |.iff x a b=>.iff x a b::(a.all++b.all)
 |.case x as=>.case x as::as.all
def Arms.all:Arms->List Bd
 |.nil=>[]
 |.cons _ _ b r=>b.all++r.all
end
def pnd(l:List Bd):List Bd:=l.flatMap Bd.all
theorem Arms.all_ways:∀as:Arms,as.all=pnd (as.ways.map (·.2))
 |.nil=>by unfold Arms.all Arms.ways pnd;rfl
 |.cons t ns b r=>by
  unfold Arms.all Arms.ways pnd
  rw[uH,Um,Arms.all_ways r]
  rfl
theorem Bd.all_ways(b:Bd):b.all=b::pnd (b.ways.map (·.2)):=by
 cases b with
 |give x=>unfold Bd.all Bd.ways pnd;rfl
 |lt x d b=>rw[Bd.all];unfold Bd.ways pnd;simp
 |iff x a b=>rw[Bd.all];unfold Bd.ways pnd;simp
 |case x as=>rw[Bd.all,Arms.all_ways];rfl
theorem Zm(a b:List Bd):pnd (a++b)=pnd a++pnd b:=by unfold pnd;rw[Ud]
mutual
theorem Bd.all_len:∀b:Bd,b.all.length<=b.sz
 |.give x=>by unfold Bd.all Bd.sz;exact ud _
 |.lt x d b=>by unfold Bd.all Bd.sz;have:=Bd.all_len b;rw[ul];lia
 |.iff x a b=>by unfold Bd.all Bd.sz;have:=Bd.all_len a;have:=Bd.all_len b;rw[ul,uf];lia
 |.case x as=>by unfold Bd.all Bd.sz;have:=Arms.all_len as;rw[ul];lia
theorem Arms.all_len:∀a:Arms,a.all.length<=a.sz
 |.nil=>by unfold Arms.all Arms.sz;exact ud _
 |.cons t ns b r=>by unfold Arms.all Arms.sz;have:=Bd.all_len b;have:=Arms.all_len r;rw[uf];lia
end
def szs(l:List Bd):Nat:=(l.map Bd.sz).sum
theorem Zn:∀l:List Bd,l.length<=szs l
 |[]=>uW _
 |b::l=>by
  have h1:=Bd.sz_pos' b
  have h2:=Zn l
  unfold szs at h2 ⊢
  rw[uH,Uu,ul]
  lia
theorem XS(a b:List Bd):szs (a++b)=szs a+szs b:=by unfold szs;rw[ut,List.sum_append]
theorem Jq(b:Bd):szs (b.ways.map (·.2)) < b.sz:=by
 have:=Bd.wsz b
 unfold szs
 unfold wsz at this
 rw[tS]
 exact this
def IsBs(H:Hp)(l:List Bd)(ps:List Addr):Prop:=All2 (IsB H) l ps
theorem IsBs.keep{H H':Hp}{l:List Bd}{ps:List Addr}(h:IsBs H l ps)(t:Tups H H'):IsBs H' l ps:=All2.imp h fun _ _ e=>e.keep t
def mks(m:Nat):Bd->Bool
 |.lt _ (.app w _ xs) _=>decide (w="make") && decide (xs.length=m)
 |_=>false
def armA(x:Str)(w:List Str×Bd):Bool:=decide (w.1.length≠0) && (decide (w.2.mk [x]=0) && w.2.all.any (mks w.1.length))
def y9(x:Str)(as:Arms):Bool:=as.ways.any (armA x)
def jB:Sp:=fun vs H Q _=>∃(p:Addr)(b:Bd),vs=[.ref p]/\IsB H b p/\b.sz<=1000000/\∀H' r ps,Same H H'->H r=none->H' r=some (.lst (ps.map V.ref))->IsBs H' (b.ways.map (·.2)) ps->Q (.ref r) H'
def Jr:Sp:=fun vs H Q _=>∃(p:Addr)(b:Bd),vs=[.ref p]/\IsB H b p/\b.sz<=1000000/\∀H' r ps,Same H H'->H r=none->H' r=some (.lst (ps.map V.ref))->IsBs H' b.all ps->Q (.ref r) H'
def XT:Sp:=fun vs H Q _=>∃(p:Addr)(b:Bd)(m:Nat),vs=[.ref p,.int (m:Nat)]/\IsB H b p/\Q (.bl (mks m b)) H
def Js(T1 T2:Addr):Sp:=fun vs H Q _=>∃(x t:Str)(pa q r:Addr)(w:List Str×Bd),vs=[.str x,.ref pa]/\H pa=some (.tup [.str t,.ref q,.ref r])/\H q=some (.tup (w.1.map V.str))/\IsB H w.2 r/\w.2.sz<=400000/\Tbs T1 T2 H/\∀H',KM (MT T1 T2) H H'->Tbs T1 T2 H'->Q (.bl (armA x w)) H'
def Jt(T1 T2:Addr):Sp:=fun vs H Q _=>∃(p:Addr)(x:Str)(as:Arms),vs=[.ref p]/\IsB H (.case x as) p/\as.sz<=300000/\Tbs T1 T2 H/\∀H',KM (MT T1 T2) H H'->Tbs T1 T2 H'->Q (.bl (y9 x as)) H'
theorem Tbs.noT{T1 T2:Addr}{H:Hp}(h:Tbs T1 T2 H){b:Addr}{u:HO}(e:H b=some u)(n:∀ps,u≠.tbl ps):¬ MT T1 T2 b:=by
 rintro(z|z)
 ·obtain⟨ps,q,_⟩:=h.t1
  rw[z,q]at e
  exact n _ (uO.inj e).symm
 ·obtain⟨ps,q,_⟩:=h.t2
  rw[z,q]at e
  exact n _ (uO.inj e).symm
theorem Tbs.lst{T1 T2:Addr}{H H':Hp}(h:Tbs T1 T2 H)(k:KM (MT T1 T2) H H'){b:Addr}{xs:List V}(e:H b=some (.lst xs)):H' b=some (.lst xs):=k b _ (h.noT e (by intro _ z;cases z)) e
theorem Tbs.tups{T1 T2:Addr}{H H':Hp}(h:Tbs T1 T2 H)(k:KM (MT T1 T2) H H'):Tups H H':=fun b xs e=>k b _ (h.noT e (by intro _ z;cases z)) e
section
variable{P:Program}{w:World}{K:ub}{mg:Str->Option Value}{base:Heap}{f:Addr}{fd:FuncData}
theorem WC:FnScope ["body"] ["body"] (zo yX):=.ok
theorem WD:(["body","way"]:List Str).Nodup:=by decide +kernel
theorem Y0(F:Fun K "bodies_within" "bodies_within" yX f fd)(GW:Ca P w K mg base CX0 1 "ways_on" ["body"] YU):FnOk P w K mg base CX0 2 f fd ["body"] jB:=by
 refine F.by WC (fun vs H Q E h=>?_) (fun cdv A outer s H vs Q E hr h=>?_)
 ·obtain⟨p,b,rfl,_⟩:=h
  rfl
 obtain⟨p,b,rfl,hb,hz,q⟩:=h
 refine⟨_,(zh (zq (yp ["way"] rfl (zG (cA GW hr (jA1 (jv 0)))) (fun _ _ _ _ _=>(gN 1 WD)) (fun _ _ _ _ _=>zT) (fun _ _ _ _ _=>(zP (z9 K) (jv 1) zj (fun _ _=>rfl)))))),?_⟩
 have sl:=zF
 refine⟨_,rfl,p,b,rfl,hb,hz,fun H1 wl ps s1 hwl hwl1 hy=>?_⟩
 have yl:=hy.len
 have wl1:=vM b.ways
 have wl2:=Bd.wsz b
 refine⟨wl,rfl,⟨_,SqL.of hwl1⟩,zY (xs:=ps.map V.ref) (fun j τ ys H'=>H1=H'/\(∃v,τ=[some (.ref p),v])/\∃rs:List Addr,ys=rs.map V.ref/\IsBs H1 ((b.ways.take j).map (·.2)) rs) ⟨rfl,⟨none,rfl⟩,[],rfl,.nil⟩ (fun j τ ys H' _ h=>SqL.of (h.1 ▸ hwl1)) ?_ ?_⟩
 ·rintro j v τ ys H2 hv ⟨rfl,⟨v',rfl⟩,rs,rfl,hk⟩
  rw[ue]at hv
  obtain⟨pw,hpw,rfl⟩:=uh.mp hv
  obtain⟨xs,b',q1,r1,e1,e2,e3,e4⟩:=hy.get hpw
  have kl:=All2.len hk
  rw[ua,uN]at kl
  refine⟨_,rfl,ixT e2 aI1 ⟨by have:=(uc.mp e1).1;rw[ua];lia,rfl,⟨_,rfl⟩,rs++[r1],by simp,?_⟩⟩
  rw[uw,e1]
  show IsBs _ (((b.ways.take j)++[(xs,b')]).map (·.2)) _
  rw[ut]
  exact All2.app hk (.cons e4 .nil)
 rintro τ ys H2 ⟨rfl,_,rs,rfl,hk⟩ l hl
 rw[ua,<- yl,uk (ud _)]at hk
 exact q _ l rs (s1.new hl) (s1.free hl) upd_same (hk.keep (.of (zn hl _)))
theorem scBIn:FnScope ["body","found","left","one","within"] ["body"] (zo wD):=.ok
theorem zcw(F:Fun K "bodies_in" "bodies_in" wD f fd)(GW:Ca P w K mg base CX0 2 "bodies_within" ["body"] jB)(m_len:mg "len"=none)(m_reversed:mg "reversed"=none):FnOk P w K mg base CX0 3 f fd ["body"] Jr:=by
 refine F.by scBIn (fun vs H Q E h=>?_) (fun cdv A outer s H vs Q E hr h=>?_)
 ·obtain⟨p,b,rfl,_⟩:=h
  rfl
 obtain⟨p,b,rfl,hb,hz,q⟩:=h
 refine⟨_,
  (zg (sE 1 scBIn.nd (zB zE))
  (zg (sE 2 scBIn.nd (zB (jA1 (jv 0))))
  (zg (vt PassesOwn.never (tN jo (jL m_len (jv 2)) zj)
   (zg (sE 3 scBIn.nd (YA uz PySem.F.slot_list_pop PySem.F.type_list_pop Vj (jv 2)))
   (zg (zD (yu uz uI uJ zH (jv 1) (jA1 (jv 3))))
   (zh (zK PassesOwn.never rfl (zb4 rfl m_reversed (jA1 (cA GW hr (jA1 (jv 3))))) (gN 4 scBIn.nd)
    (zh (zD (yu uz uI uJ zH (jv 2) (jA1 (jv 4))))))))))
  (zh (zq (jv 1)))))),?_⟩
 have sl:=zF
 refine⟨sN0,fun fo h0=>⟨_,rfl,sN1,fun lf h2=>?_⟩⟩
 have s1:=zn (o:=.lst []) h0
 have flf:H lf=none:=s1.free h2
 have s2:=s1.new (o:=.lst [.ref p]) h2
 have nfl:fo≠lf:=zk (upd_same (H:=H) (a:=fo) (o:=.lst [])) h2
 refine⟨fun m σ H'=>∃(stk acc:List Bd)(ps qs:List Addr)(x y:Option V),m=szs stk/\σ=[some (.ref p),some (.ref fo),some (.ref lf),x,y]/\Same H H'/\H' lf=some (.lst (ps.reverse.map V.ref))/\IsBs H' stk ps/\H' fo=some (.lst (qs.map V.ref))/\IsBs H' acc qs/\acc++pnd stk=b.all/\szs stk<=1000000,
  ⟨_,[b],[],[p],[],none,none,rfl,rfl,s2,upd_same,.cons (hb.keep (.of s2)) .nil,old h2 upd_same,.nil,by unfold pnd;simp,by unfold szs;simpa using hz⟩,?_⟩
 have bl:=Bd.all_len b
 rintro m σ H3 ⟨stk,acc,ps,qs,x,y,rfl,rfl,sm,hl,hy,hf,ha,ho,hwz⟩
 refine⟨_,rfl,_,_,rfl,.inl (SqL.of hl),_,_,rfl,rfl,_,rfl,?_⟩
 cases hy with
 |nil =>
  refine iteF ⟨_,rfl,q _ fo qs sm h0 hf ?_⟩
  rw[show acc++pnd []=acc from ux _]at ho
  rw[<- ho]
  exact ha
 |@cons b1 pp l ps hb1 hy =>
  have hne:decide ((0:Int) < ((((pp::ps).reverse.map V.ref).length:Nat):Int))=true:=by
   rw[decide_eq_true_eq,ua,Uj,ul]
   lia
  rw[hne]
  refine iteT ⟨_,fun _ _ h=>h,?_⟩
  have e1:(pp::ps).reverse.map V.ref=ps.reverse.map V.ref++[.ref pp]:=by simp
  have e2:((pp::ps).reverse.map V.ref)[((pp::ps).reverse.map V.ref).length-1]?=some (.ref pp):=by rw[e1];simp
  have e3:((pp::ps).reverse.map V.ref).dropLast=ps.reverse.map V.ref:=by rw[e1];simp
  refine⟨_,rfl,.inl ⟨rfl,_,SqL.of hl⟩,lf,_,_,rfl,rfl,hl,e2,?_⟩
  rw[e3]
  have t4:Tups H3 (upd H3 lf (.lst (ps.reverse.map V.ref))):=fun b xs z=>by rw[zi (yN z hl (by intro z;cases z))];exact z
  have s4:=sm.put (o:=.lst (ps.reverse.map V.ref)) flf
  have hl4:=upd_same (H:=H3) (a:=lf) (o:=.lst (ps.reverse.map V.ref))
  have hf4:upd H3 lf (.lst (ps.reverse.map V.ref)) fo=some (.lst (qs.map V.ref)):=by rw[zi nfl];exact hf
  replace hb1:=hb1.keep t4
  replace hy:IsBs _ l ps:=IsBs.keep hy t4
  replace ha:=ha.keep t4
  generalize upd H3 lf (.lst (ps.reverse.map V.ref))=H4 at *
  have hpd:pnd (b1::l)=b1::(pnd (b1.ways.map (·.2))++pnd l):=by unfold pnd;rw[Um,Bd.all_ways];rfl
  rw[hpd]at ho
  have hol:=congrArg Tb ho
  rw[uf,ul]at hol
  have hwc:szs (b1::l)=b1.sz+szs l:=by unfold szs;rw[uH,Uu]
  rw[hwc]at hwz
  have aql:=All2.len ha
  have hyl:=All2.len hy
  have hll:=Zn l
  have wsz1:=Jq b1
  have wsz2:=Zn (b1.ways.map (·.2))
  refine⟨_,rfl,.inl ⟨rfl,_,SqL.of hf4⟩,_,rfl,fo,_,_,rfl,rfl,hf4,by rw[ua];lia,?_⟩
  have t5:Tups H4 (upd H4 fo (.lst (qs.map V.ref++[.ref pp]))):=fun b xs z=>by rw[zi (yN z hf4 (by intro z;cases z))];exact z
  have s5:=s4.put (o:=.lst (qs.map V.ref++[.ref pp])) h0
  have hf5:=upd_same (H:=H4) (a:=fo) (o:=.lst (qs.map V.ref++[.ref pp]))
  have hl5:upd H4 fo (.lst (qs.map V.ref++[.ref pp])) lf=some (.lst (ps.reverse.map V.ref)):=by rw[zi nfl.symm];exact hl4
  have ha5:IsBs (upd H4 fo (.lst (qs.map V.ref++[.ref pp]))) (acc++[b1]) (qs++[pp]):=All2.app (ha.keep t5) (.cons (hb1.keep t5) .nil)
  replace hb1:=hb1.keep t5
  replace hy:=hy.keep t5
  generalize upd H4 fo (.lst (qs.map V.ref++[.ref pp]))=H5 at *
  refine⟨_,rfl,pp,b1,rfl,hb1,by lia,fun H6 rl rs s6 f6 hrl hyw=>?_⟩
  have hywl:=All2.len hyw
  have nlr:lf≠rl:=zk hl5 f6
  refine⟨rl,_,rfl,SqL.of hrl,QI (xs:=rs.map V.ref) (fun i σ H'=>Same H H'/\Tups H6 H'/\H' rl=some (.lst (rs.map V.ref))/\H' lf=some (.lst ((ps.reverse++rs.reverse.take i).map V.ref))/\H' fo=some (.lst (qs.map V.ref++[.ref pp]))/\∃z,σ=[some (.ref p),some (.ref fo),some (.ref lf),some (.ref pp),z]) ⟨s5.trans s6,fun _ _ h=>h,hrl,by rw[List.take_zero,ux];exact s6 _ _ hl5,s6 _ _ hf5,_,rfl⟩ (fun i σ H' _ h=>SqL.of h.2.2.1) ?_ ?_⟩
  ·rintro i v σ H7 hv ⟨s7,t7,hr7,hl7,hf7,z,rfl⟩
   rw[<- List.map_reverse,ue]at hv
   obtain⟨t,ht,rfl⟩:=uh.mp hv
   have hi:i < rs.length:=by
    have:=(uc.mp ht).1
    rw[Uj]at this
    exact this
   refine⟨_,rfl,.inl ⟨rfl,_,SqL.of hl7⟩,_,rfl,lf,_,_,rfl,rfl,hl7,?_,s7.put flf,fun b xs z=>?_,?_,?_,?_,_,rfl⟩
   ·rw[ua,uf,Uj,uN]
    lia
   ·rw[zi (yN (t7 _ _ z) hl7 (by intro e;cases e))]
    exact t7 _ _ z
   ·rw[zi nlr.symm]
    exact hr7
   ·rw[upd_same,uw,ht]
    simp
   ·rw[zi nfl]
    exact hf7
  rintro σ H7 ⟨s7,t7,hr7,hl7,hf7,z,rfl⟩
  rw[ua,<- Uj,uk (ud _),<- List.reverse_append]at hl7
  refine⟨szs (b1.ways.map (·.2)++l),?_,b1.ways.map (·.2)++l,acc++[b1],rs++ps,qs++[pp],_,_,rfl,rfl,s7,hl7,All2.app (hyw.keep t7) ((hy.keep (.of s6)).keep t7),by rw[hf7,ut];rfl,(ha5.keep (.of s6)).keep t7,?_,?_⟩
  ·rw[XS,hwc]
   lia
  ·rw[Zm,<- ho,Ur]
   rfl
  ·rw[XS]
   lia
theorem zal:FnScope ["body","many"] ["body","many"] (zo YG):=.ok
theorem Ju(F:Fun K "makes" "makes" YG f fd)(m_len:mg "len"=none):FnOk P w K mg base CX0 1 f fd ["body","many"] XT:=by
 refine F.by zal (fun vs H Q E h=>?_) (fun cdv A outer s H vs Q E hr h=>?_)
 ·obtain⟨p,b,m,rfl,_⟩:=h
  rfl
 obtain⟨p,b,m,rfl,hb,q⟩:=h
 refine⟨_,
  (zh (zq (Yz (xa zA (xT 0) zp (wy _)) (Yz (xa zA (zP zZ (xT 0) zj (fun _ _=>rfl)) zp (wy _)) (Vf (xa zA (jL m_len (zP zZ (xT 0) zj (fun _ _=>rfl))) (jv 1) (wy _))))))),?_⟩
 cases hb with
 |give hp=>exact⟨_,rfl,ixT hp aI0 ⟨rfl,_,rfl,ite2 aB (fun _=>q)⟩⟩
 |iff hp _ _=>exact⟨_,rfl,ixT hp aI0 ⟨rfl,_,rfl,ite2 aB (fun _=>q)⟩⟩
 |case hp _ _ _=>exact⟨_,rfl,ixT hp aI0 ⟨rfl,_,rfl,ite2 aB (fun _=>q)⟩⟩
 |@lt x d b _ p1 p2 hp hd hb =>
  refine⟨_,rfl,ixT hp aI0 ⟨rfl,_,rfl,ite2 (fun _=>?_) aB⟩⟩
  cases hd with
  |num h1=>exact⟨_,rfl,ixT hp aI2 (ixT h1 aI0 ⟨rfl,_,rfl,ite2 aB (fun _=>q)⟩)⟩
  |op h1=>exact⟨_,rfl,ixT hp aI2 (ixT h1 aI0 ⟨rfl,_,rfl,ite2 aB (fun _=>q)⟩)⟩
  |@app w0 g xs _ pq hw h1 h2 =>
   refine⟨_,rfl,ixT hp aI2 (ixT h1 aI0 ⟨rfl,_,rfl,ite2 (fun c=>?_) (fun c=>?_)⟩)⟩
   ·have e:w0="make":=V.str.inj (of_decide_eq_true c)
    refine⟨_,rfl,ixT hp aI2 (ixT h1 aI2 ⟨pq,_,rfl,.inr (SqT.of h2),_,rfl,rfl,?_⟩)⟩
    have e2:decide (V.int (((xs.map V.str).length:Nat):Int)=V.int (m:Nat))=mks m (.lt x (.app w0 g xs) b):=by
     show _=(decide (w0="make") && decide (xs.length=m))
     rw[decide_eq_true e,tG,ua]
     exact decide_eq_decide.mpr ⟨fun z=>by have:=V.int.inj z;lia,fun z=>by rw[z]⟩
    rw[e2]
    exact q
   ·have e:¬ w0="make":=fun e=>c (decide_eq_true (by rw[e]))
    have e2:mks m (.lt x (.app w0 g xs) b)=false:=by
     show(decide (w0="make") && decide (xs.length=m))=false
     rw[decide_eq_false e,Uy]
    rw[e2]at q
    exact q
theorem scArmA:FnScope ["name","arm","many"] ["name","arm"] (zo vH):=.ok
theorem zcx:(["name","arm","many","within"]:List Str).Nodup:=by decide +kernel
theorem zam{T1 T2:Addr}(F:Fun K "arm_uses_anew" "arm_uses_anew" vH f fd)(GA:Ca P w K mg base CX0 7 "ahead" ["body","names"] (XR T1 T2))(GI:Ca P w K mg base CX0 3 "bodies_in" ["body"] Jr)(GM:Ca P w K mg base CX0 1 "makes" ["body","many"] XT)(m_len:mg "len"=none)(m_any:mg "any"=none):FnOk P w K mg base CX0 8 f fd ["name","arm"] (Js T1 T2):=by
 refine F.by scArmA (fun vs H Q E h=>?_) (fun cdv A outer s H vs Q E hr h=>?_)
 ·obtain⟨x,t,pa,q,r,w,rfl,_⟩:=h
  rfl
 obtain⟨x,t,pa,pq,pr,⟨ns,b⟩,rfl,hpa,hpq,hb,hz,hT,q⟩:=h
 have hr3:Room 3 _:=hr.mono (by decide)
 have hr1:Room 1 _:=hr.mono (by decide)
 refine⟨_,
  (zg (sE 2 scArmA.nd (jL m_len (xT 1)))
  (zg (zy (jW.pt (xk (tN zA (jv 2) zj) (xb (tN ZH (cA GA hr (jA2 (xT 1) (zB (jA1 (jv 0))))) zj))))
   (zh (zq yt)) zt)
  (zh (zq (yJ (wj rfl) rfl m_any PyProof.Rows.boot_any (jA1 (yp ["within"] rfl (zG (cA GI hr3 (jA1 (xT 1)))) (fun _ _ _ _ _=>(gN 3 zcx)) (fun _ _ _ _ _=>zT) (fun _ _ _ _ _=>(cA GM hr1 (jA2 (jv 3) (jv 2))))))))))),?_⟩
 have sl:=zF
 have bl:=Bd.all_len b
 refine⟨_,rfl,ixT hpa aI1 ⟨pq,_,rfl,.inr (SqT.of hpq),?_⟩⟩
 refine⟨_,rfl,rfl,_,rfl,?_⟩
 rw[ua]
 refine ite2 (fun c=>?_) (fun c=>?_)
 ·have c:ns.length=0:=by have:=V.int.inj (of_decide_eq_true c);lia
  refine iteT ?_
  have e:armA x (ns,b)=false:=by show(decide (ns.length≠0) && _)=false;rw[decide_eq_false (by lia),Uy]
  rw[e]at q
  exact q H KM.refl hT
 have c:ns.length≠0:=fun z=>c (decide_eq_true (by rw[z];rfl))
 refine⟨_,rfl,ixT hpa aI2 ⟨_,rfl,sN1,fun l1 h1=>?_⟩⟩
 have s1:=zn (o:=.lst [.str x]) h1
 refine⟨pr,l1,b,[x],rfl,hb.keep (.of s1),hz,upd_same,by simp,by show 1<=1000;decide,hT.same s1,fun H2 k2 T2'=>⟨rfl,_,rfl,?_⟩⟩
 have k02:KM (MT T1 T2) H H2:=(KM.of s1).trans k2
 have tp:=hT.tups k02
 refine ite2 (fun c2=>?_) (fun c2=>?_)
 ·have c2:b.mk [x]≠0:=fun z=>by rw[z]at c2;exact absurd c2 (by decide)
  have e:armA x (ns,b)=false:=by show(decide (ns.length≠0) && (decide (b.mk [x]=0) && _))=false;rw[decide_eq_false c2,Uy,Bool.and_false]
  rw[e]at q
  exact q H2 k02 T2'
 have c2:b.mk [x]=0:=by
  by_cases z:b.mk [x]=0
  ·exact z
  ·refine absurd ?_ c2
   show(!decide (V.int ((b.mk [x]:Nat):Int)=V.int 0))=true
   rw[decide_eq_false (fun y=>z (by have:=V.int.inj y;lia))]
   rfl
 refine⟨_,rfl,ixT (tp _ _ hpa) aI2 ⟨pr,b,rfl,hb.keep tp,by lia,fun H3 r3 ps s3 hr3' hr3 hbs=>?_⟩⟩
 have al:=All2.len hbs
 refine⟨r3,rfl,⟨_,SqL.of hr3⟩,zY (xs:=ps.map V.ref) (fun j τ ys H'=>H3=H'/\(∃v,τ=[some (.str x),some (.ref pa),some (.int (ns.length:Nat)),v])/\ys=((b.all.take j).map (mks ns.length)).map V.bl) ⟨rfl,⟨none,rfl⟩,rfl⟩ (fun j τ ys H' _ h=>SqL.of (h.1 ▸ hr3)) ?_ ?_⟩
 ·rintro j v τ ys H4 hv ⟨rfl,⟨v',rfl⟩,rfl⟩
  rw[ue]at hv
  obtain⟨pw,hpw,rfl⟩:=uh.mp hv
  obtain⟨b1,e1,e2⟩:=All2.get hbs hpw
  refine⟨_,rfl,_,rfl,pw,b1,ns.length,rfl,e2,by rw[ua,ua,uN];have:=(uc.mp e1).1;lia,rfl,⟨_,rfl⟩,?_⟩
  rw[uw,e1]
  simp
 rintro τ ys H4 ⟨rfl,_,rfl⟩ l4 h4
 rw[ua,<- al,uk (ud _)]
 have s4:=s3.new (o:=.lst ((b.all.map (mks ns.length)).map V.bl)) h4
 refine⟨l4,_,rfl,SqL.of upd_same,?_⟩
 have e:(b.all.map (mks ns.length)).any id=armA x (ns,b):=by
  show _=(decide (ns.length≠0) && (decide (b.mk [x]=0) && b.all.any (mks ns.length)))
  rw[decide_eq_true c,decide_eq_true c2,tG,tG,List.any_map]
  rfl
 rw[show(b.all.map (mks ns.length)).any _root_.id=armA x (ns,b)from e]
 exact q _ (k02.trans (.of s4)) (T2'.same s4)
theorem zcy:FnScope ["body"] ["body"] (zo wG):=.ok
theorem zcz:(["body","arm"]:List Str).Nodup:=by decide +kernel
theorem wn:∀{as:Arms}{i:Nat}{ns:List Str}{b:Bd},as.ways[i]?=some (ns,b)->b.sz<=as.sz
 |.nil,i,ns,b,h=>by unfold Arms.ways at h;simp at h
 |.cons t n c r,0,ns,b,h=>by
  unfold Arms.ways at h
  simp at h
  rw[Arms.sz,<- h.2]
  lia
 |.cons t n c r,i+1,ns,b,h=>by
  unfold Arms.ways at h
  have:=wn (as:=r) (i:=i) (by simpa using h)
  rw[Arms.sz]
  lia
theorem zan{T1 T2:Addr}(F:Fun K "uses_anew" "uses_anew" wG f fd)(GA:Ca P w K mg base CX0 8 "arm_uses_anew" ["name","arm"] (Js T1 T2))(m_any:mg "any"=none):FnOk P w K mg base CX0 9 f fd ["body"] (Jt T1 T2):=by
 refine F.by zcy (fun vs H Q E h=>?_) (fun cdv A outer s H vs Q E hr h=>?_)
 ·obtain⟨p,x,as,rfl,_⟩:=h
  rfl
 obtain⟨p,x,as,rfl,hb,hz,hT,q⟩:=h
 refine⟨_,
  (zh (zq (yJ (wj rfl) rfl m_any PyProof.Rows.boot_any (jA1 (yp ["arm"] rfl (yW (xT 0)) (fun _ _ _ _ _=>(gN 1 zcz)) (fun _ _ _ _ _=>zT) (fun _ _ _ _ _=>(cA GA hr (jA2 (zP (z9 K) (jv 0) zj (fun _ _=>rfl)) (jv 1))))))))),?_⟩
 have sl:=zF
 cases hb with
 |@case x as ps _ p1 hp hp1 hl0 hA =>
 have al:=hA.len
 have az:=Zj as
 refine⟨_,rfl,ixT hp aI2 ⟨p1,rfl,⟨_,SqT.of hp1⟩,Vu (xs:=ps.map V.ref) (fun j τ ys H'=>KM (MT T1 T2) H H'/\Tbs T1 T2 H'/\(∃v,τ=[some (.ref p),v])/\ys=((as.ways.take j).map (armA x)).map V.bl) ⟨KM.refl,hT,⟨none,rfl⟩,rfl⟩ (fun j τ ys H' _ h=>SqT.of (hT.tups h.1 _ _ hp1)) ?_ ?_⟩⟩
 ·rintro j v τ ys H1 hv ⟨k1,T1',⟨v',rfl⟩,rfl⟩
  rw[ue]at hv
  obtain⟨pa,hpa,rfl⟩:=uh.mp hv
  obtain⟨t,q1,r1,ns,b,e1,e2,e3,e4⟩:=hA.get hpa
  have tp:=hT.tups k1
  have:=wn e1
  refine⟨_,rfl,ixT (tp _ _ hp) aI1 ⟨_,rfl,x,t,pa,q1,r1,(ns,b),rfl,tp _ _ e2,tp _ _ e3,e4.keep tp,by show b.sz<=_;lia,T1',fun H2 k2 T2'=>⟨?_,k1.trans k2,T2',⟨_,rfl⟩,?_⟩⟩⟩
  ·rw[ua,ua,uN]
   have:=(uc.mp e1).1
   lia
  ·rw[uw,e1]
   simp
 rintro τ ys H1 ⟨k1,T1',_,rfl⟩ l hl
 rw[ua,<- al,uk (ud _)]
 refine⟨l,_,rfl,SqL.of upd_same,?_⟩
 rw[show(as.ways.map (armA x)).any _root_.id=y9 x as by unfold y9;rw[List.any_map];rfl]
 exact q _ (k1.new hl) (T1'.same (zn hl _))
end
end GN
namespace L2
open PySem PySem.Spec PyProof.Rows
section
variable{prog:Program}{w:World}{K:Type}[DecidableEq K]{knd:HeapKind prog w K}{A:Around}{E:Value->Shared->Prop}{s:Shared}
theorem yR{d a:Addr}{xs:List (K×Addr×Value)}{k:K}{v:Value}{Q:Value->Shared->Prop}(hu:knd.room A)(hkey:knd.is s.heap k a)(hm:s.heap.DictOfH knd d xs)
  (h1:∀p,atKey xs k=some p->Q p.2 { s with toks:=s.toks+knd.draws k })
  (h2:atKey xs k=none->∀h',h'.DictOfH knd d (storedH xs k a v)->Heap.SameBut d s.heap h'->Q v { s with heap:=h',toks:=s.toks+knd.draws k })
  (hsz:xs.length<=sizeLine) :
  wpAny (model prog w) A (dictSetDefault d (.ref a) v) Q E s:=by
 obtain⟨o,es,ep,ho,hc,hd,he,his,hn⟩:=hm
 unfold dictSetDefault
 try with_reducible refine wpAny_holding ?_
 refine wpAny_bind (knd.pyHash hu hkey ?_)
 refine wpAny_bind (wpAny_dictFind_heap (s:={ s with toks:=s.toks+knd.draws k }) hu hkey ho hd he his hn ?_ ?_)
 ·intro hno
  have hnot:k∉xs.map (·.1):=not_mem_keys_of_get hno
  refine wpAny_bind (wpAny_rule (wpAny_bind (wpAny_updateDictKeys (hz:=by have e:=size_of_entries he;lia) (s:={ s with toks:=s.toks+knd.draws k }) ho hd (wpAny_pure (h2 (atKey_none_of_get hno) _ ⟨_,_,ep+1,UF _ ho (Obj.isFreed_of_dict (Obj.data_mapDictKeys hd _)),
   hc.mapDictKeys _,Obj.data_mapDictKeys hd _,?_,?_,?_⟩ (Heap.SameBut.update ..))))))
  ·rw[storedH_new (atKey_none_of_get hno)]
   simp[he,entryOfKey]
  ·rw[storedH_new (atKey_none_of_get hno)]
   intro x hx
   rcases uE.mp hx with hx|hx
   ·exact knd.keeps (his x hx) ho hd (Heap.SameBut.update ..)
   ·simp only[uj]at hx
    subst hx
    exact knd.keeps hkey ho hd (Heap.SameBut.update ..)
  ·rw[storedH_new (atKey_none_of_get hno)]
   rw[ut,tO]
   refine⟨hn,by simp,?_⟩
   intro x hx y hy
   simp only[uH,List.map_nil,uj]at hy
   subst hy
   exact fun e=>hnot (e ▸ hx)
 ·intro j p hj
  refine wpAny_bind (wpAny_dictEntries (s:={ s with toks:=s.toks+knd.draws k }) ho hd ?_)
  rw[entry_at he j,hj]
  exact wpAny_bind (wpAny_rule (wpAny_pure (h1 p (atKey_of_get hn hj))))
theorem wo{d a:Addr}(hd:(d == sysModules)=false)(dflt:Value):
  MeetsIn prog w (Builtin.«dict.setdefault» ⟨[.ref d,.ref a,dflt],[]⟩) (fun A R s=>knd.room A.in1/\∃k xs,knd.is s.heap k a/\s.heap.DictOfH knd d xs/\xs.length<=sizeLine /\
   (∀p,atKey xs k=some p->R (.ok (.ret p.2)) { s with toks:=s.toks+knd.draws k }) /\
   (atKey xs k=none->∀h',h'.DictOfH knd d (storedH xs k a dflt)->Heap.SameBut d s.heap h'->R (.ok (.ret dflt)) { s with heap:=h',toks:=s.toks+knd.draws k })) :=
 .of_wp fun A R s hh=>by
  obtain⟨hu,k,xs,hkey,hm,hz,h1,h2⟩:=hh
  unfold Builtin.«dict.setdefault»
  refine wpAny_bind ?_
  unfold Builtin.Dict.keyAndDefault
  refine wpAny_bind (wpAny_notOrdered_dict hm.typeIs ?_)
  show wpAny _ _ (pure (d,Value.ref a,some dflt)) _ _ s
  refine wpAny_pure ?_
  show wpAny _ _ (if(d == sysModules)=true then _ else(dictSetDefault d (.ref a) dflt >>= _)) _ _ s
  rw[if_neg (by rw[hd];exact uu)]
  exact wpAny_bind (yR hu hkey hm (fun p hp=>wpAny_pure ⟨p.2,rfl,h1 p hp⟩) (fun hn h' hm' hs'=>wpAny_pure ⟨dflt,rfl,h2 hn h' hm' hs'⟩) hz)
end
def Jv(td ty tx:TE):TE:=fun σ H Q=>td σ H fun x H1=>∃a,x=.ref a/\IsD H1 a/\ty σ H1 fun y H2=>tx σ H2 fun z H3=>∃kvs k b,H3 a=some (.dT kvs)/\y=.ref b/\H3 b=some (.tup (k.map kV))/\kvs.length < sizeLine/\(∀v,valV kvs k=some v->Q v H3)/\(valV kvs k=none->Q z (upd H3 a (.dT (putK kvs k z))))
section
variable{X:Cx}{o e f:Expr}{td ty tx:TE}{apos cpos:Pos}{k:Nat}
theorem Jw(hu:X.A.units+1 < cLine)(ho:PE X o td)(he:PE X e ty)(hf:PE X f tx)(m:M2 X o "setdefault" apos e f cpos):PE X (.Call (.Attribute o "setdefault" apos) [e,f] [] cpos) (Jv td ty tx):=by
 intro pins s σ H Q I h
 refine wpAny_Call_method m.base m.few m.line PySem.F.plainAttrs_dict PySem.F.slot_dict_setdefault PySem.F.type_dict_setdefault (thn (ho pins s σ H _ I h) fun u s1 ⟨x,H1,I1,rx,a,ex,d,q1⟩=>?_)
 subst ex
 obtain rfl:u=Value.ref a:=rx
 obtain⟨t1,t2,_⟩:=VB I1 d
 refine⟨t1,t2,?_⟩
 rw[m.trees]
 refine Calls.callWith_builtin rfl (Calls.evalArgs_plain (Calls.spliced_cons (thn (he pins s1 σ H1 _ I1 q1) fun iv s2 ⟨y,H2,I2,ry,q2⟩ =>
  Calls.spliced_cons (thn (hf pins s2 σ H2 _ I2 q2) fun fv s3 ⟨z,H3,I3,rz,kvs,k,b,e1,ey,eb,l,q3,q4⟩=>Calls.spliced_nil ?_))))
 subst ey
 cases(show iv=Value.ref b from ry)
 obtain⟨zz,hd,xs,rel,dd⟩:=zbb I3.hok e1
 have hz:xs.length<=sizeLine:=by rw[<- Paired.length rel];exact zz
 have hl:(putK kvs k z).length<=sizeLine:=by have:=yb kvs k z;lia
 refine call_meetsIn PySem.F.slot_dict_setdefault dd.typeIs PySem.F.entry_dict_setdefault (PySem.F.args_dict_setdefault_3 _ _ _) (wo (knd:=tupleKind (z6 X.prog X.w)) hd fv) ⟨tupleKind_room_in1 hu,k,xs,xM I3.hok eb,dd,hz,fun p hp=>?_,fun hn h' dd' hs=>?_⟩
 ·have rv:=rel.val k
  rw[hp]at rv
  cases hv:valV kvs k with
  |none=>rw[hv]at rv;exact False.elim rv
  |some v =>
   rw[hv]at rv
   exact⟨v,H3,I3.tok _,rv,q3 v hv⟩
 ·have rv:=rel.val k
  rw[hn]at rv
  cases hv:valV kvs k with
  |some v=>rw[hv]at rv;exact False.elim rv
  |none =>
   obtain⟨q,es,ep,hq,h2,h3,h4,_,h5⟩:=dd'
   refine⟨z,upd H3 a (.dT (putK kvs k z)),j6 (ob:=.dT (putK kvs k z)) I3 (by rw[e1];exact True.intro) hs ⟨q,hq⟩ ⟨hl,hd,_,(rel.put k eb rz).keeps fun c ys ec=>?_,q,es,ep,hq,h2,h3,h4,h5⟩,rz,q4 hv⟩
   rw[zi (yN ec e1 (by intro z;cases z))]
   exact ec
theorem Jx(hr:Room k X.A)(ho:jE X o td)(he:jE X e ty)(hf:jE X f tx)(m:M2 X o "setdefault" apos e f cpos:=by exact⟨rfl,rfl,rfl,rfl⟩):jE X (.Call (.Attribute o "setdefault" apos) [e,f] [] cpos) (Jv td ty tx):=⟨Jw (ZD hr) ho.out he.out hf.out m⟩
end
section
variable{X:Cx}{k:Nat}{o e f i:Expr}{td ty tx:TE}{apos cpos pos:Pos}
theorem Zo(hr:Room k X.A)(hi:jE X i ty)(ho:jE X o td)(h1:behindInMarks .In o=false:=by rfl):jT X (.Compare i [.In] [o] pos) (tB (tDIn ty td)):=⟨WP (zb6 (ZD hr) hi.out ho.out) (h1:=h1)⟩
theorem WE(hr:Room k X.A)(hi:jE X i ty)(ho:jE X o td)(h1:behindInMarks .NotIn o=false:=by rfl):jT X (.Compare i [.NotIn] [o] pos) (tB (Xw ty td)):=⟨WP (Wl (ZD hr) hi.out ho.out) (h1:=h1)⟩
end
end L2
namespace L2
open PySem
theorem vT{X:Cx}{pos:Pos}:jE X (.Dict [] [] pos) Vy:=⟨VA⟩
end L2
namespace GN
open PySem L2 K11
def pixR:List Str->Str->Option Nat
 |[],_=>none
 |y::r,x=>if y=x then some r.length else pixR r x
def pix(ns:List Str)(x:Str):Option Nat:=pixR ns.reverse x
theorem Jy(l:List Str)(x y:Str):pix (l++[y]) x=if y=x then some l.length else pix l x:=by
 unfold pix
 rw[List.reverse_append,List.reverse_singleton]
 show(if y=x then some l.reverse.length else pixR l.reverse x)=_
 rw[Uj]
theorem XU:∀{l:List Str}{x:Str}{k:Nat},pixR l x=some k->k < l.length
 |y::r,x,k,h=>by
  unfold pixR at h
  split at h
  ·cases h;exact tR _
  ·exact Te (XU h)
theorem zcA{l:List Str}{x:Str}{k:Nat}(h:pix l x=some k):k < l.length:=by
 have:=XU h
 rwa [Uj]at this
structure US where
 hd:Str->Bool
 F:Str->Nat->Option Str
 C:Str->Nat->List (Str×Nat)
def US0:US:=⟨fun _=>false,fun _ _=>none,fun _ _=>[]⟩
def addR(z:Str)(ns:List Str)(r:Str)(st:US)(x:Str):US:=match pix ns x with
 |none=>st
 |some k=>{ st with F:=fun z' k'=>if z'=z/\k'=k then some r else st.F z' k' }
def addC1(z:Str)(ns:List Str)(g:Str)(j:Nat)(st:US)(x:Str):US:=match pix ns x with
 |none=>st
 |some k=>{ st with C:=fun z' k'=>if z'=g/\k'=j then st.C z' k'++[(z,k)]else st.C z' k' }
def addC(z:Str)(ns:List Str)(g:Str)(st:US)(xs:List Str):US:=xs.zipIdx.foldl (fun st p=>addC1 z ns g p.2 st p.1) st
abbrev kz(z:Str)(k:Nat):List Key:=[.inr z,.inl ((k:Nat):Int)]
theorem kz_inj{z z':Str}{k k':Nat}:kz z k=kz z' k'↔z=z'/\k=k':=by
 unfold kz
 constructor
 ·intro h
  injection h with h1 h2
  injection h2 with h2 _
  refine⟨Sum.inr.inj h1,?_⟩
  have:=Sum.inl.inj h2
  lia
 ·rintro⟨rfl,rfl⟩;rfl
def PairsAt(H:Hp)(l:List (Str×Nat))(ts:List Addr):Prop:=All2 (fun(e:Str×Nat) t=>H t=some (.tup [.str e.1,.int ((e.2:Nat):Int)])) l ts
theorem PairsAt.keep{H H':Hp}{l:List (Str×Nat)}{ts:List Addr}(h:PairsAt H l ts)(t:Tups H H'):PairsAt H' l ts:=All2.imp h fun _ _ e=>t _ _ e
structure UO where
 u:Addr
 dx:Addr
 dh:Addr
 df:Addr
 dc:Addr
structure Un(K:ub)(cU:Addr):Prop where
 cl:Cls K cU
 b1:NoAttr K cU "handed"
 b2:NoAttr K cU "found"
 b3:NoAttr K cU "calls"
def zao(H:Hp)(L:Addr->Prop)(kc:List (List Key×V))(C:Str->Nat->List (Str×Nat)):Prop:=∀z k,(valV kc (kz z k)=none/\C z k=[])\/∃l ts,valV kc (kz z k)=some (.ref l)/\L l/\H l=some (.lst (ts.map V.ref))/\PairsAt H (C z k) ts
structure IsU(cU T1 T2:Addr)(H:Hp)(o:UO)(L:Addr->Prop)(st:US)(n:Nat):Prop where
 ob:H o.u=some (.ins cU o.dx [("handed",.ref o.dh),("found",.ref o.df),("calls",.ref o.dc)])
 tb:Tbs T1 T2 H
 ne:o.df≠o.dc
 h:∃kh,H o.dh=some (.dK kh)/\kh.length<=n/\∀z,(valV kh (.inr z)).isSome=st.hd z
 f:∃kf,H o.df=some (.dT kf)/\kf.length<=n/\∀z k,valV kf (kz z k)=(st.F z k).map V.str
 c:∃kc,H o.dc=some (.dT kc)/\kc.length<=n/\(∀z k z' k' l,valV kc (kz z k)=some (.ref l)->valV kc (kz z' k')=some (.ref l)->z=z'/\k=k')/\zao H L kc st.C
 cl:∀z k,(st.C z k).length<=n
 ll:∀b,L b->∃xs,H b=some (.lst xs)
def Ow(T1 T2:Addr)(o:UO)(L:Addr->Prop)(b:Addr):Prop:=b=o.dh\/b=o.df\/b=o.dc\/L b\/MT T1 T2 b
def KU(T1 T2:Addr)(o:UO)(L:Addr->Prop)(H H':Hp):Prop:=KM (Ow T1 T2 o L) H H'
structure Gr(T1 T2:Addr)(o:UO)(H:Hp)(L:Addr->Prop)(H':Hp)(L':Addr->Prop):Prop where
 k:KU T1 T2 o L H H'
 s:∀b,L b->L' b
 n:∀b,L' b->L b\/H b=none
 p:∀b,Ow T1 T2 o L' b->H' b≠none
theorem Gr.refl{T1 T2:Addr}{o:UO}{H:Hp}{L:Addr->Prop}(p:∀b,Ow T1 T2 o L b->H b≠none):Gr T1 T2 o H L H L:=⟨KM.refl,fun _ h=>h,fun _ h=>.inl h,p⟩
theorem Gr.trans{T1 T2:Addr}{o:UO}{H H1 H2:Hp}{L L1 L2:Addr->Prop}(a:Gr T1 T2 o H L H1 L1)(b:Gr T1 T2 o H1 L1 H2 L2):Gr T1 T2 o H L H2 L2:=by
 refine⟨fun x u n e=>?_,fun x h=>b.s x (a.s x h),fun x h=>?_,b.p⟩
 ·have e1:=a.k x u n e
  refine b.k x u (fun z=>?_) e1
  rcases z with z|z|z|z|z
  ·exact n (.inl z)
  ·exact n (.inr (.inl z))
  ·exact n (.inr (.inr (.inl z)))
  ·rcases a.n x z with z|z
   ·exact n (.inr (.inr (.inr (.inl z))))
   ·rw[z]at e;cases e
  ·exact n (.inr (.inr (.inr (.inr z))))
 ·rcases b.n x h with h|h
  ·exact a.n x h
  ·by_cases z:L x
   ·exact .inl z
   ·refine .inr ?_
    cases e:H x with
    |none=>rfl
    |some u =>
     by_cases ow:Ow T1 T2 o L x
     ·refine absurd h (a.p x ?_)
      rcases ow with y|y|y|y|y
      ·exact .inl y
      ·exact .inr (.inl y)
      ·exact .inr (.inr (.inl y))
      ·exact .inr (.inr (.inr (.inl (a.s x y))))
      ·exact .inr (.inr (.inr (.inr y)))
     ·rw[a.k x u ow e]at h;cases h
def Pm(H:Hp)(d:Addr)(z:Str)(ns:List Str):Prop:=∃kvs,H d=some (.dK kvs)/\∀x,(pix ns x=none/\valV kvs (.inr x)=none)\/∃k t,pix ns x=some k/\valV kvs (.inr x)=some (.ref t)/\H t=some (.tup [.str z,.int ((k:Nat):Int)])
theorem Pm.keep{H H':Hp}{d:Addr}{z:Str}{ns:List Str}(h:Pm H d z ns)(kd:∀kvs,H d=some (.dK kvs)->H' d=some (.dK kvs))(t:Tups H H'):Pm H' d z ns:=by
 obtain⟨kvs,e,h⟩:=h
 refine⟨kvs,kd _ e,fun x=>(h x).imp_right fun⟨k,t',a,b,c⟩=>⟨k,t',a,b,t _ _ c⟩⟩
section
variable{cU T1 T2:Addr}{H H':Hp}{o:UO}{L:Addr->Prop}{st:US}{n:Nat}
theorem IsU.pres(h:IsU cU T1 T2 H o L st n):∀b,Ow T1 T2 o L b->H b≠none:=by
 rintro b (z|z|z|z|z|z)
 ·obtain⟨_,e,_⟩:=h.h;rw[z,e];simp
 ·obtain⟨_,e,_⟩:=h.f;rw[z,e];simp
 ·obtain⟨_,e,_⟩:=h.c;rw[z,e];simp
 ·obtain⟨_,e⟩:=h.ll b z;rw[e];simp
 ·obtain⟨ps,e,_⟩:=h.tb.t1;rw[z,e];simp
 ·obtain⟨ps,e,_⟩:=h.tb.t2;rw[z,e];simp
theorem IsU.keep(h:IsU cU T1 T2 H o L st n)(t:Tbs T1 T2 H')(k:KM (MT T1 T2) H H'):IsU cU T1 T2 H' o L st n:=by
 obtain⟨a,b,c,⟨kh,d1,d2⟩,⟨kf,e1,e2⟩,⟨kc,f1,f2,f3,f4⟩,g,gl⟩:=h
 refine⟨k _ _ (b.noT a (by intro _ z;cases z)) a,t,c,⟨kh,k _ _ (b.noT d1 (by intro _ z;cases z)) d1,d2⟩,⟨kf,k _ _ (b.noT e1 (by intro _ z;cases z)) e1,e2⟩,⟨kc,k _ _ (b.noT f1 (by intro _ z;cases z)) f1,f2,f3,fun z k'=>(f4 z k').imp_right fun⟨l,ts,x1,x2,x3,x4⟩=>⟨l,ts,x1,x2,b.lst k x3,x4.keep (b.tups k)⟩⟩,g,fun b' h=>(gl b' h).imp fun xs e=>b.lst k e⟩
theorem IsU.mono(h:IsU cU T1 T2 H o L st n){m:Nat}(l:n<=m):IsU cU T1 T2 H o L st m:=by
 obtain⟨a,b,c,⟨kh,d1,d2,d3⟩,⟨kf,e1,e2,e3⟩,⟨kc,f1,f2,f3⟩,g,gl⟩:=h
 exact⟨a,b,c,⟨kh,d1,Uc d2 l,d3⟩,⟨kf,e1,Uc e2 l,e3⟩,⟨kc,f1,Uc f2 l,f3⟩,fun z k=>Uc (g z k) l,gl⟩
theorem IsU.noOw(h:IsU cU T1 T2 H o L st n){b:Addr}{xs:List V}(e:H b=some (.tup xs)):¬ Ow T1 T2 o L b:=by
 rintro(z|z|z|z|z)
 ·obtain⟨_,q,_⟩:=h.h;rw[z,q]at e;cases e
 ·obtain⟨_,q,_⟩:=h.f;rw[z,q]at e;cases e
 ·obtain⟨_,q,_⟩:=h.c;rw[z,q]at e;cases e
 ·obtain⟨_,q⟩:=h.ll b z;rw[q]at e;cases e
 ·exact h.tb.noT e (by intro _ z;cases z) z
theorem IsU.noOwK(h:IsU cU T1 T2 H o L st n){b:Addr}{kvs:List (Key×V)}(e:H b=some (.dK kvs))(nb:b≠o.dh):¬ Ow T1 T2 o L b:=by
 rintro(z|z|z|z|z)
 ·exact nb z
 ·obtain⟨_,q,_⟩:=h.f;rw[z,q]at e;cases e
 ·obtain⟨_,q,_⟩:=h.c;rw[z,q]at e;cases e
 ·obtain⟨_,q⟩:=h.ll b z;rw[q]at e;cases e
 ·exact h.tb.noT e (by intro _ z;cases z) z
theorem Gr.tups{L':Addr->Prop}(g:Gr T1 T2 o H L H' L')(h:IsU cU T1 T2 H o L st n):Tups H H':=fun b xs e=>g.k b _ (h.noOw e) e
theorem Gr.pm{L':Addr->Prop}(g:Gr T1 T2 o H L H' L')(h:IsU cU T1 T2 H o L st n){d:Addr}{z:Str}{ns:List Str}(p:Pm H d z ns)(nd:d≠o.dh):Pm H' d z ns:=p.keep (fun kvs e=>g.k _ _ (h.noOwK e nd) e) (g.tups h)
theorem IsU.same(h:IsU cU T1 T2 H o L st n)(s:Same H H'):IsU cU T1 T2 H' o L st n:=h.keep (h.tb.same s) (.of s)
theorem Gr.same(h:IsU cU T1 T2 H o L st n)(s:Same H H'):Gr T1 T2 o H L H' L:=⟨.of s,fun _ h=>h,fun _ h=>.inl h,(h.same s).pres⟩
theorem IsU.call(h:IsU cU T1 T2 H o L st n){kc:List (List Key×V)}{g z:Str}{j k:Nat}{l t:Addr}{xs:List V}(hc:H o.dc=some (.dT kc))(hv:valV kc (kz g j)=some (.ref l))(hl:H l=some (.lst xs))(ht:H t=some (.tup [.str z,.int ((k:Nat):Int)])):
  xs.length<=n/\IsU cU T1 T2 (upd H l (.lst (xs++[.ref t]))) o L { st with C:=fun z' k'=>if z'=g/\k'=j then st.C z' k'++[(z,k)]else st.C z' k' } (n+1)/\Gr T1 T2 o H L (upd H l (.lst (xs++[.ref t]))) L:=by
 have pr:=h.pres
 obtain⟨a,b,c,⟨kh,d1,d2,d3⟩,⟨kf,e1,e2,e3⟩,⟨kc',f1,f2,f3,f4⟩,gg,gl⟩:=h
 rw[hc]at f1
 cases f1
 have nl:∀{b:Addr}{u:HO},H b=some u->(∀xs,u≠.lst xs)->b≠l:=fun{b u} e n y=>by rw[y,hl]at e;exact n _ (uO.inj e).symm
 have up:∀b u,b≠l->H b=some u->upd H l (.lst (xs++[.ref t])) b=some u:=fun b u n e=>by rw[zi n];exact e
 have tp:Tups H (upd H l (.lst (xs++[.ref t]))):=fun b ys e=>up b _ (nl e (by intro _ z;cases z)) e
 obtain⟨l',ts,x1,x2,x3,x4⟩:∃l' ts,valV kc (kz g j)=some (.ref l')/\L l'/\H l'=some (.lst (ts.map V.ref))/\PairsAt H (st.C g j) ts:=by
  rcases f4 g j with⟨q,_⟩|q
  ·rw[hv]at q;cases q
  ·exact q
 rw[hv]at x1
 cases x1
 rw[hl]at x3
 cases x3
 have al:=All2.len x4
 refine⟨by rw[ua,<- al];exact gg g j,⟨up _ _ (nl a (by intro _ z;cases z)) a,⟨b.t1.keep (fun ps e=>up _ _ (nl e (by intro _ z;cases z)) e) fun c q e=>up _ _ (nl e (by intro _ z;unfold CodO at z;cases z)) e,b.t2.keep (fun ps e=>up _ _ (nl e (by intro _ z;cases z)) e) fun c q e=>up _ _ (nl e (by intro _ z;unfold CodO at z;cases z)) e⟩,c,⟨kh,up _ _ (nl d1 (by intro _ z;cases z)) d1,by lia,d3⟩,⟨kf,up _ _ (nl e1 (by intro _ z;cases z)) e1,by lia,e3⟩,⟨kc,up _ _ (nl hc (by intro _ z;cases z)) hc,by lia,f3,fun z' k'=>?_⟩,fun z' k'=>?_,fun b' hb'=>?_⟩,⟨fun b' u n' e=>up b' u (fun y=>n' (.inr (.inr (.inr (.inl (y ▸ x2)))))) e,fun _ h=>h,fun _ h=>.inl h,fun b' hb'=>?_⟩⟩
 ·by_cases y:z'=g/\k'=j
  ·obtain⟨rfl,rfl⟩:=y
   refine .inr ⟨l,ts++[t],hv,x2,by rw[upd_same,ut];rfl,?_⟩
   show PairsAt _ (if z'=z'/\k'=k' then _ else _) _
   rw[if_pos ⟨rfl,rfl⟩]
   exact All2.app (x4.keep tp) (.cons (tp _ _ ht) .nil)
  ·show _\/_
   show(_/\(if z'=g/\k'=j then _ else _)=[])\/∃l ts,_/\_/\_/\PairsAt _ (if z'=g/\k'=j then _ else _) _
   rw[if_neg y]
   rcases f4 z' k' with q|⟨l2,ts2,y1,y2,y3,y4⟩
   ·exact .inl q
   ·refine .inr ⟨l2,ts2,y1,y2,up _ _ (fun e=>y ?_) y3,y4.keep tp⟩
    exact f3 _ _ _ _ _ (e ▸ y1) hv
 ·show(if z'=g/\k'=j then _ else _:List (Str×Nat)).length<=_
  have:=gg z' k'
  split
  ·rw[uf];show _+1<=_;lia
  ·lia
 ·by_cases y:b'=l
  ·exact⟨_,by rw[y];exact upd_same⟩
  ·exact(gl b' hb').imp fun ys e=>up _ _ y e
 ·by_cases y:b'=l
  ·rw[y,upd_same];simp
  ·rw[zi y];exact pr b' hb'
theorem IsU.call0(h:IsU cU T1 T2 H o L st n){kc:List (List Key×V)}{g:Str}{j:Nat}{l:Addr}(hc:H o.dc=some (.dT kc))(hv:valV kc (kz g j)=none)(hl:H l=some (.lst []))(nl:¬ L l)(h0:Hp)(g0:Gr T1 T2 o h0 L H L)(hl0:h0 l=none):
  IsU cU T1 T2 (upd H o.dc (.dT (putK kc (kz g j) (.ref l)))) o (fun b=>L b\/b=l) st (n+1)/\Gr T1 T2 o h0 L (upd H o.dc (.dT (putK kc (kz g j) (.ref l)))) (fun b=>L b\/b=l):=by
 have pr:=h.pres
 obtain⟨a,b,c,⟨kh,d1,d2,d3⟩,⟨kf,e1,e2,e3⟩,⟨kc',f1,f2,f3,f4⟩,gg,gl⟩:=h
 rw[hc]at f1
 cases f1
 have nf:∀{b:Addr}{u:HO},H b=some u->(∀xs,u≠.dT xs)->b≠o.dc:=fun{b u} e n y=>by rw[y,hc]at e;exact n _ (uO.inj e).symm
 have up:∀b u,b≠o.dc->H b=some u->upd H o.dc (.dT (putK kc (kz g j) (.ref l))) b=some u:=fun b u n e=>by rw[zi n];exact e
 have tp:Tups H (upd H o.dc (.dT (putK kc (kz g j) (.ref l)))):=fun b ys e=>up b _ (nf e (by intro _ z;cases z)) e
 have lk:=yb kc (kz g j) (.ref l)
 have vp:∀z k,valV (putK kc (kz g j) (.ref l)) (kz z k)=if z=g/\k=j then some (.ref l)else valV kc (kz z k):=fun z k=>by
  rw[y0]
  by_cases y:z=g/\k=j
  ·rw[if_pos (kz_inj.mpr y),if_pos y]
  ·rw[if_neg (fun w=>y (kz_inj.mp w)),if_neg y]
 have old:∀z k l',valV kc (kz z k)=some (.ref l')->L l':=fun z k l' e=>by
  rcases f4 z k with⟨q,_⟩|⟨l2,ts2,y1,y2,_⟩
  ·rw[e]at q;cases q
  ·rw[e]at y1;cases y1;exact y2
 refine⟨⟨up _ _ (nf a (by intro _ z;cases z)) a,⟨b.t1.keep (fun ps e=>up _ _ (nf e (by intro _ z;cases z)) e) fun c q e=>up _ _ (nf e (by intro _ z;unfold CodO at z;cases z)) e,b.t2.keep (fun ps e=>up _ _ (nf e (by intro _ z;cases z)) e) fun c q e=>up _ _ (nf e (by intro _ z;unfold CodO at z;cases z)) e⟩,c,⟨kh,up _ _ (nf d1 (by intro _ z;cases z)) d1,by lia,d3⟩,⟨kf,up _ _ c e1,by lia,e3⟩,⟨_,upd_same,by lia,fun z k z' k' l' q1 q2=>?_,fun z' k'=>?_⟩,fun z' k'=>Nat.le_succ_of_le (gg z' k'),fun b' hb'=>?_⟩,⟨fun b' u n' e=>up b' u (fun y=>n' (.inr (.inr (.inl y)))) (g0.k b' u n' e),fun _ h=>.inl h,fun b' h=>Or.imp_right (fun(y:b'=l)=>by rw[y];exact hl0) h,fun b' hb'=>?_⟩⟩
 ·rw[vp]at q1 q2
  split at q1
  ·rename_i y1
   split at q2
   ·rename_i y2;exact⟨y1.1.trans y2.1.symm,y1.2.trans y2.2.symm⟩
   ·cases q1;exact absurd (old _ _ _ q2) nl
  ·split at q2
   ·cases q2;exact absurd (old _ _ _ q1) nl
   ·exact f3 _ _ _ _ _ q1 q2
 ·rw[vp]
  by_cases y:z'=g/\k'=j
  ·rw[if_pos y]
   obtain⟨rfl,rfl⟩:=y
   have e:st.C z' k'=[]:=by
    rcases f4 z' k' with⟨_,q⟩|⟨l2,ts2,y1,_⟩
    ·exact q
    ·rw[hv]at y1;cases y1
   refine .inr ⟨l,[],rfl,.inr rfl,up _ _ (nf hl (by intro _ z;cases z)) hl,?_⟩
   rw[e]
   exact .nil
  ·rw[if_neg y]
   rcases f4 z' k' with q|⟨l2,ts2,y1,y2,y3,y4⟩
   ·exact .inl q
   ·exact .inr ⟨l2,ts2,y1,.inl y2,up _ _ (nf y3 (by intro _ z;cases z)) y3,y4.keep tp⟩
 ·rcases hb' with y|y
  ·exact(gl b' y).imp fun ys e=>up _ _ (nf e (by intro _ z;cases z)) e
  ·exact⟨_,by rw[show b'=l from y];exact up _ _ (nf hl (by intro _ z;cases z)) hl⟩
 ·by_cases y:b'=o.dc
  ·rw[y,upd_same];simp
  ·rw[zi y]
   rcases hb' with z|z|z|z|z
   ·exact pr b' (.inl z)
   ·exact pr b' (.inr (.inl z))
   ·exact absurd z y
   ·rcases z with z|z
    ·exact pr b' (.inr (.inr (.inr (.inl z))))
    ·rw[z,hl];simp
   ·exact pr b' (.inr (.inr (.inr (.inr z))))
end
def XV(cU:Addr):Sp:=fun vs H Q _=>∃(x dx:Addr),vs=[.ref x]/\H x=some (.ins cU dx [])/\∀H' dh df dc,(∀b u,b≠x->H b=some u->H' b=some u)->H dh=none->H df=none->H dc=none->df≠dc->dh≠df->dh≠dc->H' dh=some (.dK [])->H' df=some (.dT [])->H' dc=some (.dT [])->H' x=some (.ins cU dx [("handed",.ref dh),("found",.ref df),("calls",.ref dc)])->Q .non H'
def Y1(cU T1 T2:Addr):Sp:=fun vs H Q _=>∃(d:Addr)(x r z:Str)(ns:List Str)(o:UO)(L:Addr->Prop)(st:US)(n:Nat),vs=[.ref o.u,.ref d,.str x,.str r]/\IsU cU T1 T2 H o L st n/\n < 16000000/\Pm H d z ns/\∀H',Gr T1 T2 o H L H' L->IsU cU T1 T2 H' o L (addR z ns r st x) (n+1)->Q .non H'
def Jz(cU T1 T2:Addr):Sp:=fun vs H Q _=>∃(d p q:Addr)(g z:Str)(w:Str)(xs ns:List Str)(o:UO)(L:Addr->Prop)(st:US)(n:Nat),vs=[.ref o.u,.ref d,.ref p]/\H p=some (.tup [.str w,.str g,.ref q])/\H q=some (.tup (xs.map V.str))/\IsU cU T1 T2 H o L st n/\n+2*xs.length < 16000000/\d≠o.dh/\Pm H d z ns/\∀H' L',Gr T1 T2 o H L H' L'->IsU cU T1 T2 H' o L' (addC z ns g st xs) (n+2*xs.length)->Q .non H'
section
variable{P:Program}{w:World}{K:ub}{mg:Str->Option Value}{base:Heap}{f cU:Addr}{fd:FuncData}
theorem zap:FnScope ["self"] ["self"] (zo YF):=.ok
theorem JA(F:Fun K "__init__" "Uses.__init__" YF f fd)(N:Un K cU):FnOk P w K mg base CX0 1 f fd ["self"] (XV cU):=by
 refine F.by zap (fun vs H Q E h=>?_) (fun cdv A outer s H vs Q E hr h=>?_)
 ·obtain⟨x,dx,rfl,_⟩:=h
  rfl
 obtain⟨x,dx,rfl,hx,q⟩:=h
 refine⟨_,(zg (wB (jv 0) vA) (zg (wB (jv 0) vT) (zh (wB (jv 0) vT)))),?_⟩
 intro dh h1
 have n1:x≠dh:=zk hx h1
 refine⟨_,rfl,x,cU,dx,_,rfl,by rw[zi n1];exact hx,N.cl,N.b1,by show 0 < 1000;decide,?_⟩
 intro df h2
 have n2:df≠x:=fun z=>by
  rw[z,upd_same]at h2;cases h2
 have n3:df≠dh:=fun z=>by
  rw[zi n2,z,upd_same]at h2;cases h2
 have h2':H df=none:=by rw[zi n2,zi n3]at h2;exact h2
 refine⟨_,rfl,x,cU,dx,_,rfl,by rw[zi n2.symm];exact upd_same,N.cl,N.b2,by show 1 < 1000;decide,?_⟩
 intro dc h3
 have n4:dc≠x:=fun z=>by
  rw[z,upd_same]at h3;cases h3
 have n5:dc≠df:=fun z=>by
  rw[zi n4,z,upd_same]at h3;cases h3
 have n6:dc≠dh:=fun z=>by
  rw[zi n4,zi n5,zi n4,z,upd_same]at h3;cases h3
 have h3':H dc=none:=by rw[zi n4,zi n5,zi n4,zi n6]at h3;exact h3
 refine⟨_,rfl,x,cU,dx,_,rfl,by rw[zi n4.symm];exact upd_same,N.cl,N.b3,by show 2 < 1000;decide,?_⟩
 refine q _ dh df dc (fun b u n e=>?_) h1 h2' h3' n5.symm n3.symm n6.symm ?_ ?_ ?_ upd_same
 ·rw[zi n,zi (zk e h3'),zi n,zi (zk e h2'),zi n,zi (zk e h1)]
  exact e
 ·rw[zi n1.symm,zi n6.symm,zi n1.symm,zi n3.symm,zi n1.symm,upd_same]
 ·rw[zi n2,zi n5.symm,zi n2,upd_same]
 ·rw[zi n4,upd_same]
theorem zcB:FnScope lS12 lS12 (zo xO):=.ok
theorem zaq{T1 T2:Addr}(F:Fun K "add_reason" "Uses.add_reason" xO f fd)(N:Un K cU):FnOk P w K mg base CX0 1 f fd lS12 (Y1 cU T1 T2):=by
 refine F.by zcB (fun vs H Q E h=>?_) (fun cdv A outer s H vs Q E hr h=>?_)
 ·obtain⟨d,x,r,z,ns,o,L,st,n,rfl,_⟩:=h
  rfl
 obtain⟨d,x,r,z,ns,o,L,st,n,rfl,hU,hn,⟨kvs,hd,hp⟩,q⟩:=h
 refine⟨_,(zh (zy (Zo hr (jv 2) (jv 1)) (zh (xB hr (yC (jv 0)) (XJ hr (jv 1) (jv 2)) (jv 3))) zt)),?_⟩
 have sl:=zF
 have pr:=hU.pres
 refine⟨_,rfl,_,rfl,d,_,rfl,DGet.k (k:=.inr x) hd,_,rfl,?_⟩
 rcases hp x with⟨p1,p2⟩|⟨k,t,p1,p2,p3⟩
 ·rw[p2]
  refine iteF ?_
  have e:addR z ns r st x=st:=by unfold addR;rw[p1]
  rw[e]at q
  exact q H (.refl pr) (hU.mono (tj _))
 ·rw[p2]
  refine iteT ?_
  have e:addR z ns r st x={ st with F:=fun z' k'=>if z'=z/\k'=k then some r else st.F z' k' }:=by unfold addR;rw[p1]
  rw[e]at q
  obtain⟨a,b,c,⟨kh,d1,d2,d3⟩,⟨kf,e1,e2,e3⟩,⟨kc,f1,f2,f3,f4⟩,g,gl⟩:=hU
  have nf:∀{b:Addr}{u:HO},H b=some u->(∀kf,u≠.dT kf)->b≠o.df:=fun{b u} e n z=>by rw[z,e1]at e;exact n _ (uO.inj e).symm
  refine⟨_,rfl,_,rfl,o.u,cU,o.dx,_,_,rfl,a,N.cl,N.b2,rfl,_,rfl,_,rfl,d,_,rfl,?_,o.df,_,rfl,DPut.t (k:=kz z k) e1 p3 (by lia),?_⟩
  ·exact p2 ▸ DGet.k (k:=.inr x) hd
  have up:∀b u,b≠o.df->H b=some u->upd H o.df (.dT (putK kf (kz z k) (.str r))) b=some u:=fun b u n e=>by rw[zi n];exact e
  have tp:Tups H (upd H o.df (.dT (putK kf (kz z k) (.str r)))):=fun b xs e=>up b _ (nf e (by intro _ z;cases z)) e
  have lk:=yb kf (kz z k) (.str r)
  refine q _ ⟨fun b u n e=>up b u (fun y=>n (.inr (.inl y))) e,fun _ h=>h,fun _ h=>.inl h,fun b h=>?_⟩ ⟨up _ _ (nf a (by intro _ z;cases z)) a,⟨b.t1.keep (fun ps e=>up _ _ (nf e (by intro _ z;cases z)) e) fun c q e=>up _ _ (nf e (by intro _ z;unfold CodO at z;cases z)) e,b.t2.keep (fun ps e=>up _ _ (nf e (by intro _ z;cases z)) e) fun c q e=>up _ _ (nf e (by intro _ z;unfold CodO at z;cases z)) e⟩,c,⟨kh,up _ _ (nf d1 (by intro _ z;cases z)) d1,by lia,d3⟩,⟨_,upd_same,by lia,fun z' k'=>?_⟩,⟨kc,up _ _ c.symm f1,by lia,f3,fun z' k'=>(f4 z' k').imp_right fun⟨l,ts,x1,x2,x3,x4⟩=>⟨l,ts,x1,x2,up _ _ (nf x3 (by intro _ z;cases z)) x3,x4.keep tp⟩⟩,fun z' k'=>Nat.le_succ_of_le (g z' k'),fun b' h=>(gl b' h).imp fun xs e=>up _ _ (nf e (by intro _ z;cases z)) e⟩
  ·by_cases y:b=o.df
   ·rw[y,upd_same];simp
   ·rw[zi y];exact pr b h
  ·rw[y0]
   show _=(if z'=z/\k'=k then some r else st.F z' k').map V.str
   by_cases y:z'=z/\k'=k
   ·rw[if_pos (kz_inj.mpr y),if_pos y];rfl
   ·rw[if_neg (fun w=>y (kz_inj.mp w)),if_neg y];exact e3 z' k'
def hand(f:Str)(st:US):US:={ st with hd:=fun y=>if y=f then true else st.hd y }
def noteD(z:Str)(ns:List Str)(d:De)(st:US):US:=match d with
 |.app w f xs =>
  if w="call"then addC z ns f st xs else
  if w="make"then xs.foldl (addR z ns "put") st else
  if w="func"then hand f (xs.foldl (addR z ns "put") st)else
  if w="ask"then addR z ns "asked" (xs.foldl (addR z ns "put") st) f else st
 |_=>st
def XW(cU T1 T2:Addr):Sp:=fun vs H Q _=>∃(d p:Addr)(de:De)(z:Str)(ns:List Str)(o:UO)(L:Addr->Prop)(st:US)(n:Nat),vs=[.ref o.u,.ref d,.ref p]/\IsDe H de p/\IsU cU T1 T2 H o L st n/\n+100 < 16000000/\d≠o.dh/\Pm H d z ns/\∀H' L',Gr T1 T2 o H L H' L'->IsU cU T1 T2 H' o L' (noteD z ns de st) (n+90)->Q .non H'
theorem WF(z:Str)(ns:List Str)(g:Str)(st:US)(xs:List Str){i:Nat}{x:Str}(h:xs[i]?=some x):addC z ns g st (xs.take (i+1))=addC1 z ns g i (addC z ns g st (xs.take i)) x:=by
 have hi:=(uc.mp h).1
 unfold addC
 rw[uw,h,List.zipIdx_append,UU]
 show addC1 z ns g (0+(xs.take i).length) _ x=_
 rw[uN,Nat.zero_add,Nat.min_eq_left (by lia)]
theorem scAddC:FnScope ["self","params","deed","j","name"] lS25 (zo vF):=.ok
theorem zar{T1 T2:Addr}(F:Fun K "add_call" "Uses.add_call" vF f fd)(N:Un K cU)(m_enumerate:mg "enumerate"=none):FnOk P w K mg base CX0 1 f fd lS25 (Jz cU T1 T2):=by
 refine F.by scAddC (fun vs H Q E h=>?_) (fun cdv A outer s H vs Q E hr h=>?_)
 ·obtain⟨d,p,q,g,z,w,xs,ns,o,L,st,n,rfl,_⟩:=h
  rfl
 obtain⟨d,p,q,g,z,w,xs,ns,o,L,st,n,rfl,hp,hq,hU,hn,nd,hP,q⟩:=h
 rename_i q0
 refine⟨_,(zh (zK PassesOwn.never rfl (Yb rfl m_enumerate (jA1 (xT 2))) (yi rfl (zv (gN 3 scAddC.nd) (zv (gN 4 scAddC.nd) zM)))
  (zh (zy (Zo hr (jv 4) (jv 1)) (zh (zD (yu uz uI uJ zH (Jx hr (yC (jv 0)) (zu (jA2 (xT 2) (jv 3))) (zB zE)) (jA1 (XJ hr (jv 1) (jv 4)))))) zt)))),?_⟩
 have sl:=zF
 refine⟨_,rfl,ixT hp aI2 ⟨_,rfl,⟨_,SqT.of hq⟩,jz (xs:=xs.map V.str) (fun i σ H'=>∃L' vj vx,Gr T1 T2 o H L H' L'/\IsU cU T1 T2 H' o L' (addC z ns g st (xs.take i)) (n+2*i)/\σ=[some (.ref o.u),some (.ref d),some (.ref p),vj,vx]) ⟨L,none,none,.refl hU.pres,hU,rfl⟩ (fun i σ H' _ h=>?_) ?_ ?_⟩⟩
 ·obtain⟨L',_,_,g1,_⟩:=h
  exact SqT.of (g1.tups hU _ _ hq)
 ·rintro i x T σ H1 hx hT ⟨L1,vj,vx,g1,U1,rfl⟩
  rw[ue]at hx
  obtain⟨x,hx0,rfl⟩:=uh.mp hx
  clear hx
  rename xs[i]?=some x=>hx
  have hi:=(uc.mp hx).1
  have s2:=zn (o:=.tup [.int (i:Nat),.str x]) hT
  have hT2:=upd_same (H:=H1) (a:=T) (o:=.tup [.int (i:Nat),.str x])
  have U2:=U1.same s2
  have g2:=g1.trans (.same U1 s2)
  generalize upd H1 T (.tup [.int (i:Nat),.str x])=H2 at *
  have P2:=g2.pm hU hP nd
  have hp2:=g2.tups hU _ _ hp
  refine⟨T,_,rfl,SqT.of hT2,rfl,?_⟩
  obtain⟨kvs,hd,hk⟩:=P2
  refine⟨_,_,rfl,_,_,rfl,rfl,_,rfl,_,rfl,d,_,rfl,DGet.k (k:=.inr x) hd,_,rfl,?_⟩
  have es:=WF z ns g st xs hx
  rcases hk x with⟨p1,p2⟩|⟨k,t,p1,p2,p3⟩
  ·rw[p2]
   refine iteF ⟨L1,_,_,g2,?_,rfl⟩
   have e:addC z ns g st (xs.take (i+1))=addC z ns g st (xs.take i):=by rw[es];unfold addC1;rw[p1]
   rw[e]
   exact U2.mono (by lia)
  rw[p2]
  refine iteT ?_
  have e:addC z ns g st (xs.take (i+1))={ (addC z ns g st (xs.take i))with C:=fun z' k'=>if z'=g/\k'=i then(addC z ns g st (xs.take i)).C z' k'++[(z,k)]else(addC z ns g st (xs.take i)).C z' k' }:=by rw[es];unfold addC1;rw[p1]
  obtain⟨kc,f1,f2,-⟩:=U2.c
  refine⟨_,rfl,o.u,cU,o.dx,_,.ref o.dc,rfl,U2.ob,N.cl,N.b3,rfl,o.dc,rfl,.inr ⟨kc,?_⟩,_,rfl,ixT hp2 aI1 ⟨_,rfl,?_⟩⟩
  ·exact .of f1
  refine⟨sN2,fun tk htk=>⟨sN0,fun l hl=>?_⟩⟩
  have s3:=zn (o:=.tup [.str g,.int (i:Nat)]) htk
  have s4:=s3.new (o:=.lst []) hl
  have hk4:=old (o:=.lst []) hl (upd_same (H:=H2) (a:=tk) (o:=.tup [.str g,.int (i:Nat)]))
  have hl4:=upd_same (H:=upd H2 tk (.tup [.str g,.int (i:Nat)])) (a:=l) (o:=.lst [])
  have fl:H2 l=none:=s3.free hl
  have nL:¬ L1 l:=fun y=>by obtain⟨_,e⟩:=U2.ll l y;rw[fl]at e;cases e
  have U4:=U2.same s4
  have g4:=Gr.same U2 s4
  have P4:=s4 _ _ hd
  have t4:=s4 _ _ p3
  have f4:=s4 _ _ f1
  generalize upd (upd H2 tk (.tup [.str g,.int (i:Nat)])) l (.lst [])=H4 at *
  refine⟨kc,kz g i,tk,f4,rfl,hk4,by lia,fun v hv=>?_,fun hv=>?_⟩
  ·obtain⟨l',ts,x1,x2,x3,x4⟩:∃l' ts,valV kc (kz g i)=some (.ref l')/\L1 l'/\H4 l'=some (.lst (ts.map V.ref))/\PairsAt H4 ((addC z ns g st (xs.take i)).C g i) ts:=by
    obtain⟨kc',q1,_,_,q2⟩:=U4.c
    rw[f4]at q1
    cases q1
    rcases q2 g i with⟨q,_⟩|q
    ·rw[hv]at q;cases q
    ·exact q
   rw[hv]at x1
   cases x1
   obtain⟨b5,U5,g5⟩:=U4.call f4 hv x3 t4
   refine⟨.inl ⟨rfl,_,SqL.of x3⟩,_,rfl,_,rfl,d,_,rfl,p2 ▸ DGet.k (k:=.inr x) P4,l',_,_,rfl,rfl,x3,by lia,?_⟩
   refine⟨L1,_,_,(g2.trans g4).trans g5,?_,rfl⟩
   rw[e]
   exact U5.mono (by lia)
  ·obtain⟨U5,g5⟩:=U4.call0 f4 hv hl4 nL H2 g4 fl
   have nld:l≠o.dc:=fun y=>by rw[y,f4]at hl4;cases hl4
   have hl5:upd H4 o.dc (.dT (putK kc (kz g i) (.ref l))) l=some (.lst []):=by rw[zi nld];exact hl4
   have P5:upd H4 o.dc (.dT (putK kc (kz g i) (.ref l))) d=some (.dK kvs):=by rw[zi (fun y=>by rw[y,f4]at P4;cases P4)];exact P4
   have t5:upd H4 o.dc (.dT (putK kc (kz g i) (.ref l))) t=some (.tup [.str z,.int ((k:Nat):Int)]):=by rw[zi (fun y=>by rw[y,f4]at t4;cases t4)];exact t4
   have v5:valV (putK kc (kz g i) (.ref l)) (kz g i)=some (.ref l):=by rw[y0,if_pos rfl]
   obtain⟨b6,U6,g6⟩:=U5.call upd_same v5 hl5 t5
   refine⟨.inl ⟨rfl,_,SqL.of hl5⟩,_,rfl,_,rfl,d,_,rfl,p2 ▸ DGet.k (k:=.inr x) P5,l,_,_,rfl,rfl,hl5,by show 0 < sizeLine;decide,?_⟩
   refine⟨_,_,_,(g2.trans g5).trans g6,?_,rfl⟩
   rw[e]
   exact U6.mono (by lia)
 ·rintro σ H1 ⟨L1,vj,vx,g1,U1,rfl⟩
  rw[ua,uk (ud _)]at U1
  exact q _ _ g1 U1
theorem IsU.hand{T1 T2:Addr}{H:Hp}{o:UO}{L:Addr->Prop}{st:US}{n:Nat}(h:IsU cU T1 T2 H o L st n){kh:List (Key×V)}(hh:H o.dh=some (.dK kh))(g:Str)(v:V):
  IsU cU T1 T2 (upd H o.dh (.dK (putK kh (.inr g) v))) o L (hand g st) (n+1)/\Gr T1 T2 o H L (upd H o.dh (.dK (putK kh (.inr g) v))) L:=by
 have pr:=h.pres
 obtain⟨a,b,c,⟨kh',d1,d2,d3⟩,⟨kf,e1,e2,e3⟩,⟨kc,f1,f2,f3,f4⟩,gg,gl⟩:=h
 rw[hh]at d1
 cases d1
 have nf:∀{b:Addr}{u:HO},H b=some u->(∀xs,u≠.dK xs)->b≠o.dh:=fun{b u} e n y=>by rw[y,hh]at e;exact n _ (uO.inj e).symm
 have up:∀b u,b≠o.dh->H b=some u->upd H o.dh (.dK (putK kh (.inr g) v)) b=some u:=fun b u n e=>by rw[zi n];exact e
 have tp:Tups H (upd H o.dh (.dK (putK kh (.inr g) v))):=fun b ys e=>up b _ (nf e (by intro _ z;cases z)) e
 have lk:=yb kh (.inr g) v
 refine⟨⟨up _ _ (nf a (by intro _ z;cases z)) a,⟨b.t1.keep (fun ps e=>up _ _ (nf e (by intro _ z;cases z)) e) fun c q e=>up _ _ (nf e (by intro _ z;unfold CodO at z;cases z)) e,b.t2.keep (fun ps e=>up _ _ (nf e (by intro _ z;cases z)) e) fun c q e=>up _ _ (nf e (by intro _ z;unfold CodO at z;cases z)) e⟩,c,⟨_,upd_same,by lia,fun z=>?_⟩,⟨kf,up _ _ (nf e1 (by intro _ z;cases z)) e1,by lia,e3⟩,⟨kc,up _ _ (nf f1 (by intro _ z;cases z)) f1,by lia,f3,fun z' k'=>(f4 z' k').imp_right fun⟨l,ts,x1,x2,x3,x4⟩=>⟨l,ts,x1,x2,up _ _ (nf x3 (by intro _ z;cases z)) x3,x4.keep tp⟩⟩,fun z' k'=>Nat.le_succ_of_le (gg z' k'),fun b' hb'=>(gl b' hb').imp fun xs e=>up _ _ (nf e (by intro _ z;cases z)) e⟩,⟨fun b' u n' e=>up b' u (fun y=>n' (.inl y)) e,fun _ h=>h,fun _ h=>.inl h,fun b' hb'=>?_⟩⟩
 ·rw[y0]
  show _=(if z=g then true else st.hd z)
  by_cases y:z=g
  ·rw[if_pos (by rw[y]),if_pos y];rfl
  ·rw[if_neg (fun w=>y (Sum.inr.inj w)),if_neg y];exact d3 z
 ·by_cases y:b'=o.dh
  ·rw[y,upd_same];simp
  ·rw[zi y];exact pr b' hb'
theorem inV3(w0 a b c:Str):inV (.str w0) [.str a,.str b,.str c]=true↔(w0=a\/w0=b\/w0=c):=by
 show((a == w0) || ((b == w0) || ((c == w0) || false)))=true↔_
 rw[Bool.or_false,UA,UA,beq_iff_eq,beq_iff_eq,beq_iff_eq]
 exact⟨fun h=>h.imp Eq.symm (Or.imp Eq.symm Eq.symm),fun h=>h.imp Eq.symm (Or.imp Eq.symm Eq.symm)⟩
theorem scNoteD:FnScope ["uses","params","deed","name"] lS26 (zo wF):=.ok
theorem JB{T1 T2:Addr}(F:Fun K "note_deed" "note_deed" wF f fd)(N:Un K cU)(MR:Me P w K mg base CX0 1 cU "add_reason" lS12 (Y1 cU T1 T2))(MC:Me P w K mg base CX0 1 cU "add_call" lS25 (Jz cU T1 T2)):FnOk P w K mg base CX0 2 f fd lS26 (XW cU T1 T2):=by
 refine F.by scNoteD (fun vs H Q E h=>?_) (fun cdv A outer s H vs Q E hr h=>?_)
 ·obtain⟨d,p,de,z,ns,o,L,st,n,rfl,_⟩:=h
  rfl
 obtain⟨d,p,de,z,ns,o,L,st,n,rfl,hp,hU,hn,nd,hP,q⟩:=h
 have hr1:Room 1 _:=hr.mono (by decide)
 refine⟨_,
  (zg (zy (tN zA (xT 2) zp)
   (zh (zD (ZQ (jv 0) N.cl MC hr xp (jA2 (jv 1) (jv 2)))))
   (zh (zy (yk yv (xT 2) (zu (jA3 zp zp zp)) (by with_unfolding_all rfl))
    (zh (zK PassesOwn.never rfl (yW (xT 2)) (gN 3 scNoteD.nd)
     (zh (zD (ZQ (jv 0) N.cl MR hr xp (jA3 (jv 1) (jv 3) zp))))))
    zt)))
  (zg (zy (tN zA (xT 2) zp)
   (zh (zD (ZQ (jv 0) N.cl MR hr xp (jA3 (jv 1) (xT 2) zp))))
   zt)
  (zh (zy (tN zA (xT 2) zp)
   (zh (xB hr (yC (jv 0)) (xT 2) yt))
   zt)))),?_⟩
 have sl:=zF
 by_cases pl:∃w0 vs,H p=some (.tup (.str w0::vs))/\w0≠"call"/\¬ (w0="make"\/w0="func"\/w0="ask")/\noteD z ns de st=st
 ·obtain⟨w0,vs,h1,n1,n2,en⟩:=pl
  refine⟨_,rfl,ixT h1 aI0 ⟨rfl,_,rfl,ite2 (fun c=>absurd (V.str.inj (of_decide_eq_true c)) n1) (fun _=>⟨_,rfl,ixT h1 aI0 ⟨sN3,fun tk htk=>⟨tk,_,rfl,.inr (SqT.of upd_same),rfl,rfl,_,rfl,ite2 (fun c=>absurd ((inV3 _ _ _ _).mp c) n2) (fun _=>?_)⟩⟩⟩)⟩⟩
  have s1:=zn (o:=.tup [.str "make",.str "func",.str "ask"]) htk
  refine⟨_,rfl,ixT (s1 _ _ h1) aI0 ⟨rfl,_,rfl,ite2 (fun c=>absurd (V.str.inj (of_decide_eq_true c)) (fun y=>n2 (.inr (.inr y)))) (fun _=>⟨_,rfl,ixT (s1 _ _ h1) aI0 ⟨rfl,_,rfl,ite2 (fun c=>absurd (V.str.inj (of_decide_eq_true c)) (fun y=>n2 (.inr (.inl y)))) (fun _=>?_)⟩⟩)⟩⟩
  refine q _ L (.same hU s1) ?_
  rw[en]
  exact(hU.same s1).mono (by lia)
 cases hp with
 |num h1=>exact absurd ⟨_,_,h1,by decide,by decide,rfl⟩ pl
 |op h1=>exact absurd ⟨_,_,h1,by decide,by decide,rfl⟩ pl
 |@app w0 g xs _ pq hw h1 h2 =>
  by_cases c1:w0="call"
  ·subst c1
   refine⟨_,rfl,ixT h1 aI0 ⟨rfl,_,rfl,ite2 (fun c=>?_) (fun c=>absurd (by decide) c)⟩⟩
   refine⟨_,rfl,o.u,o.dx,_,rfl,hU.ob,rfl,_,rfl,_,rfl,d,p,pq,g,z,_,xs,ns,o,L,st,n,rfl,h1,h2,hU,by lia,nd,hP,fun H1 L1 g1 U1=>?_⟩
   have h1':=g1.tups hU _ _ h1
   refine⟨_,rfl,ixT h1' aI0 ⟨rfl,_,rfl,ite2 aB (fun _=>⟨_,rfl,ixT h1' aI0 ⟨rfl,_,rfl,ite2 aB (fun _=>?_)⟩⟩)⟩⟩
   exact q _ L1 g1 (U1.mono (by lia))
  by_cases c2:w0="make"\/w0="func"\/w0="ask"
  ·refine⟨_,rfl,ixT h1 aI0 ⟨rfl,_,rfl,ite2 (fun c=>absurd (V.str.inj (of_decide_eq_true c)) c1) (fun _=>⟨_,rfl,ixT h1 aI0 ⟨sN3,fun tk htk=>⟨tk,_,rfl,.inr (SqT.of upd_same),rfl,rfl,_,rfl,ite2 (fun _=>?_) (fun c=>absurd ((inV3 _ _ _ _).mpr c2) c)⟩⟩⟩)⟩⟩
   have s1:=zn (o:=.tup [.str "make",.str "func",.str "ask"]) htk
   have g1:=Gr.same hU s1
   have U1:=hU.same s1
   generalize upd H tk (.tup [.str "make",.str "func",.str "ask"])=H1 at *
   refine⟨_,rfl,ixT (s1 _ _ h1) aI2 ⟨_,rfl,⟨_,SqT.of (s1 _ _ h2)⟩,yS (xs:=xs.map V.str) (fun i σ H'=>∃vx,Gr T1 T2 o H L H' L/\IsU cU T1 T2 H' o L ((xs.take i).foldl (addR z ns "put") st) (n+i)/\σ=[some (.ref o.u),some (.ref d),some (.ref p),vx]) ⟨none,g1,U1,rfl⟩ (fun i σ H' _ h=>?_) ?_ ?_⟩⟩
   ·obtain⟨_,g1,_⟩:=h
    exact SqT.of (g1.tups hU _ _ h2)
   ·rintro i x σ H2 hx ⟨vx,g2,U2,rfl⟩
    rw[ue]at hx
    obtain⟨x,hx0,rfl⟩:=uh.mp hx
    clear hx
    rename xs[i]?=some x=>hx
    have hi:=(uc.mp hx).1
    refine⟨_,rfl,o.u,o.dx,_,rfl,U2.ob,rfl,_,rfl,_,rfl,d,x,"put",z,ns,o,L,_,n+i,rfl,U2,by lia,g2.pm hU hP nd,fun H3 g3 U3=>⟨_,g2.trans g3,?_,rfl⟩⟩
    rw[uw,hx,UU]
    exact U3
   rintro σ H2 ⟨vx,g2,U2,rfl⟩
   rw[ua,uk (ud _)]at U2
   have h1':=g2.tups hU _ _ h1
   have P2:=g2.pm hU hP nd
   refine⟨_,rfl,ixT h1' aI0 ⟨rfl,_,rfl,ite2 (fun c=>?_) (fun c=>?_)⟩⟩
   ·have e:w0="ask":=V.str.inj (of_decide_eq_true c)
    subst e
    refine⟨_,rfl,o.u,o.dx,_,rfl,U2.ob,rfl,_,rfl,_,rfl,ixT h1' aI1 ⟨d,g,"asked",z,ns,o,L,_,n+xs.length,rfl,U2,by lia,P2,fun H3 g3 U3=>?_⟩⟩
    have h3':=g3.tups U2 _ _ h1'
    refine⟨_,rfl,ixT h3' aI0 ⟨rfl,_,rfl,ite2 aB (fun _=>?_)⟩⟩
    exact q _ L (g2.trans g3) (U3.mono (by lia))
   ·have n3:w0≠"ask":=fun y=>c (decide_eq_true (by rw[y]))
    refine⟨_,rfl,ixT h1' aI0 ⟨rfl,_,rfl,ite2 (fun c=>?_) (fun c=>?_)⟩⟩
    ·have e:w0="func":=V.str.inj (of_decide_eq_true c)
     subst e
     obtain⟨kh,k1,k2,-⟩:=U2.h
     obtain⟨U3,g3⟩:=U2.hand k1 g (.bl true)
     refine⟨_,rfl,o.u,cU,o.dx,_,.ref o.dh,rfl,U2.ob,N.cl,N.b1,rfl,_,rfl,ixT h1' aI1 ⟨o.dh,_,rfl,DPut.k (k:=.inr g) k1 (by lia),?_⟩⟩
     exact q _ L (g2.trans g3) (U3.mono (by lia))
    ·have n4:w0≠"func":=fun y=>c (decide_eq_true (by rw[y]))
     have e:w0="make":=by
      rcases c2 with y|y|y
      ·exact y
      ·exact absurd y n4
      ·exact absurd y n3
     subst e
     exact q _ L g2 (U2.mono (by lia))
  ·refine absurd ⟨_,_,h1,c1,c2,?_⟩ pl
   ·exact(by
    show(if w0="call"then _ else if w0="make"then _ else if w0="func"then _ else if w0="ask"then _ else st)=st
    rw[if_neg c1,if_neg (fun y=>c2 (.inl y)),if_neg (fun y=>c2 (.inr (.inl y))),if_neg (fun y=>c2 (.inr (.inr y)))])
def noteB(z:Str)(ns:List Str)(st:US):Bd->US
 |.give x=>addR z ns "given" st x
 |.lt _ d _=>noteD z ns d st
 |.case x as=>if y9 x as=true then addR z ns "anew" st x else st
 |.iff _ _ _=>st
def usesD(st:US)(d:Df):US:=d.b.all.foldl (noteB d.z d.ns) st
def yd(dfs:List Df):US:=dfs.foldl usesD US0
def cntB(dfs:List Df):Nat:=(dfs.map fun d=>d.b.all.length).sum
def XX(cU T1 T2:Addr):Sp:=fun vs H Q _=>∃(d p:Addr)(b:Bd)(z:Str)(ns:List Str)(o:UO)(L:Addr->Prop)(st:US)(n:Nat),vs=[.ref o.u,.ref d,.ref p]/\IsB H b p/\b.sz<=300000/\IsU cU T1 T2 H o L st n/\n+100 < 16000000/\d≠o.dh/\Pm H d z ns/\∀H' L',Gr T1 T2 o H L H' L'->IsU cU T1 T2 H' o L' (noteB z ns st b) (n+90)->Q .non H'
def JC(cU T1 T2:Addr):Sp:=fun vs H Q _=>∃(p pk pd:Addr)(ds:List Addr)(dfs:List Df),vs=[.ref p]/\H p=some (.tup [.ref pk,.ref pd])/\H pd=some (.tup (ds.map V.ref))/\IsFs H dfs ds/\(∀d∈dfs,d.b.sz<=300000/\d.ns.length<=1000)/\90*cntB dfs+100 < 16000000/\Tbs T1 T2 H/\∀H' o L,KM (MT T1 T2) H H'->IsU cU T1 T2 H' o L (yd dfs) (90*cntB dfs)->Q (.ref o.u) H'
theorem zas:FnScope lS23 lS23 (zo wE):=.ok
theorem JD{T1 T2:Addr}(F:Fun K "note_body" "note_body" wE f fd)(N:Un K cU)(MR:Me P w K mg base CX0 1 cU "add_reason" lS12 (Y1 cU T1 T2))(GD:Ca P w K mg base CX0 2 "note_deed" lS26 (XW cU T1 T2))(GA:Ca P w K mg base CX0 9 "uses_anew" ["body"] (Jt T1 T2)):FnOk P w K mg base CX0 10 f fd lS23 (XX cU T1 T2):=by
 refine F.by zas (fun vs H Q E h=>?_) (fun cdv A outer s H vs Q E hr h=>?_)
 ·obtain⟨d,p,b,z,ns,o,L,st,n,rfl,_⟩:=h
  rfl
 obtain⟨d,p,b,z,ns,o,L,st,n,rfl,hb,hz,hU,hn,nd,hP,q⟩:=h
 have hr9:Room 9 _:=hr.mono (by decide)
 have hr2:Room 2 _:=hr.mono (by decide)
 have hr1:Room 1 _:=hr.mono (by decide)
 refine⟨_,
  (zh (zy (tN zA (xT 2) zp)
   (zh (zD (ZQ (jv 0) N.cl MR hr1 xp (jA3 (jv 1) (xT 2) zp))))
   (zh (zy (tN zA (xT 2) zp)
    (zh (zD (cA GD hr2 (jA3 (jv 0) (jv 1) (xT 2)))))
    (zh (zy (jW.pt (ya (tN zA (xT 2) zp) (ya (Zo hr1 (xT 2) (jv 1)) (yc (yI (cA GA hr9 (jA1 (jv 2))))))))
     (zh (zD (ZQ (jv 0) N.cl MR hr1 xp (jA3 (jv 1) (xT 2) zp))))
     zt)))))),?_⟩
 have sl:=zF
 cases hb with
 |@give x _ hp =>
  refine⟨_,rfl,ixT hp aI0 ⟨rfl,_,rfl,ite2 (fun c=>?_) (fun c=>absurd (by decide) c)⟩⟩
  refine⟨_,rfl,o.u,o.dx,_,rfl,hU.ob,rfl,_,rfl,_,rfl,ixT hp aI1 ⟨d,x,"given",z,ns,o,L,_,n,rfl,hU,by lia,hP,fun H3 g3 U3=>?_⟩⟩
  exact q _ L g3 (U3.mono (by lia))
 |@lt x de b _ q1 r1 hp hd hb1 =>
  refine⟨_,rfl,ixT hp aI0 ⟨rfl,_,rfl,ite2 aB (fun _=>⟨_,rfl,ixT hp aI0 ⟨rfl,_,rfl,ite2 (fun c=>?_) (fun c=>absurd (by decide) c)⟩⟩)⟩⟩
  refine⟨_,rfl,_,rfl,_,rfl,ixT hp aI2 ⟨d,q1,de,z,ns,o,L,st,n,rfl,hd,hU,by lia,nd,hP,fun H' L' g U=>?_⟩⟩
  exact q _ L' g U
 |iff hp _ _ =>
  refine⟨_,rfl,ixT hp aI0 ⟨rfl,_,rfl,ite2 aB (fun _=>⟨_,rfl,ixT hp aI0 ⟨rfl,_,rfl,ite2 aB (fun _=>⟨_,rfl,ixT hp aI0 ⟨rfl,_,rfl,ite2 aB (fun _=>?_)⟩⟩)⟩⟩)⟩⟩
  exact q _ L (.refl hU.pres) (hU.mono (by lia))
 |@case x as ps _ q1 hp hq1 hl0 hA =>
  have hb:=IsB.case hp hq1 hl0 hA
  have az:as.sz<=300000:=by unfold Bd.sz at hz;lia
  refine⟨_,rfl,ixT hp aI0 ⟨rfl,_,rfl,ite2 aB (fun _=>⟨_,rfl,ixT hp aI0 ⟨rfl,_,rfl,ite2 aB (fun _=>⟨_,rfl,ixT hp aI0 ⟨rfl,_,rfl,ite2 (fun _=>?_) (fun c=>absurd (by decide) c)⟩⟩)⟩⟩)⟩⟩
  have hP':=hP
  obtain⟨kvs,hd,hk⟩:=hP'
  refine⟨_,rfl,ixT hp aI1 ⟨_,rfl,d,_,rfl,DGet.k (k:=.inr x) hd,_,rfl,?_⟩⟩
  rcases hk x with⟨p1,p2⟩|⟨k,t,p1,p2,p3⟩
  ·rw[p2]
   refine ite2 aB (fun _=>?_)
   have e:noteB z ns st (.case x as)=st:=by
    show(if y9 x as=true then addR z ns "anew" st x else st)=st
    unfold addR
    rw[p1]
    split<;>rfl
   rw[e]at q
   exact q _ L (.refl hU.pres) (hU.mono (by lia))
  rw[p2]
  refine ite2 (fun _=>?_) (fun c=>absurd rfl c)
  refine⟨_,rfl,p,x,as,rfl,hb,az,hU.tb,fun H1 k1 T1'=>⟨_,rfl,?_⟩⟩
  have U1:=hU.keep T1' k1
  have g1:Gr T1 T2 o H L H1 L:=⟨fun b u n e=>k1 b u (fun y=>n (.inr (.inr (.inr (.inr y))))) e,fun _ h=>h,fun _ h=>.inl h,U1.pres⟩
  by_cases ca:y9 x as=true
  ·rw[ca]
   refine iteT ?_
   refine⟨_,rfl,o.u,o.dx,_,rfl,U1.ob,rfl,_,rfl,_,rfl,ixT (g1.tups hU _ _ hp) aI1 ⟨d,x,"anew",z,ns,o,L,_,n,rfl,U1,by lia,g1.pm hU hP nd,fun H3 g3 U3=>?_⟩⟩
   refine q _ L (g1.trans g3) ?_
   rw[show noteB z ns st (.case x as)=addR z ns "anew" st x from if_pos ca]
   exact U3.mono (by lia)
  ·have ca:y9 x as=false:=by simpa using ca
   rw[ca]
   refine iteF ?_
   refine q _ L g1 ?_
   rw[show noteB z ns st (.case x as)=st from if_neg (by rw[ca];decide)]
   exact U1.mono (by lia)
mutual
theorem Bd.all_sz:∀(b:Bd){c:Bd},c∈b.all->c.sz<=b.sz
 |.give x,c,h=>by unfold Bd.all at h;rw[uj.mp h];exact ud _
 |.lt x d b,c,h=>by
  unfold Bd.all at h
  rcases um.mp h with h|h
  ·rw[h];exact ud _
  ·have:=Bd.all_sz b h;show _<=Bd.sz (.lt x d b);rw[Bd.sz];lia
 |.iff x a b,c,h=>by
  unfold Bd.all at h
  rcases um.mp h with h|h
  ·rw[h];exact ud _
  ·show _<=Bd.sz (.iff x a b)
   rw[Bd.sz]
   rcases uE.mp h with h|h
   ·have:=Bd.all_sz a h;lia
   ·have:=Bd.all_sz b h;lia
 |.case x as,c,h=>by
  unfold Bd.all at h
  rcases um.mp h with h|h
  ·rw[h];exact ud _
  ·have:=Arms.all_sz as h;show _<=Bd.sz (.case x as);rw[Bd.sz];lia
theorem Arms.all_sz:∀(a:Arms){c:Bd},c∈a.all->c.sz<=a.sz
 |.nil,c,h=>by unfold Arms.all at h;cases h
 |.cons t ns b r,c,h=>by
  unfold Arms.all at h
  rw[Arms.sz]
  rcases uE.mp h with h|h
  ·have:=Bd.all_sz b h;lia
  ·have:=Arms.all_sz r h;lia
end
theorem WG{l:List Df}{i:Nat}{d:Df}(h:l[i]?=some d):cntB (l.take (i+1))=cntB (l.take i)+d.b.all.length:=by
 unfold cntB
 rw[uw,h,ut,List.sum_append]
 show _+(_+0)=_
 rw[Nat.add_zero]
theorem zat(l:List Df)(i:Nat):cntB (l.take i)<=cntB l:=by
 conv=>rhs;rw[<- List.take_append_drop i l]
 unfold cntB
 rw[ut,List.sum_append]
 exact UB _ _
theorem scAllU:FnScope ["program","uses","one","params","k","param","body"] ["program"] (zo vG):=.ok
theorem zau{T1 T2:Addr}(F:Fun K "all_uses" "all_uses" vG f fd)(N:Un K cU)(GM:Ma P w K mg base CX0 1 "Uses" cU ["self"] (XV cU))(GI:Ca P w K mg base CX0 3 "bodies_in" ["body"] Jr)(GB:Ca P w K mg base CX0 10 "note_body" lS23 (XX cU T1 T2))(m_enumerate:mg "enumerate"=none):FnOk P w K mg base CX0 11 f fd ["program"] (JC cU T1 T2):=by
 refine F.by scAllU (fun vs H Q E h=>?_) (fun cdv A outer s H vs Q E hr h=>?_)
 ·obtain⟨p,pk,pd,ds,dfs,rfl,_⟩:=h
  rfl
 obtain⟨p,pk,pd,ds,dfs,rfl,hp,hpd,hF,hok,hc,hT,q⟩:=h
 have hr10:Room 10 _:=hr.mono (by decide)
 have hr3:Room 3 _:=hr.mono (by decide)
 have hr2:Room 2 _:=hr.mono (by decide)
 have hr1:Room 1 _:=hr.mono (by decide)
 refine⟨_,
  (zg (sE 1 scAllU.nd (zco GM hr2 rfl xp))
  (zg (zK PassesOwn.never rfl (yW (xT 0)) (gN 2 scAllU.nd)
   (zg (sE 3 scAllU.nd vA)
   (zg (zK PassesOwn.never rfl (Yb rfl m_enumerate (jA1 (xT 2))) (yi rfl (zv (gN 4 scAllU.nd) (zv (gN 5 scAllU.nd) zM)))
    (zh (xB hr1 (jv 3) (jv 5) (zu (jA2 (xT 2) (jv 4))))))
   (zh (zK PassesOwn.never rfl (zG (cA GI hr3 (jA1 (xT 2)))) (gN 6 scAllU.nd)
    (zh (zD (cA GB hr10 (jA3 (jv 1) (jv 3) (jv 6))))))))))
  (zh (zq (jv 1))))),?_⟩
 have sl:=zF
 intro x dx hx hdx ndx
 have s0:Same H (upd (upd H dx (.own x)) x (.ins cU dx [])):=Same.put (zn hdx _) hx
 refine⟨x,dx,rfl,upd_same,fun H1 dh df dc k1 e1 e2 e3 n1 n2 n3 g1 g2 g3 g4=>⟨rfl,?_⟩⟩
 have s1:Same H H1:=fun b u e=>k1 b u (zk e hx) (s0 b u e)
 have f1:=s0.free e1
 have f2:=s0.free e2
 have f3:=s0.free e3
 obtain⟨o,eo⟩:∃o:UO,o=⟨x,dx,dh,df,dc⟩:=⟨_,rfl⟩
 have U1:IsU cU T1 T2 H1 o (fun _=>False) US0 0:=by
  subst eo
  exact⟨g4,hT.same s1,n1,⟨[],g1,ud _,fun z=>rfl⟩,⟨[],g2,ud _,fun z k=>rfl⟩,⟨[],g3,ud _,(fun z k z' k' l h=>by cases h),(fun z k=>.inl ⟨rfl,rfl⟩)⟩,fun z k=>ud 0,fun b h=>h.elim⟩
 have ex:x=o.u:=by rw[eo]
 have fo:∀b,b=o.dh\/b=o.df\/b=o.dc->H b=none:=by
  rw[eo]
  rintro b (y|y|y)
  ·rw[y];exact f1
  ·rw[y];exact f2
  ·rw[y];exact f3
 clear eo
 subst ex
 refine⟨_,rfl,ixT (s1 _ _ hp) aI1 ⟨pd,rfl,⟨_,SqT.of (s1 _ _ hpd)⟩,yS (xs:=ds.map V.ref) (fun i σ H'=>∃L' va vb vc vd ve,Gr T1 T2 o H1 (fun _=>False) H' L'/\IsU cU T1 T2 H' o L' ((dfs.take i).foldl usesD US0) (90*cntB (dfs.take i))/\σ=[some (.ref p),some (.ref o.u),va,vb,vc,vd,ve]) ⟨_,none,none,none,none,none,.refl U1.pres,U1,rfl⟩ (fun i σ H' _ h=>?_) ?_ ?_⟩⟩
 ·obtain⟨L',_,_,_,_,_,g,_⟩:=h
  exact SqT.of (g.tups U1 _ _ (s1 _ _ hpd))
 ·rintro i v σ H2 hv ⟨L2,va,vb,vc,vd,ve,g2,U2,rfl⟩
  rw[ue]at hv
  obtain⟨t,ht,rfl⟩:=uh.mp hv
  obtain⟨d,hd,hFd⟩:=hF.get ht
  obtain⟨qn,pb,e1,e2,e3⟩:=((hFd.keep (.of s1)).keep (g2.tups U1)).ex
  obtain⟨hsz,hns⟩:=hok d (uq hd)
  have cs:=WG hd
  have cl:=zat dfs (i+1)
  intro dp hdp
  have s3:=zn (o:=.dK []) hdp
  refine⟨_,rfl,ixT (s3 _ _ e1) aI1 ⟨qn,rfl,⟨_,SqT.of (s3 _ _ e2)⟩,jz (xs:=d.ns.map V.str) (fun j σ H'=>∃va vb,Same H2 H'/\Pm H' dp d.z (d.ns.take j)/\(∃kvs,H' dp=some (.dK kvs)/\kvs.length<=j)/\σ=[some (.ref p),some (.ref o.u),some (.ref t),some (.ref dp),va,vb,ve]) ⟨_,_,s3,⟨[],upd_same,fun x=>.inl ⟨rfl,rfl⟩⟩,⟨[],upd_same,ud _⟩,rfl⟩ (fun j σ H' _ h=>?_) ?_ ?_⟩⟩
  ·obtain⟨_,_,s,_⟩:=h
   exact SqT.of (s _ _ e2)
  ·rintro j x T σ H4 hx hT ⟨va,vb,s4,P4,⟨kvs,hk1,hk2⟩,rfl⟩
   rw[ue]at hx
   obtain⟨x,hx0,rfl⟩:=uh.mp hx
   have hj:=(uc.mp hx0).1
   have s5:=s4.new (o:=.tup [.int (j:Nat),.str x]) hT
   have hT5:=upd_same (H:=H4) (a:=T) (o:=.tup [.int (j:Nat),.str x])
   have s45:=zn (o:=.tup [.int (j:Nat),.str x]) hT
   refine⟨T,_,rfl,SqT.of hT5,rfl,_,_,rfl,_,_,rfl,rfl,?_⟩
   generalize upd H4 T (.tup [.int (j:Nat),.str x])=H5 at *
   refine⟨_,rfl,ixT (s5 _ _ e1) aI0 ⟨_,rfl,sN2,fun t2 ht2=>?_⟩⟩
   have s6:=s5.new (o:=.tup [.str d.z,.int (j:Nat)]) ht2
   have ht6:=upd_same (H:=H5) (a:=t2) (o:=.tup [.str d.z,.int (j:Nat)])
   have s46:=s45.new (o:=.tup [.str d.z,.int (j:Nat)]) ht2
   generalize upd H5 t2 (.tup [.str d.z,.int (j:Nat)])=H6 at *
   have hk6:=s46 _ _ hk1
   refine⟨_,rfl,_,rfl,dp,_,rfl,DPut.k (k:=.inr x) hk6 (by lia),?_⟩
   have s7:=s6.put (o:=.dK (putK kvs (.inr x) (.ref t2))) hdp
   have tp:Tups H6 (upd H6 dp (.dK (putK kvs (.inr x) (.ref t2)))):=fun b xs e=>by rw[zi (fun y=>by rw[y,hk6]at e;cases e)];exact e
   have lk:=yb kvs (.inr x) (.ref t2)
   refine⟨_,_,s7,⟨_,upd_same,fun y=>?_⟩,⟨_,upd_same,by lia⟩,rfl⟩
   obtain⟨kvs',z1,z2⟩:=P4
   rw[hk1]at z1
   cases z1
   have et:d.ns.take (j+1)=d.ns.take j++[x]:=by rw[uw,hx0];rfl
   rw[et,Jy,y0]
   by_cases y':x=y
   ·subst y'
    refine .inr ⟨j,t2,?_,by rw[if_pos rfl],tp _ _ ht6⟩
    rw[if_pos rfl,uN,Nat.min_eq_left (by lia)]
   ·rw[if_neg y',if_neg (fun w=>y' (Sum.inr.inj w).symm)]
    exact(z2 y).imp_right fun⟨k,t',a,b,c⟩=>⟨k,t',a,b,tp _ _ (s46 _ _ c)⟩
  rintro σ H3 ⟨va,vb,s4,P4,_,rfl⟩
  rw[ua,uk (ud _)]at P4
  have U3:=U2.same s4
  have g3:=g2.trans (.same U2 s4)
  have ndh:dp≠o.dh:=fun y=>by
   obtain⟨_,e,_⟩:=U2.h
   rw[<- y,hdp]at e
   cases e
  refine⟨_,rfl,ixT (s4 _ _ e1) aI2 ⟨pb,d.b,rfl,e3.keep (.of s4),by lia,fun H4 r ps s5 hr0 hr4 hbs=>?_⟩⟩
  have U4:=U3.same s5
  have g4:=g3.trans (.same U3 s5)
  have P5:Pm H4 dp d.z d.ns:=P4.keep (fun kvs e=>s5 _ _ e) (.of s5)
  have nr:¬ Ow T1 T2 o L2 r:=fun y=>U3.pres r y hr0
  have al:=All2.len hbs
  refine⟨r,rfl,⟨_,SqL.of hr4⟩,ym (xs:=ps.map V.ref) (fun j σ H'=>∃L' vb',Gr T1 T2 o H4 L2 H' L'/\IsU cU T1 T2 H' o L' ((d.b.all.take j).foldl (noteB d.z d.ns) ((dfs.take i).foldl usesD US0)) (90*cntB (dfs.take i)+90*j)/\σ=[some (.ref p),some (.ref o.u),some (.ref t),some (.ref dp),va,vb,vb']) ⟨_,_,.refl U4.pres,U4,rfl⟩ (fun j σ H' _ h=>?_) ?_ ?_⟩
  ·obtain⟨_,_,g,_⟩:=h
   exact SqL.of (g.k _ _ nr hr4)
  ·rintro j v σ H5 hv ⟨L5,vb',g5,U5,rfl⟩
   rw[ue]at hv
   obtain⟨pw,hpw,rfl⟩:=uh.mp hv
   obtain⟨b1,b2,b3⟩:=All2.get hbs hpw
   have hj:=(uc.mp b2).1
   have bz:=Bd.all_sz d.b (uq b2)
   refine⟨_,rfl,_,rfl,_,rfl,dp,pw,b1,d.z,d.ns,o,L5,_,_,rfl,b3.keep (g5.tups U4),by lia,U5,by lia,ndh,g5.pm U4 P5 ndh,fun H6 L6 g6 U6=>⟨_,_,g5.trans g6,?_,rfl⟩⟩
   rw[uw,b2,UU]
   exact U6.mono (by lia)
  rintro σ H5 ⟨L5,vb',g5,U5,rfl⟩
  rw[ua,<- al,uk (ud _)]at U5
  refine⟨_,_,_,_,_,_,g4.trans g5,?_,rfl⟩
  rw[uw,hd,UU]at *
  rw[cs]
  exact U5.mono (by lia)
 rintro σ H2 ⟨L2,va,vb,vc,vd,ve,g2,U2,rfl⟩
 rw[ua,<- hF.len,uk (ud _)]at U2
 refine⟨_,rfl,q H2 o L2 (fun b u n e=>g2.k b u (fun y=>?_) (s1 _ _ e)) U2⟩
 rcases y with y|y|y|y|y
 ·rw[fo b (.inl y)]at e;cases e
 ·rw[fo b (.inr (.inl y))]at e;cases e
 ·rw[fo b (.inr (.inr y))]at e;cases e
 ·exact y
 ·exact n y
end
inductive Why where
 |own (r:Str)
 |called (g:Str) (j:Nat)
structure Rw where
 z:Str
 k:Nat
 y:Why
def Rw.key(r:Rw):Str×Nat:=(r.z,r.k)
def YAt(H:Hp)(q:Addr):Why->Prop
 |.own r=>H q=some (.tup [.str r])
 |.called g j=>H q=some (.tup [.str "called",.str g,.int ((j:Nat):Int)])
theorem YAt.keep{H H':Hp}{q:Addr}{y:Why}(h:YAt H q y)(t:Tups H H'):YAt H' q y:=by
 cases y with
 |own r=>exact t _ _ h
 |called g j=>exact t _ _ h
def RowsAt(H:Hp)(rows:List Rw)(ps:List Addr):Prop:=All2 (fun(r:Rw) t=>∃q,H t=some (.tup [.str r.z,.int ((r.k:Nat):Int),.ref q])/\YAt H q r.y) rows ps
theorem RowsAt.keep{H H':Hp}{rows:List Rw}{ps:List Addr}(h:RowsAt H rows ps)(t:Tups H H'):RowsAt H' rows ps:=All2.imp h fun _ _ ⟨q,a,b⟩=>⟨q,t _ _ a,b.keep t⟩
def rsn(st:US)(z:Str)(k:Nat):Str:=if st.hd z=true then "handed"else(st.F z k).getD ""
def own1(st:US)(z:Str)(k:Nat):List Rw:=if rsn st z k≠""then[⟨z,k,.own (rsn st z k)⟩]else[]
def ownD(st:US)(d:Df):List Rw:=(uC d.ns.length).flatMap (own1 st d.z)
def ownR(st:US)(dfs:List Df):List Rw:=dfs.flatMap (ownD st)
def zO(g:Str)(j:Nat)(rows:List Rw)(c:Str×Nat):List Rw:=if c∈rows.map Rw.key then rows else rows++[⟨c.1,c.2,.called g j⟩]
def vU(st:US)(rows:List Rw)(r:Rw):List Rw:=(st.C r.z r.k).foldl (zO r.z r.k) rows
def runR(st:US):Nat->Nat->List Rw->List Rw
 |0,_,rows=>rows
 |f+1,a,rows=>match rows[a]? with
  |none=>rows
  |some r=>runR st f (a+1) (vU st rows r)
def cand(dfs:List Df):List (Str×Nat):=dfs.flatMap fun d=>(uC d.ns.length).map fun k=>(d.z,k)
def unk(cs:List (Str×Nat))(rows:List Rw):Nat:=(cs.filter fun c=>decide (c∉rows.map Rw.key)).length
def yj(dfs:List Df):List Rw:=runR (yd dfs) (unk (cand dfs) (ownR (yd dfs) dfs)+(ownR (yd dfs) dfs).length) 0 (ownR (yd dfs) dfs)
theorem zav(cs:List (Str×Nat))(rows:List Rw)(r:Rw)(h1:r.key∈cs)(h2:r.key∉rows.map Rw.key):unk cs (rows++[r])+1<=unk cs rows:=by
 unfold unk
 induction cs with
 |nil=>cases h1
 |cons c cs ih =>
  have mono:(cs.filter fun c=>decide (c∉(rows++[r]).map Rw.key)).length<=(cs.filter fun c=>decide (c∉rows.map Rw.key)).length:=by
   clear ih h1
   induction cs with
   |nil=>exact ud _
   |cons c' cs ih =>
    rw[List.filter_cons,List.filter_cons]
    by_cases a:c'∈rows.map Rw.key
    ·rw[if_neg (by simp only[decide_eq_true_eq,Classical.not_not];rw[ut];exact uB _ a),if_neg (by simp only[decide_eq_true_eq,Classical.not_not];exact a)]
     exact ih
    ·rw[if_pos (c:=decide (c'∉rows.map Rw.key)=true) (decide_eq_true a)]
     split
     ·rw[ul,ul];lia
     ·rw[ul];lia
  rw[List.filter_cons,List.filter_cons]
  by_cases a:c=r.key
  ·rw[if_neg (by simp only[decide_eq_true_eq,Classical.not_not];rw[ut,a];exact uo _ (uj.mpr rfl)),if_pos (by rw[a];exact decide_eq_true h2),ul]
   lia
  ·have h1:r.key∈cs:=by
    rcases um.mp h1 with h|h
    ·exact absurd h.symm a
    ·exact h
   have ih:=ih h1
   by_cases b:c∈rows.map Rw.key
   ·rw[if_neg (by simp only[decide_eq_true_eq,Classical.not_not];rw[ut];exact uB _ b),if_neg (by simp only[decide_eq_true_eq,Classical.not_not];exact b)]
    exact ih
   ·rw[if_pos (c:=decide (c∉rows.map Rw.key)=true) (decide_eq_true b),if_pos (by rw[decide_eq_true_eq,ut];intro h;rcases uE.mp h with h|h;exact b h;exact a (uj.mp h))]
    rw[ul,ul]
    lia
theorem Y2{cs:List (Str×Nat)}{rows:List Rw}{g:Str}{j:Nat}{c:Str×Nat}(h:c∈cs):(zO g j rows c).length+unk cs (zO g j rows c)<=rows.length+unk cs rows/\rows.length<=(zO g j rows c).length:=by
 unfold zO
 split
 ·exact⟨ud _,ud _⟩
 ·rename_i n
  have:=zav cs rows ⟨c.1,c.2,.called g j⟩ h n
  rw[uf]
  exact⟨by show _+1+_<=_;lia,UB _ _⟩
theorem xE{cs:List (Str×Nat)}{g:Str}{j:Nat}:∀{l:List (Str×Nat)}{rows:List Rw},(∀c∈l,c∈cs)->(l.foldl (zO g j) rows).length+unk cs (l.foldl (zO g j) rows)<=rows.length+unk cs rows/\rows.length<=(l.foldl (zO g j) rows).length
 |[],rows,_=>⟨ud _,ud _⟩
 |c::l,rows,h=>by
  have a:=Y2 (rows:=rows) (g:=g) (j:=j) (h c uK)
  have b:=xE (l:=l) (rows:=zO g j rows c) (g:=g) (j:=j) fun c' h'=>h c' (uD _ h')
  rw[Ul]
  exact⟨by lia,by lia⟩
theorem JE(cs:List (Str×Nat))(rows:List Rw):unk cs rows<=cs.length:=U8 ..
def Cin(dfs:List (Str×Nat))(st:US):Prop:=∀z k,∀c∈st.C z k,c∈dfs
section
variable{cs:List (Str×Nat)}{st:US}{z:Str}{ns:List Str}
theorem Cin.addR(h:Cin cs st){r x:Str}:Cin cs (addR z ns r st x):=by
 unfold GN.addR
 split
 ·exact h
 ·exact h
theorem Cin.addRs:∀{xs:List Str}{st:US}{r:Str},Cin cs st->Cin cs (xs.foldl (GN.addR z ns r) st)
 |[],_,_,h=>h
 |x::xs,st,r,h=>Cin.addRs (xs:=xs) (Cin.addR h)
theorem Cin.addC1(hz:∀k,k < ns.length->(z,k)∈cs)(h:Cin cs st){g x:Str}{j:Nat}:Cin cs (addC1 z ns g j st x):=by
 unfold GN.addC1
 split
 ·exact h
 ·rename_i k e
  intro z' k' c hc
  replace hc:c∈(if z'=g/\k'=j then st.C z' k'++[(z,k)]else st.C z' k'):=hc
  split at hc
  ·rcases uE.mp hc with hc|hc
   ·exact h _ _ _ hc
   ·rw[uj.mp hc];exact hz k (zcA e)
  ·exact h _ _ _ hc
theorem Cin.addC(hz:∀k,k < ns.length->(z,k)∈cs){g:Str}(xs:List Str)(h:Cin cs st):Cin cs (addC z ns g st xs):=by
 unfold GN.addC
 generalize xs.zipIdx=l
 induction l generalizing st with
 |nil=>exact h
 |cons a l ih=>exact ih (Cin.addC1 hz h)
theorem Cin.noteD(hz:∀k,k < ns.length->(z,k)∈cs)(h:Cin cs st)(d:De):Cin cs (noteD z ns d st):=by
 cases d with
 |num i=>exact h
 |op w a b=>exact h
 |app w f xs =>
  show Cin cs (if w="call"then _ else if w="make"then _ else if w="func"then _ else if w="ask"then _ else st)
  split
  ·exact Cin.addC hz xs h
  split
  ·exact Cin.addRs h
  split
  ·exact Cin.addRs (xs:=xs) (r:="put") h
  split
  ·exact Cin.addR (Cin.addRs h)
  ·exact h
theorem Cin.noteB(hz:∀k,k < ns.length->(z,k)∈cs)(h:Cin cs st)(b:Bd):Cin cs (noteB z ns st b):=by
 cases b with
 |give x=>exact Cin.addR h
 |lt x d b=>exact Cin.noteD hz h d
 |iff x a b=>exact h
 |case x as =>
  show Cin cs (if y9 x as=true then GN.addR z ns "anew" st x else st)
  split
  ·exact Cin.addR h
  ·exact h
theorem Cin.noteBs(hz:∀k,k < ns.length->(z,k)∈cs):∀(l:List Bd){st:US},Cin cs st->Cin cs (l.foldl (GN.noteB z ns) st)
 |[],_,h=>h
 |b::l,st,h=>Cin.noteBs hz l (Cin.noteB hz h b)
theorem Cin.usesD:∀(l:List Df){st:US},(∀d∈l,∀k,k < d.ns.length->(d.z,k)∈cs)->Cin cs st->Cin cs (l.foldl usesD st)
 |[],_,_,h=>h
 |d::l,st,hz,h=>Cin.usesD l (fun d' h'=>hz d' (uD _ h')) (Cin.noteBs (hz d uK) _ h)
theorem Cin.of(dfs:List Df):Cin (cand dfs) (yd dfs):=by
 refine Cin.usesD dfs (fun d hd k hk=>?_) (fun z k c h=>by cases h)
 unfold cand
 exact Uq.mpr ⟨d,hd,uy.mpr ⟨k,Us.mpr hk,rfl⟩⟩
end
def zbi(cU T1 T2:Addr):Sp:=fun vs H Q _=>∃(p pk pd:Addr)(ds:List Addr)(dfs:List Df)(o:UO)(L:Addr->Prop)(st:US)(n:Nat),vs=[.ref p,.ref o.u]/\H p=some (.tup [.ref pk,.ref pd])/\H pd=some (.tup (ds.map V.ref))/\IsFs H dfs ds/\(cand dfs).length<=100000/\IsU cU T1 T2 H o L st n/\∀H' r ps,Same H H'->H r=none->H' r=some (.lst (ps.map V.ref))->RowsAt H' (ownR st dfs) ps->Q (.ref r) H'
theorem JF(st:US)(z:Str)(k:Nat):(own1 st z k).length<=1:=by
 unfold own1
 split
 ·exact ud _
 ·exact uW _
theorem zaw{c:Prop}[Decidable c]{ta tb:TE}{σ:St}{H:Hp}{Q:VK}{R:V->Hp->Prop}(a:c->∀Q:VK,(∀v H',R v H'->Q v H')->ta σ H Q)(b:¬ c->∀Q:VK,(∀v H',R v H'->Q v H')->tb σ H Q)(fin:∀v H',R v H'->Q v H'):if c then ta σ H Q else tb σ H Q:=by
 split
 ·rename_i h;exact a h _ fin
 ·rename_i h;exact b h _ fin
theorem vV(st:US)(z:Str):∀n:Nat,((uC n).flatMap (own1 st z)).length<=n
 |0=>ud _
 |n+1=>by
  rw[UR,Ud,uf]
  have:=vV st z n
  have:=JF st z n
  simp only[Um,List.flatMap_nil,ux]
  lia
theorem wp(st:US):∀dfs:List Df,(ownR st dfs).length<=(cand dfs).length
 |[]=>ud _
 |d::l=>by
  have a:=wp st l
  have b:=vV st d.z d.ns.length
  unfold ownR cand at a ⊢
  rw[Um,Um,uf,uf,ua,Uw]
  unfold ownD
  unfold ownD at a
  lia
theorem WH(dfs:List Df){i:Nat}{d:Df}(h:dfs[i]?=some d):(cand (dfs.take i)).length+d.ns.length<=(cand dfs).length:=by
 have e:cand dfs=cand (dfs.take i)++cand (dfs.drop i):=by unfold cand;rw[<- Ud,List.take_append_drop]
 have e2:dfs.drop i=d::dfs.drop (i+1):=by
  obtain⟨hi,rfl⟩:=uc.mp h
  exact List.drop_eq_getElem_cons hi
 rw[e,uf,e2]
 unfold cand
 rw[Um,uf,ua,Uw]
 lia
section
variable{P:Program}{w:World}{K:ub}{mg:Str->Option Value}{base:Heap}{f cU:Addr}{fd:FuncData}
theorem scOwn:FnScope ["program","uses","rows","one","k","reason"] ["program","uses"] (zo vE):=.ok
theorem zcC{T1 T2:Addr}(F:Fun K "own_rows" "own_rows" vE f fd)(N:Un K cU)(m_range:mg "range"=none)(m_len:mg "len"=none):FnOk P w K mg base CX0 1 f fd ["program","uses"] (zbi cU T1 T2):=by
 refine F.by scOwn (fun vs H Q E h=>?_) (fun cdv A outer s H vs Q E hr h=>?_)
 ·obtain⟨p,pk,pd,ds,dfs,o,L,st,n,rfl,_⟩:=h
  rfl
 obtain⟨p,pk,pd,ds,dfs,o,L,st,n,rfl,hp,hpd,hF,hcl,hU,q⟩:=h
 refine⟨_,
  (zg (sE 2 scOwn.nd (zB zE))
  (zg (zK PassesOwn.never rfl (yW (xT 0)) (gN 3 scOwn.nd)
   (zh (zK PassesOwn.never rfl (zV rfl m_range (jA1 (jL m_len (xT 3)))) (gN 4 scOwn.nd)
    (zg (sE 5 scOwn.nd (Vg (Zo hr (xT 3) (yC (jv 1))) zp (vP hr (yC (jv 1)) (zu (jA2 (xT 3) (jv 4))) zp)))
    (zh (zy (tN ZH (jv 5) zp)
     (zh (zD (yu uz uI uJ zH (jv 2) (jA1 (zu (jA3 (xT 3) (jv 4) (zu (jA1 (jv 5)))))))))
     zt))))))
  (zh (zq (jv 2))))),?_⟩
 have sl:=zF
 refine⟨sN0,fun r hr0=>?_⟩
 have s1:=zn (o:=.lst []) hr0
 refine⟨_,rfl,ixT (s1 _ _ hp) aI1 ⟨pd,rfl,⟨_,SqT.of (s1 _ _ hpd)⟩,yS (xs:=ds.map V.ref) (fun i σ H'=>∃va vb vc,∃ps:List Addr,Same H H'/\H' r=some (.lst (ps.map V.ref))/\RowsAt H' (ownR st (dfs.take i)) ps/\σ=[some (.ref p),some (.ref o.u),some (.ref r),va,vb,vc]) ⟨none,none,none,[],s1,upd_same,.nil,rfl⟩ (fun i σ H' _ h=>?_) ?_ ?_⟩⟩
 ·obtain⟨_,_,_,_,s,_⟩:=h
  exact SqT.of (s _ _ hpd)
 ·rintro i v σ H2 hv ⟨va,vb,vc,ps,s2,hr2,hR,rfl⟩
  rw[ue]at hv
  obtain⟨t,ht,rfl⟩:=uh.mp hv
  obtain⟨d,hd,hFd⟩:=hF.get ht
  obtain⟨qn,pb,e1,e2,-⟩:=hFd.ex
  have c1:=WH dfs hd
  have c2:=wp st (dfs.take i)
  refine⟨_,rfl,ixT (s2 _ _ e1) aI1 ⟨qn,_,rfl,.inr (SqT.of (s2 _ _ e2)),_,rfl,by lia,by rw[ua];lia,?_⟩⟩
  rw[show(((d.ns.map V.str).length:Nat):Int).toNat=d.ns.length by rw[ua];rfl]
  refine wx (n:=d.ns.length) (fun j σ H'=>∃vb vc,∃ps:List Addr,Same H H'/\H' r=some (.lst (ps.map V.ref))/\RowsAt H' (ownR st (dfs.take i)++(uC j).flatMap (own1 st d.z)) ps/\σ=[some (.ref p),some (.ref o.u),some (.ref r),some (.ref t),vb,vc]) ⟨vb,vc,ps,s2,hr2,by rw[show(uC 0).flatMap (own1 st d.z)=[]from rfl,ux];exact hR,rfl⟩ ?_ ?_
  ·rintro j σ H3 hj ⟨vb,vc,ps,s3,hr3,hR3,rfl⟩
   rw[tT]
   have U3:=hU.same s3
   obtain⟨kh,h1,h2,h3⟩:=U3.h
   have es:(uC (j+1)).flatMap (own1 st d.z)=(uC j).flatMap (own1 st d.z)++own1 st d.z j:=by rw[UR,Ud];simp
   have c3:=vV st d.z j
   have c4:=All2.len hR3
   rw[uf]at c4
   obtain⟨kf,f1,f2,f3⟩:=U3.f
   refine⟨_,rfl,ixT (s3 _ _ e1) aI0 ⟨_,rfl,o.u,cU,o.dx,_,.ref o.dh,rfl,U3.ob,N.cl,N.b1,rfl,o.dh,_,rfl,DGet.k (k:=.inr d.z) h1,_,rfl,?_⟩⟩
   rw[h3]
   refine zaw (R:=fun v H'=>v=.str (rsn st d.z j)/\Same H3 H') (fun c Q fin=>?_) (fun c Q fin=>?_) ?_
   ·exact fin _ _ ⟨by unfold rsn;rw[if_pos c],fun _ _ h=>h⟩
   ·refine⟨_,rfl,o.u,cU,o.dx,_,.ref o.df,rfl,U3.ob,N.cl,N.b2,rfl,o.df,rfl,.inr ⟨kf,.of f1⟩,_,rfl,ixT (s3 _ _ e1) aI0 ⟨_,rfl,sN2,fun tk htk=>?_⟩⟩
    have s4:=zn (o:=.tup [.str d.z,.int ((j:Nat):Int)]) htk
    refine⟨_,DGet.t (k:=kz d.z j) (s4 _ _ f1) upd_same,?_⟩
    rw[f3]
    refine fin _ _ ⟨?_,s4⟩
    unfold rsn
    rw[if_neg c]
    cases st.F d.z j with
    |none=>rfl
    |some r=>rfl
   rintro v H4 ⟨rfl,s4⟩
   have s04:=s3.trans s4
   refine⟨_,rfl,rfl,_,rfl,?_⟩
   by_cases ce:rsn st d.z j=""
   ·rw[show(!decide (V.str (rsn st d.z j)=V.str ""))=false by rw[ce];rfl]
    refine iteF ⟨_,_,ps,s04,s4 _ _ hr3,?_,rfl⟩
    rw[es,show own1 st d.z j=[] by unfold own1;rw[if_neg (fun y=>y ce)],ux]
    exact hR3.keep (.of s4)
   ·rw[show(!decide (V.str (rsn st d.z j)=V.str ""))=true by rw[decide_eq_false (fun y=>ce (V.str.inj y))];rfl]
    refine iteT ?_
    refine⟨_,rfl,.inl ⟨rfl,_,SqL.of (s4 _ _ hr3)⟩,_,rfl,ixT (s04 _ _ e1) aI0 ⟨_,rfl,_,rfl,sN1,fun q1 hq1=>⟨sN3,fun t1 ht1=>?_⟩⟩⟩
    have s5:=s04.new (o:=.tup [.str (rsn st d.z j)]) hq1
    have s45:=s4.new (o:=.tup [.str (rsn st d.z j)]) hq1
    have hq5:=upd_same (H:=H4) (a:=q1) (o:=.tup [.str (rsn st d.z j)])
    generalize upd H4 q1 (.tup [.str (rsn st d.z j)])=H5 at *
    have s6:=s5.new (o:=.tup [.str d.z,.int ((j:Nat):Int),.ref q1]) ht1
    have s46:=s45.new (o:=.tup [.str d.z,.int ((j:Nat):Int),.ref q1]) ht1
    have hq6:=old (o:=.tup [.str d.z,.int ((j:Nat):Int),.ref q1]) ht1 hq5
    have ht6:=upd_same (H:=H5) (a:=t1) (o:=.tup [.str d.z,.int ((j:Nat):Int),.ref q1])
    generalize upd H5 t1 (.tup [.str d.z,.int ((j:Nat):Int),.ref q1])=H6 at *
    have hr6:=s46 _ _ hr3
    refine⟨r,_,_,rfl,rfl,hr6,by rw[ua];lia,?_⟩
    have tp:Tups H6 (upd H6 r (.lst (ps.map V.ref++[.ref t1]))):=fun b xs e=>by rw[zi (fun y=>by rw[y,hr6]at e;cases e)];exact e
    refine⟨_,_,ps++[t1],s6.put hr0,by rw[upd_same,ut];rfl,?_,rfl⟩
    rw[es,<- Ur,show own1 st d.z j=[⟨d.z,j,.own (rsn st d.z j)⟩] by unfold own1;rw[if_pos ce]]
    exact All2.app ((hR3.keep (.of s46)).keep tp) (.cons ⟨q1,tp _ _ ht6,tp _ _ hq6⟩ .nil)
  rintro σ H3 ⟨vb,vc,ps,s3,hr3,hR3,rfl⟩
  refine⟨_,_,_,ps,s3,hr3,?_,rfl⟩
  rw[uw,hd]
  unfold ownR
  rw[Ud]
  simp only[Option.toList_some,Um,List.flatMap_nil,ux]
  exact hR3
 rintro σ H2 ⟨va,vb,vc,ps,s2,hr2,hR,rfl⟩
 rw[ua,<- hF.len,uk (ud _)]at hR
 exact⟨_,rfl,q _ r ps s2 hr0 hr2 hR⟩
end
variable{st:US}{cs:List (Str×Nat)}
theorem wW(g:Str)(j:Nat):∀(l:List (Str×Nat))(rows:List Rw),(rows.map Rw.key).Nodup->((l.foldl (zO g j) rows).map Rw.key).Nodup
 |[],rows,h=>h
 |c::l,rows,h=>by
  refine wW g j l _ ?_
  unfold zO
  split
  ·exact h
  ·rename_i n
   rw[ut,tO]
   refine⟨h,by simp,fun x hx y hy e=>n ?_⟩
   rw[List.map_singleton,uj]at hy
   subst hy
   rw[e]at hx
   exact hx
theorem vW:∀(f a:Nat)(rows:List Rw),(rows.map Rw.key).Nodup->((runR st f a rows).map Rw.key).Nodup
 |0,a,rows,h=>h
 |f+1,a,rows,h=>by
  unfold runR
  split
  ·exact h
  ·exact vW f (a+1) _ (wW _ _ _ _ h)
section
variable{dfs:List Df}
theorem Yc(st:US)(z:Str):∀n:Nat,(((uC n).flatMap (own1 st z)).map Rw.key).Nodup/\∀r∈(uC n).flatMap (own1 st z),r.z=z/\r.k < n
 |0=>⟨List.nodup_nil,fun r h=>by cases h⟩
 |n+1=>by
  obtain⟨a,b⟩:=Yc st z n
  have e:(uC (n+1)).flatMap (own1 st z)=(uC n).flatMap (own1 st z)++own1 st z n:=by rw[UR,Ud];simp
  rw[e]
  have o:∀r∈own1 st z n,r.z=z/\r.k=n:=fun r h=>by
   unfold own1 at h
   split at h
   ·rw[uj.mp h];exact⟨rfl,rfl⟩
   ·cases h
  refine⟨?_,fun r h=>?_⟩
  ·rw[ut,tO]
   refine⟨a,?_,fun x hx y hy e=>?_⟩
   ·unfold own1
    split<;>simp
   ·obtain⟨r,h1,rfl⟩:=uy.mp hx
    obtain⟨s,h2,rfl⟩:=uy.mp hy
    have h3:=(b r h1).2
    have h4:=(o s h2).2
    have h5:r.k=s.k:=congrArg (·.2) e
    lia
  ·rcases uE.mp h with h|h
   ·exact⟨(b r h).1,Te (b r h).2⟩
   ·exact⟨(o r h).1,by have:=(o r h).2;lia⟩
theorem jC(st:US):∀dfs:List Df,(dfs.map (·.z)).Nodup->((ownR st dfs).map Rw.key).Nodup/\∀r∈ownR st dfs,∃d∈dfs,r.z=d.z/\r.k < d.ns.length
 |[],_=>⟨List.nodup_nil,fun r h=>by cases h⟩
 |d::l,h=>by
  rw[uH,Ub]at h
  obtain⟨a,b⟩:=jC st l h.2
  obtain⟨c,e⟩:=Yc st d.z d.ns.length
  have eq:ownR st (d::l)=ownD st d++ownR st l:=by unfold ownR;rw[Um]
  rw[eq]
  refine⟨?_,fun r hr=>?_⟩
  ·rw[ut,tO]
   refine⟨c,a,fun x hx y hy e'=>?_⟩
   obtain⟨r,h1,rfl⟩:=uy.mp hx
   obtain⟨s,h2,rfl⟩:=uy.mp hy
   obtain⟨d',hd',h3,_⟩:=b s h2
   have h4:=(e r h1).1
   have h5:r.z=s.z:=congrArg (·.1) e'
   exact h.1 (uy.mpr ⟨d',hd',by rw[<- h3,<- h5,h4]⟩)
  ·rcases uE.mp hr with hr|hr
   ·exact⟨d,uK,(e r hr).1,(e r hr).2⟩
   ·obtain⟨d',hd',h'⟩:=b r hr
    exact⟨d',uD _ hd',h'⟩
theorem Y3(h:(dfs.map (·.z)).Nodup):((yj dfs).map Rw.key).Nodup:=vW _ 0 _ (jC _ dfs h).1
end
def RsB(ns:List Str)(k:Nat)(r:Str):Bd->Prop
 |.give x=>pix ns x=some k/\r="given"
 |.lt _ (.app w f xs) _=>((w="make"\/w="func"\/w="ask")/\(∃x∈xs,pix ns x=some k)/\r="put")\/(w="ask"/\pix ns f=some k/\r="asked")
 |.lt _ _ _=>False
 |.case x as=>y9 x as=true/\pix ns x=some k/\r="anew"
 |.iff _ _ _=>False
def FnB(g:Str):Bd->Prop
 |.lt _ (.app w f _) _=>w="func"/\f=g
 |_=>False
def ClB(ns:List Str)(g:Str)(j k:Nat):Bd->Prop
 |.lt _ (.app w f xs) _=>w="call"/\f=g/\∃x,xs[j]?=some x/\pix ns x=some k
 |_=>False
section
variable{z:Str}{ns:List Str}{st:US}
theorem Zp{r x:Str}:(addR z ns r st x).hd=st.hd:=by unfold addR;split<;>rfl
theorem Y4{r x:Str}:(addR z ns r st x).C=st.C:=by unfold addR;split<;>rfl
theorem xP{r x:Str}(z':Str)(k':Nat):(addR z ns r st x).F z' k'=if z'=z/\pix ns x=some k' then some r else st.F z' k':=by
 unfold addR
 split
 ·rename_i e
  rw[if_neg (fun h=>by rw[e]at h;cases h.2)]
 ·rename_i k e
  show(if z'=z/\k'=k then some r else st.F z' k')=_
  by_cases h:z'=z/\k'=k
  ·rw[if_pos h,if_pos ⟨h.1,by rw[e,h.2]⟩]
  ·rw[if_neg h,if_neg (fun w=>h ⟨w.1,by rw[e]at w;exact(uO.inj w.2).symm⟩)]
theorem wq(r:Str):∀(xs:List Str)(st:US),(xs.foldl (addR z ns r) st).hd=st.hd
 |[],_=>rfl
 |x::xs,st=>by rw[Ul,wq r xs,Zp]
theorem vg(r:Str):∀(xs:List Str)(st:US),(xs.foldl (addR z ns r) st).C=st.C
 |[],_=>rfl
 |x::xs,st=>by rw[Ul,vg r xs,Y4]
theorem xi(r:Str)(z':Str)(k':Nat):∀(xs:List Str)(st:US),((z'=z/\∃x∈xs,pix ns x=some k')/\(xs.foldl (addR z ns r) st).F z' k'=some r)\/(¬ (z'=z/\∃x∈xs,pix ns x=some k')/\(xs.foldl (addR z ns r) st).F z' k'=st.F z' k')
 |[],st=>.inr ⟨fun⟨_,x,h,_⟩=>(by cases h),rfl⟩
 |x::xs,st=>by
  rw[Ul]
  rcases xi r z' k' xs (addR z ns r st x)with⟨⟨a,y,hy,b⟩,c⟩|⟨a,c⟩
  ·exact .inl ⟨⟨a,y,uD _ hy,b⟩,c⟩
  ·rw[xP]at c
   by_cases h:z'=z/\pix ns x=some k'
   ·rw[if_pos h]at c
    exact .inl ⟨⟨h.1,x,uK,h.2⟩,c⟩
   ·rw[if_neg h]at c
    refine .inr ⟨fun⟨p,y,hy,q⟩=>?_,c⟩
    rcases um.mp hy with e|e
    ·subst e;exact h ⟨p,q⟩
    ·exact a ⟨p,y,e,q⟩
theorem JG{g x:Str}{j:Nat}:(addC1 z ns g j st x).hd=st.hd:=by unfold addC1;split<;>rfl
theorem zax{g x:Str}{j:Nat}:(addC1 z ns g j st x).F=st.F:=by unfold addC1;split<;>rfl
theorem zay{g x:Str}{j:Nat}(g':Str)(j':Nat)(c:Str×Nat):c∈(addC1 z ns g j st x).C g' j'↔c∈st.C g' j'\/(g'=g/\j'=j/\∃k,pix ns x=some k/\c=(z,k)):=by
 unfold addC1
 split
 ·rename_i e
  exact⟨.inl,fun h=>by
   rcases h with h|⟨_,_,k,h,_⟩
   ·exact h
   ·rw[e]at h;cases h⟩
 ·rename_i k e
  show c∈(if g'=g/\j'=j then st.C g' j'++[(z,k)]else st.C g' j')↔_
  by_cases h:g'=g/\j'=j
  ·rw[if_pos h,uE,uj]
   exact⟨fun y=>y.imp_right fun y=>⟨h.1,h.2,k,e,y⟩,fun y=>y.imp_right fun⟨_,_,k',a,b⟩=>by rw[e]at a;cases a;exact b⟩
  ·rw[if_neg h]
   exact⟨.inl,fun y=>by
    rcases y with y|⟨a,b,_⟩
    ·exact y
    ·exact absurd ⟨a,b⟩ h⟩
theorem JH{g:Str}:∀(l:List (Str×Nat))(st:US),(l.foldl (fun st p=>addC1 z ns g p.2 st p.1) st).hd=st.hd/\(l.foldl (fun st p=>addC1 z ns g p.2 st p.1) st).F=st.F/\∀g' j' c,c∈(l.foldl (fun st p=>addC1 z ns g p.2 st p.1) st).C g' j'↔c∈st.C g' j'\/(g'=g/\∃x k,(x,j')∈l/\pix ns x=some k/\c=(z,k))
 |[],st=>⟨rfl,rfl,fun g' j' c=>⟨.inl,fun h=>by
   rcases h with h|⟨_,x,k,h,_⟩
   ·exact h
   ·cases h⟩⟩
 |p::l,st=>by
  obtain⟨a,b,c⟩:=JH (g:=g) l (addC1 z ns g p.2 st p.1)
  rw[Ul]
  refine⟨a.trans JG,b.trans zax,fun g' j' d=>(c g' j' d).trans ?_⟩
  rw[zay]
  constructor
  ·rintro((h|⟨h1,h2,k,h3,h4⟩)|⟨h1,x,k,h2,h3,h4⟩)
   ·exact .inl h
   ·exact .inr ⟨h1,p.1,k,by rw[h2];exact uK,h3,h4⟩
   ·exact .inr ⟨h1,x,k,uD _ h2,h3,h4⟩
  ·rintro(h|⟨h1,x,k,h2,h3,h4⟩)
   ·exact .inl (.inl h)
   ·rcases um.mp h2 with e|e
    ·refine .inl (.inr ⟨h1,congrArg (·.2) e,k,?_,h4⟩)
     rw[show p.1=x from(congrArg (·.1) e).symm]
     exact h3
    ·exact .inr ⟨h1,x,k,e,h3,h4⟩
theorem zcD{g:Str}(xs:List Str)(g':Str)(j':Nat)(c:Str×Nat):c∈(addC z ns g st xs).C g' j'↔c∈st.C g' j'\/(g'=g/\∃x k,xs[j']?=some x/\pix ns x=some k/\c=(z,k)):=by
 have h:=(JH (z:=z) (ns:=ns) (g:=g) xs.zipIdx st).2.2 g' j' c
 refine h.trans (or_congr Iff.rfl (and_congr Iff.rfl ?_))
 constructor
 ·rintro⟨x,k,h1,h2⟩
  exact⟨x,k,UX.mp h1,h2⟩
 ·rintro⟨x,k,h1,h2⟩
  exact⟨x,k,UX.mpr h1,h2⟩
structure Adds(z:Str)(ns:List Str)(b:Bd)(st st':US):Prop where
 hd:∀g,st'.hd g=true↔st.hd g=true\/FnB g b
 f1:∀z' k' r,st'.F z' k'=some r->st.F z' k'=some r\/(z'=z/\RsB ns k' r b)
 f2:∀z' k',(st.F z' k').isSome=true->(st'.F z' k').isSome=true
 f3:∀k r,RsB ns k r b->(st'.F z k).isSome=true
 c:∀g j c,c∈st'.C g j↔c∈st.C g j\/∃k,ClB ns g j k b/\c=(z,k)
theorem wr{b:Bd}(h1:∀g,¬ FnB g b)(h2:∀k r,¬ RsB ns k r b)(h3:∀g j k,¬ ClB ns g j k b):Adds z ns b st st:=by
 refine⟨fun g=>⟨.inl,fun h=>h.resolve_right (h1 g)⟩,fun _ _ _ h=>.inl h,fun _ _ h=>h,fun k r h=>absurd h (h2 k r),fun g j c=>⟨.inl,fun h=>h.resolve_right fun⟨k,y,_⟩=>h3 g j k y⟩⟩
theorem JI{b:Bd}{r x:Str}(h1:∀g,¬ FnB g b)(h2:∀k r',RsB ns k r' b↔(pix ns x=some k/\r'=r))(h3:∀g j k,¬ ClB ns g j k b):Adds z ns b st (addR z ns r st x):=by
 refine⟨fun g=>?_,fun z' k' r' h=>?_,fun z' k' h=>?_,fun k r' h=>?_,fun g j c=>?_⟩
 ·rw[Zp]
  exact⟨.inl,fun h=>h.resolve_right (h1 g)⟩
 ·rw[xP]at h
  split at h
  ·rename_i y
   exact .inr ⟨y.1,(h2 _ _).mpr ⟨y.2,(uO.inj h).symm⟩⟩
  ·exact .inl h
 ·rw[xP]
  split
  ·rfl
  ·exact h
 ·rw[xP,if_pos ⟨rfl,((h2 _ _).mp h).1⟩]
  rfl
 ·rw[Y4]
  exact⟨.inl,fun h=>h.resolve_right fun⟨k,y,_⟩=>h3 g j k y⟩
theorem Yd(b:Bd){w f:Str}{xs:List Str}{y:Str}{e:Bd}(eb:b=.lt y (.app w f xs) e)(hw:w="make"\/w="func"):Adds z ns b st (if w="func"then hand f (xs.foldl (addR z ns "put") st)else xs.foldl (addR z ns "put") st):=by
 subst eb
 have nask:w≠"ask":=by rcases hw with h|h<;>(rw[h];decide)
 have ncall:w≠"call":=by rcases hw with h|h<;>(rw[h];decide)
 have rs:∀k r,RsB ns k r (.lt y (.app w f xs) e)↔((∃x∈xs,pix ns x=some k)/\r="put"):=fun k r=>by
  show((w="make"\/w="func"\/w="ask")/\_)\/(w="ask"/\_)↔_
  exact⟨fun h=>h.elim (fun h=>h.2) fun h=>absurd h.1 nask,fun h=>.inl ⟨hw.imp_right .inl,h⟩⟩
 have eF:(if w="func"then hand f (xs.foldl (addR z ns "put") st)else xs.foldl (addR z ns "put") st).F=(xs.foldl (addR z ns "put") st).F:=by split<;>rfl
 have eC:(if w="func"then hand f (xs.foldl (addR z ns "put") st)else xs.foldl (addR z ns "put") st).C=st.C:=by
  split
  ·exact vg "put" xs st
  ·exact vg "put" xs st
 refine⟨fun g=>?_,fun z' k' r' h=>?_,fun z' k' h=>?_,fun k r' h=>?_,fun g j c=>?_⟩
 ·show _↔_\/(w="func"/\f=g)
  split
  ·rename_i hf
   show(if g=f then true else(xs.foldl (addR z ns "put") st).hd g)=true↔_
   rw[wq]
   by_cases hg:g=f
   ·rw[if_pos hg];exact⟨fun _=>.inr ⟨hf,hg.symm⟩,fun _=>rfl⟩
   ·rw[if_neg hg];exact⟨.inl,fun h=>h.resolve_right fun h=>hg h.2.symm⟩
  ·rename_i hf
   rw[wq]
   exact⟨.inl,fun h=>h.resolve_right fun h=>hf h.1⟩
 ·rw[eF]at h
  rcases xi (z:=z) (ns:=ns) "put" z' k' xs st with⟨a,c⟩|⟨a,c⟩
  ·rw[c]at h
   exact .inr ⟨a.1,(rs _ _).mpr ⟨a.2,(uO.inj h).symm⟩⟩
  ·rw[c]at h;exact .inl h
 ·rw[eF]
  rcases xi (z:=z) (ns:=ns) "put" z' k' xs st with⟨a,c⟩|⟨a,c⟩
  ·rw[c];rfl
  ·rw[c];exact h
 ·rw[eF]
  rcases xi (z:=z) (ns:=ns) "put" z k xs st with⟨a,c⟩|⟨a,c⟩
  ·rw[c];rfl
  ·exact absurd ⟨rfl,((rs _ _).mp h).1⟩ a
 ·rw[eC]
  exact⟨.inl,fun h=>h.resolve_right fun⟨k,y,_⟩=>ncall y.1⟩
theorem zcE(b:Bd):Adds z ns b st (noteB z ns st b):=by
 cases b with
 |give x=>exact JI (fun g h=>h) (fun k r=>Iff.rfl) (fun g j k h=>h)
 |iff x a b=>exact wr (fun g h=>h) (fun k r h=>h) (fun g j k h=>h)
 |case x as =>
  show Adds z ns (.case x as) st (if y9 x as=true then addR z ns "anew" st x else st)
  by_cases h:y9 x as=true
  ·rw[if_pos h]
   exact JI (fun g h=>h) (fun k r=>⟨fun y=>y.2,fun y=>⟨h,y⟩⟩) (fun g j k h=>h)
  ·rw[if_neg h]
   exact wr (fun g h=>h) (fun k r y=>h y.1) (fun g j k h=>h)
 |lt y d e =>
  cases d with
  |num i=>exact wr (fun g h=>h) (fun k r h=>h) (fun g j k h=>h)
  |op w p q=>exact wr (fun g h=>h) (fun k r h=>h) (fun g j k h=>h)
  |app w f xs =>
   show Adds z ns (.lt y (.app w f xs) e) st (if w="call"then addC z ns f st xs else if w="make"then xs.foldl (addR z ns "put") st else if w="func"then hand f (xs.foldl (addR z ns "put") st)else if w="ask"then addR z ns "asked" (xs.foldl (addR z ns "put") st) f else st)
   by_cases h1:w="call"
   ·rw[if_pos h1]
    have t:=JH (z:=z) (ns:=ns) (g:=f) xs.zipIdx st
    have n1:¬ (w="make"\/w="func"\/w="ask"):=by rw[h1];decide
    have n2:w≠"ask":=by rw[h1];decide
    have n3:w≠"func":=by rw[h1];decide
    refine⟨fun g=>?_,fun z' k' r' h=>?_,fun z' k' h=>?_,fun k r' h=>?_,fun g j c=>?_⟩
    ·rw[show(addC z ns f st xs).hd=st.hd from t.1]
     exact⟨.inl,fun h=>h.resolve_right fun h=>n3 h.1⟩
    ·rw[show(addC z ns f st xs).F=st.F from t.2.1]at h
     exact .inl h
    ·rw[show(addC z ns f st xs).F=st.F from t.2.1]
     exact h
    ·rcases h with h|h
     ·exact absurd h.1 n1
     ·exact absurd h.1 n2
    ·refine(zcD xs g j c).trans (or_congr Iff.rfl ?_)
     constructor
     ·rintro⟨rfl,x,k,a,b,c⟩
      exact⟨k,⟨h1,rfl,x,a,b⟩,c⟩
     ·rintro⟨k,⟨_,rfl,x,a,b⟩,c⟩
      exact⟨rfl,x,k,a,b,c⟩
   rw[if_neg h1]
   by_cases h2:w="make"
   ·rw[if_pos h2]
    have:=Yd (z:=z) (ns:=ns) (st:=st) (.lt y (.app w f xs) e) rfl (.inl h2)
    rw[if_neg (by rw[h2];decide)]at this
    exact this
   rw[if_neg h2]
   by_cases h3:w="func"
   ·rw[if_pos h3]
    have:=Yd (z:=z) (ns:=ns) (st:=st) (.lt y (.app w f xs) e) rfl (.inr h3)
    rw[if_pos h3]at this
    exact this
   rw[if_neg h3]
   by_cases h4:w="ask"
   ·rw[if_pos h4]
    have rs:∀k r,RsB ns k r (.lt y (.app w f xs) e)↔(((∃x∈xs,pix ns x=some k)/\r="put")\/(pix ns f=some k/\r="asked")):=fun k r=>by
     show((w="make"\/w="func"\/w="ask")/\_)\/(w="ask"/\_)↔_
     exact⟨fun h=>h.imp (fun h=>h.2) fun h=>h.2,fun h=>h.imp (fun h=>⟨.inr (.inr h4),h⟩) fun h=>⟨h4,h⟩⟩
    refine⟨fun g=>?_,fun z' k' r' h=>?_,fun z' k' h=>?_,fun k r' h=>?_,fun g j c=>?_⟩
    ·rw[Zp,wq]
     exact⟨.inl,fun h=>h.resolve_right fun h=>h3 h.1⟩
    ·rw[xP]at h
     split at h
     ·rename_i y'
      exact .inr ⟨y'.1,(rs _ _).mpr (.inr ⟨y'.2,(uO.inj h).symm⟩)⟩
     ·rcases xi (z:=z) (ns:=ns) "put" z' k' xs st with⟨a,c⟩|⟨a,c⟩
      ·rw[c]at h
       exact .inr ⟨a.1,(rs _ _).mpr (.inl ⟨a.2,(uO.inj h).symm⟩)⟩
      ·rw[c]at h;exact .inl h
    ·rw[xP]
     split
     ·rfl
     ·rcases xi (z:=z) (ns:=ns) "put" z' k' xs st with⟨a,c⟩|⟨a,c⟩
      ·rw[c];rfl
      ·rw[c];exact h
    ·rw[xP]
     split
     ·rfl
     ·rename_i ny
      rcases xi (z:=z) (ns:=ns) "put" z k xs st with⟨a,c⟩|⟨a,c⟩
      ·rw[c];rfl
      ·rcases(rs _ _).mp h with h|h
       ·exact absurd ⟨rfl,h.1⟩ a
       ·exact absurd ⟨rfl,h.1⟩ ny
    ·rw[Y4,vg]
     exact⟨.inl,fun h=>h.resolve_right fun⟨k,y,_⟩=>h1 y.1⟩
   rw[if_neg h4]
   refine wr (fun g h=>h3 h.1) (fun k r h=>?_) (fun g j k h=>h1 h.1)
   rcases h with h|h
   ·rcases h.1 with y|y|y
    ·exact h2 y
    ·exact h3 y
    ·exact h4 y
   ·exact h4 h.1
structure AddsL(z:Str)(ns:List Str)(l:List Bd)(st st':US):Prop where
 hd:∀g,st'.hd g=true↔st.hd g=true\/∃b∈l,FnB g b
 f1:∀z' k' r,st'.F z' k'=some r->st.F z' k'=some r\/(z'=z/\∃b∈l,RsB ns k' r b)
 f2:∀z' k',(st.F z' k').isSome=true->(st'.F z' k').isSome=true
 f3:∀k r,(∃b∈l,RsB ns k r b)->(st'.F z k).isSome=true
 c:∀g j c,c∈st'.C g j↔c∈st.C g j\/∃b∈l,∃k,ClB ns g j k b/\c=(z,k)
theorem JJ:∀(l:List Bd)(st:US),AddsL z ns l st (l.foldl (noteB z ns) st)
 |[],st=>⟨fun g=>⟨.inl,fun h=>h.resolve_right fun⟨_,h,_⟩=>(by cases h)⟩,fun _ _ _ h=>.inl h,fun _ _ h=>h,fun k r ⟨_,h,_⟩=>(by cases h),fun g j c=>⟨.inl,fun h=>h.resolve_right fun⟨_,h,_⟩=>(by cases h)⟩⟩
 |b::l,st=>by
  have A:=zcE (z:=z) (ns:=ns) (st:=st) b
  have B:=JJ l (noteB z ns st b)
  rw[Ul]
  have ex:∀{p:Bd->Prop},(∃x∈b::l,p x)↔(p b\/∃x∈l,p x):=fun{p}=>⟨fun⟨x,h,q⟩=>by
   rcases um.mp h with e|e
   ·subst e;exact .inl q
   ·exact .inr ⟨x,e,q⟩,fun h=>h.elim (fun h=>⟨b,uK,h⟩) fun⟨x,h,q⟩=>⟨x,uD _ h,q⟩⟩
  refine⟨fun g=>?_,fun z' k' r h=>?_,fun z' k' h=>B.f2 _ _ (A.f2 _ _ h),fun k r h=>?_,fun g j c=>?_⟩
  ·rw[B.hd,A.hd,ex,or_assoc]
  ·rcases B.f1 _ _ _ h with h|⟨h1,h2⟩
   ·rcases A.f1 _ _ _ h with h|⟨h1,h2⟩
    ·exact .inl h
    ·exact .inr ⟨h1,ex.mpr (.inl h2)⟩
   ·exact .inr ⟨h1,ex.mpr (.inr h2)⟩
  ·rcases ex.mp h with h|h
   ·exact B.f2 _ _ (A.f3 _ _ h)
   ·exact B.f3 _ _ h
  ·rw[B.c,A.c,ex,or_assoc]
end
structure AddsD(dfs:List Df)(st st':US):Prop where
 hd:∀g,st'.hd g=true↔st.hd g=true\/∃d∈dfs,∃b∈d.b.all,FnB g b
 f1:∀z k r,st'.F z k=some r->st.F z k=some r\/∃d∈dfs,d.z=z/\∃b∈d.b.all,RsB d.ns k r b
 f2:∀z k,(st.F z k).isSome=true->(st'.F z k).isSome=true
 f3:∀d∈dfs,∀k r,(∃b∈d.b.all,RsB d.ns k r b)->(st'.F d.z k).isSome=true
 c:∀g j c,c∈st'.C g j↔c∈st.C g j\/∃d∈dfs,∃b∈d.b.all,∃k,ClB d.ns g j k b/\c=(d.z,k)
theorem JK:∀(l:List Df)(st:US),AddsD l st (l.foldl usesD st)
 |[],st=>⟨fun g=>⟨.inl,fun h=>h.resolve_right fun⟨_,h,_⟩=>(by cases h)⟩,fun _ _ _ h=>.inl h,fun _ _ h=>h,fun d h=>(by cases h),fun g j c=>⟨.inl,fun h=>h.resolve_right fun⟨_,h,_⟩=>(by cases h)⟩⟩
 |d::l,st=>by
  have A:=JJ (z:=d.z) (ns:=d.ns) d.b.all st
  have B:=JK l (usesD st d)
  rw[Ul]
  have ex:∀{p:Df->Prop},(∃x∈d::l,p x)↔(p d\/∃x∈l,p x):=fun{p}=>⟨fun⟨x,h,q⟩=>by
   rcases um.mp h with e|e
   ·subst e;exact .inl q
   ·exact .inr ⟨x,e,q⟩,fun h=>h.elim (fun h=>⟨d,uK,h⟩) fun⟨x,h,q⟩=>⟨x,uD _ h,q⟩⟩
  refine⟨fun g=>?_,fun z' k' r h=>?_,fun z' k' h=>B.f2 _ _ (A.f2 _ _ h),fun d' hd' k r h=>?_,fun g j c=>?_⟩
  ·rw[B.hd,show(usesD st d).hd g=true↔_ from A.hd g,ex,or_assoc]
  ·rcases B.f1 _ _ _ h with h|h
   ·rcases A.f1 _ _ _ h with h|⟨h1,h2⟩
    ·exact .inl h
    ·exact .inr (ex.mpr (.inl ⟨h1.symm,h2⟩))
   ·exact .inr (ex.mpr (.inr h))
  ·rcases um.mp hd' with e|e
   ·subst e;exact B.f2 _ _ (A.f3 _ _ h)
   ·exact B.f3 _ e _ _ h
  ·rw[B.c,show c∈(usesD st d).C g j↔_ from A.c g j c,ex,or_assoc]
theorem Ye(dfs:List Df):AddsD dfs US0 (yd dfs):=JK dfs US0
def yH(n:Nat):Sp:=fun vs H Q _=>∃(p:Addr)(b:Bd),vs=[.ref p]/\IsB H b p/\b.dp<=n/\b.sz<=1000000/\∀H' r ps,Same H H'->H r=none->H' r=some (.lst (ps.map V.ref))->IsBs H' b.all ps->Q (.ref r) H'
theorem zcF:∀b:Bd,1<=b.dp
 |.give _=>by unfold Bd.dp;exact ud _
 |.lt _ _ b=>by unfold Bd.dp;lia
 |.iff _ a b=>by unfold Bd.dp;lia
 |.case _ as=>by unfold Bd.dp;lia
theorem Zq:∀{as:Arms}{i:Nat}{ns:List Str}{b:Bd},as.ways[i]?=some (ns,b)->b.dp<=as.dp
 |.nil,i,ns,b,h=>by unfold Arms.ways at h;simp at h
 |.cons t n c r,0,ns,b,h=>by
  unfold Arms.ways at h
  simp at h
  obtain⟨_,rfl⟩:=h
  rw[Arms.dp]
  lia
 |.cons t n c r,i+1,ns,b,h=>by
  unfold Arms.ways at h
  have:=Zq (as:=r) (i:=i) (by simpa using h)
  rw[Arms.dp]
  lia
section
variable{P:Program}{w:World}{K:ub}{mg:Str->Option Value}{base:Heap}{f:Addr}{fd:FuncData}
theorem scPieces:FnScope ["_law_body_here","_law_found","_law_tag","_law_names","_law_inner"] ["_law_body_here"] (zo w6):=.ok
theorem Y5(F:Fun K "_law_pieces" "_law_pieces" w6 f fd):FnOk P w K mg base CX0 (1+0) f fd ["_law_body_here"] (yH 0):=by
 refine F.by scPieces (fun vs H Q E h=>?_) (fun cdv A outer s H vs Q E hr h=>?_)
 ·obtain⟨p,b,rfl,_⟩:=h
  rfl
 ·obtain⟨p,b,rfl,_,hd,_⟩:=h
  have:=zcF b
  lia
theorem WI{n:Nat}(F:Fun K "_law_pieces" "_law_pieces" w6 f fd)(GP:Ca P w K mg base CX0 (1+n) "_law_pieces" ["_law_body_here"] (yH n)):FnOk P w K mg base CX0 (1+(n+1)) f fd ["_law_body_here"] (yH (n+1)):=by
 rw[show 1+(n+1)=(1+n)+1 by lia]
 refine F.by scPieces (fun vs H Q E h=>?_) (fun cdv A outer s H vs Q E hr h=>?_)
 ·obtain⟨p,b,rfl,_⟩:=h
  rfl
 obtain⟨p,b,rfl,hb,hd,hz,q⟩:=h
 refine⟨_,
  (zg (sE 1 scPieces.nd (zB (jA1 (jv 0))))
  (zg (zy (tN zA (xT 0) zp)
   (zh (zq (zx yP (jv 1) (cA GP hr (jA1 (xT 0)))))) zt)
  (zg (zy (tN zA (xT 0) zp)
   (zh (zq (zx yP (zx yP (jv 1) (cA GP hr (jA1 (xT 0)))) (cA GP hr (jA1 (xT 0)))))) zt)
  (zg (zy (tN zA (xT 0) zp)
   (zh (zK PassesOwn.never rfl (yW (xT 0)) (yi rfl (zv (gN 2 scPieces.nd) (zv (gN 3 scPieces.nd) (zv (gN 4 scPieces.nd) zM))))
    (zh (sE 1 scPieces.nd (zx yP (jv 1) (cA GP hr (jA1 (jv 4)))))))) zt)
  (zh (zq (jv 1))))))),?_⟩
 have sl:=zF
 refine⟨_,rfl,sN1,fun fo hfo=>?_⟩
 have s1:=zn (o:=.lst [.ref p]) hfo
 have hfo1:=upd_same (H:=H) (a:=fo) (o:=.lst [.ref p])
 have hb1:=hb.keep (.of s1)
 have bl:=Bd.all_len b
 show(tSeq _ _:TS) _ _ (upd H fo (.lst [.ref p]))
 generalize upd H fo (.lst [.ref p])=H1 at *
 cases id hb1 with
 |@give x _ hp =>
  refine⟨_,rfl,ixT hp aI0 ⟨rfl,_,rfl,ite2 aB (fun _=>?_)⟩⟩
  refine⟨_,rfl,ixT hp aI0 ⟨rfl,_,rfl,ite2 aB (fun _=>?_)⟩⟩
  refine⟨_,rfl,ixT hp aI0 ⟨rfl,_,rfl,ite2 aB (fun _=>?_)⟩⟩
  refine⟨_,rfl,q _ fo [p] s1 hfo hfo1 ?_⟩
  rw[Bd.all]
  exact .cons hb1 .nil
 |@lt x de b1 _ p1 p2 hp hde hb2 =>
  unfold Bd.dp at hd
  unfold Bd.sz at hz
  refine⟨_,rfl,ixT hp aI0 ⟨rfl,_,rfl,ite2 (fun _=>?_) (fun c=>absurd (by decide) c)⟩⟩
  refine⟨_,rfl,_,rfl,ixT hp aI3 ⟨p2,b1,rfl,hb2,by lia,by lia,fun H2 r ps s2 hr0 hr2 hps=>?_⟩⟩
  have al:=All2.len hps
  have al2:=Bd.all_len b1
  refine⟨fo,r,_,_,rfl,rfl,s2 _ _ hfo1,hr2,by rw[ua];show 1+_<=_;lia,fun l hl=>?_⟩
  have s3:=s1.trans s2
  refine q _ l (p::ps) (s3.new hl) (s3.free hl) (by rw[upd_same];rfl) ?_
  rw[Bd.all]
  exact .cons ((hb1.keep (.of s2)).keep (.of (zn hl _))) (IsBs.keep hps (.of (zn hl _)))
 |@iff x ba bb _ p1 p2 hp ha2 hb2 =>
  unfold Bd.dp at hd
  unfold Bd.sz at hz
  refine⟨_,rfl,ixT hp aI0 ⟨rfl,_,rfl,ite2 aB (fun _=>?_)⟩⟩
  refine⟨_,rfl,ixT hp aI0 ⟨rfl,_,rfl,ite2 (fun _=>?_) (fun c=>absurd (by decide) c)⟩⟩
  refine⟨_,rfl,_,rfl,ixT hp aI2 ⟨p1,ba,rfl,ha2,by lia,by lia,fun H2 r ps s2 hr0 hr2 hps=>?_⟩⟩
  have al:=All2.len hps
  have al2:=Bd.all_len ba
  have al3:=Bd.all_len bb
  refine⟨fo,r,_,_,rfl,rfl,s2 _ _ hfo1,hr2,by rw[ua];show 1+_<=_;lia,fun l hl=>?_⟩
  have s3:=s2.new (o:=.lst ([.ref p]++ps.map V.ref)) hl
  have hl3:=upd_same (H:=H2) (a:=l) (o:=.lst ([.ref p]++ps.map V.ref))
  have hps3:=IsBs.keep hps (.of (zn (o:=.lst ([.ref p]++ps.map V.ref)) hl))
  generalize upd H2 l (.lst ([.ref p]++ps.map V.ref))=H3 at *
  refine⟨_,rfl,ixT (s3 _ _ hp) aI3 ⟨p2,bb,rfl,hb2.keep (.of s3),by lia,by lia,fun H4 r4 ps4 s4 hr40 hr4 hps4=>?_⟩⟩
  have al4:=All2.len hps4
  refine⟨l,r4,_,_,rfl,rfl,s4 _ _ hl3,hr4,by rw[uf,ua,ua];show 1+_+_<=_;lia,fun l5 hl5=>?_⟩
  have s14:=s1.trans (s3.trans s4)
  refine q _ l5 (p::(ps++ps4)) (s14.new hl5) (s14.free hl5) (by rw[upd_same];simp) ?_
  rw[Bd.all]
  exact .cons ((hb1.keep (.of (s3.trans s4))).keep (.of (zn hl5 _))) (All2.app (IsBs.keep (IsBs.keep hps3 (.of s4)) (.of (zn hl5 _))) (IsBs.keep hps4 (.of (zn hl5 _))))
 |@case x as ps0 _ p1 hp hp1 hl0 hA =>
  unfold Bd.dp at hd
  unfold Bd.sz at hz
  refine⟨_,rfl,ixT hp aI0 ⟨rfl,_,rfl,ite2 aB (fun _=>?_)⟩⟩
  refine⟨_,rfl,ixT hp aI0 ⟨rfl,_,rfl,ite2 aB (fun _=>?_)⟩⟩
  refine⟨_,rfl,ixT hp aI0 ⟨rfl,_,rfl,ite2 (fun _=>?_) (fun c=>absurd (by decide) c)⟩⟩
  have al:=hA.len
  have pl:∀j,(pnd ((as.ways.take j).map (·.2))).length<=as.sz:=fun j=>by
   have e:as.all=pnd ((as.ways.take j).map (·.2))++pnd ((as.ways.drop j).map (·.2)):=by rw[Arms.all_ways,<- Zm,<- ut,List.take_append_drop]
   have h1:=Arms.all_len as
   rw[e,uf]at h1
   lia
  refine⟨_,rfl,ixT hp aI2 ⟨p1,rfl,⟨_,SqT.of hp1⟩,yS (xs:=ps0.map V.ref) (fun i σ H'=>∃(r:Addr)(ps:List Addr)(u v y:Option V),Same H1 H'/\H r=none/\H' r=some (.lst (ps.map V.ref))/\IsBs H' (.case x as::pnd ((as.ways.take i).map (·.2))) ps/\σ=[some (.ref p),some (.ref r),u,v,y]) ⟨fo,[p],none,none,none,fun _ _ h=>h,hfo,hfo1,.cons hb1 .nil,rfl⟩ (fun i σ H' _ h=>?_) ?_ ?_⟩⟩
  ·obtain⟨_,_,_,_,_,s,_⟩:=h
   exact SqT.of (s _ _ hp1)
  ·rintro i v σ H2 hv ⟨r,ps,u,v',y,s2,hr0,hr2,hps,rfl⟩
   rw[ue]at hv
   obtain⟨pa,hpa,rfl⟩:=uh.mp hv
   obtain⟨t,q1,r1,ns,b2,e1,e2,e3,e4⟩:=hA.get hpa
   have d2:=Zq e1
   have z2:=wn e1
   have l2:=All2.len hps
   rw[ul]at l2
   have et:(as.ways.take (i+1)).map (·.2)=(as.ways.take i).map (·.2)++[b2]:=by rw[uw,e1,ut];rfl
   have ep:pnd ((as.ways.take (i+1)).map (·.2))=pnd ((as.ways.take i).map (·.2))++b2.all:=by rw[et,Zm];unfold pnd;simp
   have pl2:=pl (i+1)
   rw[ep,uf]at pl2
   refine⟨pa,_,rfl,SqT.of (s2 _ _ e2),rfl,_,_,rfl,_,_,rfl,_,_,rfl,rfl,?_⟩
   refine⟨_,rfl,_,rfl,r1,b2,rfl,e4.keep (.of s2),by lia,by lia,fun H3 r3 ps3 s3 hr30 hr3 hps3=>?_⟩
   have l3:=All2.len hps3
   refine⟨r,r3,_,_,rfl,rfl,s3 _ _ hr2,hr3,by rw[ua,ua];lia,fun l hl=>?_⟩
   rw[<- ut]
   have s4:=(s2.trans s3).new (o:=.lst ((ps++ps3).map V.ref)) hl
   have fl:H l=none:=s1.free ((s2.trans s3).free hl)
   refine⟨l,ps++ps3,_,_,_,s4,fl,upd_same,?_,rfl⟩
   rw[ep,<- List.cons_append]
   exact All2.app (IsBs.keep (IsBs.keep hps (.of s3)) (.of (zn hl _))) (IsBs.keep hps3 (.of (zn hl _)))
  rintro σ H2 ⟨r,ps,u,v',y,s2,hr0,hr2,hps,rfl⟩
  rw[ua,<- al,uk (ud _),<- Arms.all_ways]at hps
  refine⟨_,rfl,q _ r ps (s1.trans s2) hr0 hr2 ?_⟩
  rw[Bd.all]
  exact hps
def deB:Bd->List De
 |.lt _ d _=>[d]
 |_=>[]
def Bd.des(b:Bd):List De:=b.all.flatMap deB
def IsDs(H:Hp)(l:List De)(ps:List Addr):Prop:=All2 (IsDe H) l ps
theorem IsDs.keep{H H':Hp}{l:List De}{ps:List Addr}(h:IsDs H l ps)(t:Tups H H'):IsDs H' l ps:=All2.imp h fun _ _ e=>e.keep t
def wu(n:Nat):Sp:=fun vs H Q _=>∃(p:Addr)(b:Bd),vs=[.ref p]/\IsB H b p/\b.dp<=n/\b.sz<=1000000/\∀H' r ps,Same H H'->H r=none->H' r=some (.lst (ps.map V.ref))->IsDs H' b.des ps->Q (.ref r) H'
theorem zaz:FnScope ["_law_body_here"] ["_law_body_here"] (zo YN):=.ok
theorem zaA:(["_law_body_here","_law_piece"]:List Str).Nodup:=by decide +kernel
theorem Zr(l:List Bd):(l.flatMap deB).length<=l.length:=by
 induction l with
 |nil=>exact ud _
 |cons b l ih =>
  rw[Um,uf,ul]
  have:(deB b).length<=1:=by unfold deB;split<;>simp
  lia
theorem JL{n:Nat}(F:Fun K "_law_deeds" "_law_deeds" YN f fd)(GP:Ca P w K mg base CX0 (1+n) "_law_pieces" ["_law_body_here"] (yH n)):FnOk P w K mg base CX0 ((1+n)+1) f fd ["_law_body_here"] (wu n):=by
 refine F.by zaz (fun vs H Q E h=>?_) (fun cdv A outer s H vs Q E hr h=>?_)
 ·obtain⟨p,b,rfl,_⟩:=h
  rfl
 obtain⟨p,b,rfl,hb,hd,hz,q⟩:=h
 refine⟨_,(zh (zq (yp ["_law_piece"] rfl (zG (cA GP hr (jA1 (jv 0)))) (fun _ _ _ _ _=>(gN 1 zaA)) (fun _ _ _ _ _=>(yL (tN zA (zP (z9 K) (jv 1) zj (fun _ _=>rfl)) zp))) (fun _ _ _ _ _=>(zP (z9 K) (jv 1) zj (fun _ _=>rfl)))))),?_⟩
 have sl:=zF
 have al:=Bd.all_len b
 refine⟨_,rfl,p,b,rfl,hb,hd,hz,fun H1 r ps s1 hr0 hr1 hps=>?_⟩
 have pl:=All2.len hps
 refine⟨r,rfl,⟨_,SqL.of hr1⟩,zY (xs:=ps.map V.ref) (fun j τ ys H'=>H1=H'/\(∃v,τ=[some (.ref p),v])/\∃qs:List Addr,ys=qs.map V.ref/\IsDs H1 ((b.all.take j).flatMap deB) qs) ⟨rfl,⟨none,rfl⟩,[],rfl,.nil⟩ (fun j τ ys H' _ h=>SqL.of (h.1 ▸ hr1)) ?_ ?_⟩
 ·rintro j v τ ys H2 hv ⟨rfl,⟨v',rfl⟩,qs,rfl,hq⟩
  rw[ue]at hv
  obtain⟨pw,hpw,rfl⟩:=uh.mp hv
  obtain⟨b1,e1,e2⟩:=All2.get hps hpw
  have hj:=(uc.mp e1).1
  have ql:=All2.len hq
  have fl:=Zr (b.all.take j)
  rw[uN]at fl
  have et:(b.all.take (j+1)).flatMap deB=(b.all.take j).flatMap deB++deB b1:=by rw[uw,e1,Ud];simp
  rw[et]
  cases e2 with
  |give hp=>exact⟨_,rfl,ixT hp aI0 ⟨rfl,_,rfl,ite2 aB (fun _=>⟨rfl,⟨_,rfl⟩,qs,rfl,by rw[show deB (.give _)=[]from rfl,ux];exact hq⟩)⟩⟩
  |iff hp _ _=>exact⟨_,rfl,ixT hp aI0 ⟨rfl,_,rfl,ite2 aB (fun _=>⟨rfl,⟨_,rfl⟩,qs,rfl,by rw[show deB (.iff _ _ _)=[]from rfl,ux];exact hq⟩)⟩⟩
  |case hp _ _ _=>exact⟨_,rfl,ixT hp aI0 ⟨rfl,_,rfl,ite2 aB (fun _=>⟨rfl,⟨_,rfl⟩,qs,rfl,by rw[show deB (.case _ _)=[]from rfl,ux];exact hq⟩)⟩⟩
  |@lt x de b2 _ p1 p2 hp hde hb2 =>
   refine⟨_,rfl,ixT hp aI0 ⟨rfl,_,rfl,ite2 (fun _=>?_) (fun c=>absurd (by decide) c)⟩⟩
   refine⟨_,rfl,ixT hp aI2 ⟨by rw[ua];lia,rfl,⟨_,rfl⟩,qs++[p1],by simp,?_⟩⟩
   exact All2.app hq (.cons hde .nil)
 rintro τ ys H2 ⟨rfl,_,qs,rfl,hq⟩ l hl
 rw[ua,<- pl,uk (ud _)]at hq
 exact q _ l qs (s1.new hl) (s1.free hl) upd_same (hq.keep (.of (zn hl _)))
end
def sayB(x:Str)(b:Bd):Bool:=decide (x∈b.used)
def Bd.says(x:Str)(b:Bd):Bool:=b.all.any (sayB x)
mutual
theorem Bd.fr_says{x:Str}:∀b:Bd,x∉b.binds->(b.fr x↔∃c∈b.all,x∈c.used)
 |.give y,_=>by
  unfold Bd.fr Bd.all
  simp[Bd.used]
 |.lt y d b,h=>by
  rw[Bd.binds]at h
  have ih:=Bd.fr_says b fun m=>h (uD _ m)
  have n:x≠y:=fun e=>h (by rw[e];exact uK)
  rw[Bd.fr,Bd.all,ih]
  constructor
  ·rintro(⟨⟨c,h1,h2⟩,_⟩|h)
   ·exact⟨c,uD _ h1,h2⟩
   ·exact⟨_,uK,h⟩
  ·rintro⟨c,h1,h2⟩
   rcases um.mp h1 with e|e
   ·subst e;exact .inr h2
   ·exact .inl ⟨⟨c,e,h2⟩,n⟩
 |.iff y a b,h=>by
  rw[Bd.binds]at h
  have ia:=Bd.fr_says a fun m=>h (uB _ m)
  have ib:=Bd.fr_says b fun m=>h (uo _ m)
  rw[Bd.fr,Bd.all,ia,ib]
  constructor
  ·rintro((⟨c,h1,h2⟩|⟨c,h1,h2⟩)|h)
   ·exact⟨c,uD _ (uB _ h1),h2⟩
   ·exact⟨c,uD _ (uo _ h1),h2⟩
   ·exact⟨_,uK,uj.mpr h⟩
  ·rintro⟨c,h1,h2⟩
   rcases um.mp h1 with e|e
   ·subst e;exact .inr (uj.mp h2)
   ·rcases uE.mp e with e|e
    ·exact .inl (.inl ⟨c,e,h2⟩)
    ·exact .inl (.inr ⟨c,e,h2⟩)
 |.case y as,h=>by
  rw[Bd.binds]at h
  have ia:=Arms.fr_says as h
  rw[Bd.fr,Bd.all,ia]
  constructor
  ·rintro(⟨c,h1,h2⟩|h)
   ·exact⟨c,uD _ h1,h2⟩
   ·exact⟨_,uK,uj.mpr h⟩
  ·rintro⟨c,h1,h2⟩
   rcases um.mp h1 with e|e
   ·subst e;exact .inr (uj.mp h2)
   ·exact .inl ⟨c,e,h2⟩
theorem Arms.fr_says{x:Str}:∀a:Arms,x∉a.binds->(a.fr x↔∃c∈a.all,x∈c.used)
 |.nil,_=>by
  unfold Arms.fr Arms.all
  simp
 |.cons t ns b r,h=>by
  rw[Arms.binds]at h
  have ib:=Bd.fr_says b fun m=>h (uo _ (uB _ m))
  have ir:=Arms.fr_says r fun m=>h (uo _ (uo _ m))
  have n:x∉ns:=fun m=>h (uB _ m)
  rw[Arms.fr,Arms.all,ib,ir]
  constructor
  ·rintro(⟨⟨c,h1,h2⟩,_⟩|⟨c,h1,h2⟩)
   ·exact⟨c,uB _ h1,h2⟩
   ·exact⟨c,uo _ h1,h2⟩
  ·rintro⟨c,h1,h2⟩
   rcases uE.mp h1 with e|e
   ·exact .inl ⟨⟨c,e,h2⟩,n⟩
   ·exact .inr ⟨c,e,h2⟩
end
theorem zaB{x:Str}{b:Bd}(h:x∉b.binds):b.mk [x]=0↔b.says x=false:=by
 have bit:∀i,((b.mk [x]).testBit i=true)↔∃y,[x][i]?=some y/\b.fr y:=fun i=>Bd.mk_bit (by simp) i b
 have e:b.says x=false↔¬ b.fr x:=by
  rw[Bd.fr_says b h]
  unfold Bd.says
  rw[List.any_eq_false]
  constructor
  ·rintro a ⟨c,h1,h2⟩
   exact a c h1 (decide_eq_true h2)
  ·intro a c h1 h2
   exact a ⟨c,h1,of_decide_eq_true h2⟩
 rw[e]
 constructor
 ·intro z fr
  have:=(bit 0).mpr ⟨x,rfl,fr⟩
  rw[z]at this
  simp at this
 ·intro nf
  refine Nat.eq_of_testBit_eq fun i=>?_
  rw[Nat.zero_testBit]
  cases hb:(b.mk [x]).testBit i with
  |false=>rfl
  |true =>
   obtain⟨y,h1,h2⟩:=(bit i).mp hb
   cases i with
   |zero=>cases h1;exact absurd h2 nf
   |succ i=>simp at h1
def JM(n:Nat):Sp:=fun vs H Q _=>∃(p:Addr)(b:Bd)(x:Str),vs=[.ref p,.str x]/\IsB H b p/\b.dp<=n/\b.sz<=1000000/\∀H',Same H H'->Q (.bl (b.says x)) H'
theorem inV2(w0 a b:Str):inV (.str w0) [.str a,.str b]=true↔(w0=a\/w0=b):=by
 show((a == w0) || ((b == w0) || false))=true↔_
 rw[Bool.or_false,UA,beq_iff_eq,beq_iff_eq]
 exact⟨fun h=>h.imp Eq.symm Eq.symm,fun h=>h.imp Eq.symm Eq.symm⟩
theorem inVs(x:Str):∀xs:List Str,inV (.str x) (xs.map V.str)=decide (x∈xs)
 |[]=>rfl
 |y::xs=>by
  show((y == x) || inV (.str x) (xs.map V.str))=_
  rw[inVs x xs,UH,UA,beq_iff_eq,decide_eq_true_eq,decide_eq_true_eq,um]
  exact⟨fun h=>h.imp_left Eq.symm,fun h=>h.imp_left Eq.symm⟩
section
variable{P:Program}{w:World}{K:ub}{mg:Str->Option Value}{base:Heap}{f:Addr}{fd:FuncData}
theorem scSays:FnScope ["_law_body_here","_law_name_here","_law_piece"] lS5 (zo VN):=.ok
theorem wM(l:List Str):(l.map V.str).all yh=true:=by
 rw[List.all_map]
 exact Uf.mpr fun _ _=>rfl
theorem zaC{n:Nat}(F:Fun K "_law_says" "_law_says" VN f fd)(GP:Ca P w K mg base CX0 (1+n) "_law_pieces" ["_law_body_here"] (yH n)):FnOk P w K mg base CX0 ((1+n)+1) f fd lS5 (JM n):=by
 refine F.by scSays (fun vs H Q E h=>?_) (fun cdv A outer s H vs Q E hr h=>?_)
 ·obtain⟨p,b,x,rfl,_⟩:=h
  rfl
 obtain⟨p,b,x,rfl,hb,hd,hz,q⟩:=h
 refine⟨_,
  (zg (zK PassesOwn.never rfl (zG (cA GP hr (jA1 (jv 0)))) (gN 2 scSays.nd)
   (zg (zy (jW.pt (ya (tN ZH (xT 2) zp) (yc (tN zA (xT 2) (jv 1)))))
    (zh (zq yt)) zt)
   (zg (zy (jW.pt (ya (tN zA (xT 2) zp) (ya (tN zA (zP zZ (xT 2) zj (fun _ _=>rfl)) zp) (yc (tN zA (zP zZ (xT 2) zj (fun _ _=>rfl)) (jv 1))))))
    (zh (zq yt)) zt)
   (zg (zy (jW.pt (ya (tN zA (xT 2) zp) (ya (tN zA (zP zZ (xT 2) zj (fun _ _=>rfl)) zp) (yc (yk yv (jv 1) (yo xC (xT 2) (yF zj) yE) (by with_unfolding_all rfl))))))
    (zh (zq yt)) zt)
   (zh (zy (jW.pt (ya (tN zA (xT 2) zp) (ya (yk j2 (zP zZ (xT 2) zj (fun _ _=>rfl)) (zB (jA2 zp zp)) (by with_unfolding_all rfl)) (yc (yk yv (jv 1) (zP zZ (xT 2) zj (fun _ _=>rfl)) (by with_unfolding_all rfl))))))
    (zh (zq yt)) zt))))))
  (zh (zq yt))),?_⟩
 have sl:=zF
 refine⟨_,rfl,p,b,rfl,hb,hd,hz,fun H1 r ps s1 hr0 hr1 hps=>?_⟩
 have pl:=All2.len hps
 refine⟨r,rfl,⟨_,SqL.of hr1⟩,ym (xs:=ps.map V.ref) (fun i σ H'=>Same H1 H'/\(b.all.take i).any (sayB x)=false/\∃v,σ=[some (.ref p),some (.str x),v]) ⟨fun _ _ h=>h,rfl,none,rfl⟩ (fun i σ H' _ h=>SqL.of (h.1 _ _ hr1)) ?_ ?_⟩
 ·rintro i v σ H2 hv ⟨s2,hany,v',rfl⟩
  rw[ue]at hv
  obtain⟨pw,hpw,rfl⟩:=uh.mp hv
  obtain⟨c,e1,e2⟩:=All2.get hps hpw
  have yes:sayB x c=true->b.says x=true:=fun h=>Ua.mpr ⟨c,uq e1,h⟩
  have no:sayB x c=false->(b.all.take (i+1)).any (sayB x)=false:=fun h=>by rw[uw,e1,Ta,hany];simpa using h
  have e2:=e2.keep (.of s2)
  have qt:sayB x c=true->Q (.bl true) H2:=fun h=>by
   have:=q H2 (s1.trans s2)
   rw[yes h]at this
   exact this
  by_cases pln:∃w0 y vs,H2 pw=some (.tup (.str w0::.str y::vs))/\w0≠"let"/\c.used=[y]
  ·obtain⟨w0,y,vs,hp,n0,eu⟩:=pln
   have t1:(!decide (V.str w0=V.str "let"))=true:=by rw[decide_eq_false (fun e=>n0 (V.str.inj e))];rfl
   refine⟨_,rfl,ixT hp aI0 ⟨rfl,_,rfl,ite2 (fun _=>?_) (fun c=>absurd t1 c)⟩⟩
   refine⟨_,rfl,ixT hp aI1 ⟨_,rfl,rfl,_,rfl,ite2 (fun c=>?_) (fun c=>?_)⟩⟩
   ·have e:=V.str.inj (of_decide_eq_true c)
    exact qt (decide_eq_true (by rw[eu,e];exact uj.mpr rfl))
   ·have nx:sayB x _=false:=decide_eq_false (fun m=>by rw[eu]at m;exact c (decide_eq_true (by rw[uj.mp m])))
    refine⟨_,rfl,ixT hp aI0 ⟨rfl,_,rfl,ite2 (fun c=>absurd (V.str.inj (of_decide_eq_true c)) n0) (fun _=>?_)⟩⟩
    refine⟨_,rfl,ixT hp aI0 ⟨rfl,_,rfl,ite2 (fun c=>absurd (V.str.inj (of_decide_eq_true c)) n0) (fun _=>?_)⟩⟩
    refine⟨_,rfl,ixT hp aI0 ⟨rfl,_,rfl,ite2 (fun c=>absurd (V.str.inj (of_decide_eq_true c)) n0) (fun _=>?_)⟩⟩
    exact⟨s2,no nx,_,rfl⟩
  cases e2 with
  |give hp=>exact absurd ⟨_,_,_,hp,by decide,rfl⟩ pln
  |iff hp _ _=>exact absurd ⟨_,_,_,hp,by decide,rfl⟩ pln
  |case hp _ _ _=>exact absurd ⟨_,_,_,hp,by decide,rfl⟩ pln
  |@lt y de b2 _ p1 p2 hp hde hb2 =>
   refine⟨_,rfl,ixT hp aI0 ⟨rfl,_,rfl,ite2 aB (fun _=>?_)⟩⟩
   refine⟨_,rfl,ixT hp aI0 ⟨rfl,_,rfl,ite2 (fun _=>?_) (fun c=>absurd (by decide) c)⟩⟩
   cases hde with
   |@num k _ h1 =>
    have nx:sayB x (.lt y (.num k) b2)=false:=rfl
    refine⟨_,rfl,ixT hp aI2 (ixT h1 aI0 ⟨rfl,_,rfl,ite2 aB (fun _=>?_)⟩)⟩
    refine⟨_,rfl,ixT hp aI0 ⟨rfl,_,rfl,ite2 (fun _=>?_) (fun c=>absurd (by decide) c)⟩⟩
    refine⟨_,rfl,ixT hp aI2 (ixT h1 aI0 ⟨rfl,_,rfl,ite2 aB (fun _=>?_)⟩)⟩
    refine⟨_,rfl,ixT hp aI0 ⟨rfl,_,rfl,ite2 (fun _=>?_) (fun c=>absurd (by decide) c)⟩⟩
    refine⟨_,rfl,ixT hp aI2 (ixT h1 aI0 ⟨sN2,fun tk htk=>⟨tk,_,rfl,.inl (SqL.of upd_same),rfl,rfl,_,rfl,ite2 aB (fun _=>?_)⟩⟩)⟩
    exact⟨s2.new htk,no nx,_,rfl⟩
   |@op w0 a0 b0 _ h1 =>
    refine⟨_,rfl,ixT hp aI2 (ixT h1 aI0 ⟨rfl,_,rfl,ite2 aB (fun _=>?_)⟩)⟩
    refine⟨_,rfl,ixT hp aI0 ⟨rfl,_,rfl,ite2 (fun _=>?_) (fun c=>absurd (by decide) c)⟩⟩
    refine⟨_,rfl,ixT hp aI2 (ixT h1 aI0 ⟨rfl,_,rfl,ite2 (fun _=>?_) (fun c=>absurd (by decide) c)⟩)⟩
    refine⟨_,rfl,_,rfl,ixT hp aI2 ⟨_,rfl,p1,_,rfl,h1,fun p3 H3 s3 hp3=>?_⟩⟩
    rw[show cutV [V.str "op",V.str w0,V.str a0,V.str b0] (some 2) none=[a0,b0].map V.str from rfl]at hp3
    refine⟨p3,_,rfl,.inr (SqT.of hp3),rfl,wM _,_,rfl,?_⟩
    show if inV (V.str x) ([a0,b0].map V.str)=true then _ else _
    rw[inVs]
    have eS:sayB x (.lt y (.op w0 a0 b0) b2)=decide (x∈[a0,b0]):=rfl
    have s23:Same H1 H3:=fun b u e=>s3 _ _ (s2 _ _ e)
    by_cases cx:x∈[a0,b0]
    ·rw[decide_eq_true cx]
     refine iteT ?_
     have:=q H3 (s1.trans s23)
     rw[yes (eS.trans (decide_eq_true cx))]at this
     exact this
    rw[decide_eq_false cx]
    refine iteF ?_
    have hp':=s3 _ _ hp
    have h1':=s3 _ _ h1
    refine⟨_,rfl,ixT hp' aI0 ⟨rfl,_,rfl,ite2 (fun _=>?_) (fun c=>absurd (by decide) c)⟩⟩
    refine⟨_,rfl,ixT hp' aI2 (ixT h1' aI0 ⟨sN2,fun tk htk=>⟨tk,_,rfl,.inl (SqL.of upd_same),rfl,rfl,_,rfl,ite2 aB (fun _=>?_)⟩⟩)⟩
    exact⟨s23.new htk,no (eS.trans (decide_eq_false cx)),_,rfl⟩
   |@app w0 g xs _ pq hw h1 h2 =>
    have nop:w0≠"op":=hw.2.1
    have nnum:w0≠"num":=hw.1
    have eS:sayB x (.lt y (.app w0 g xs) b2)=decide (x∈De.uses (.app w0 g xs)):=rfl
    refine⟨_,rfl,ixT hp aI2 (ixT h1 aI0 ⟨rfl,_,rfl,?_⟩)⟩
    by_cases ask:w0="ask"/\g=x
    ·obtain⟨rfl,rfl⟩:=ask
     refine ite2 (fun _=>?_) (fun c=>absurd (by decide) c)
     refine⟨_,rfl,ixT hp aI2 (ixT h1 aI1 ⟨_,rfl,rfl,_,rfl,ite2 (fun _=>?_) (fun c=>absurd (decide_eq_true rfl) c)⟩)⟩
     exact qt (eS.trans (decide_eq_true (by rw[x5];exact uK)))
    have eX:decide (x∈De.uses (.app w0 g xs))=decide (x∈xs):=by
     refine decide_eq_decide.mpr ?_
     by_cases ca:w0="ask"
     ·subst ca
      rw[x5,um]
      exact⟨fun h=>h.resolve_left fun e=>ask ⟨rfl,e.symm⟩,.inr⟩
     ·rw[xv ca]
    suffices rest:_ from ite2 (fun c=>⟨_,rfl,ixT hp aI2 (ixT h1 aI1 ⟨_,rfl,rfl,_,rfl,ite2 (fun c2=>absurd ⟨V.str.inj (of_decide_eq_true c),V.str.inj (of_decide_eq_true c2)⟩ ask) (fun _=>rest)⟩)⟩) (fun _=>rest)
    refine⟨_,rfl,ixT hp aI0 ⟨rfl,_,rfl,ite2 (fun _=>?_) (fun c=>absurd (by decide) c)⟩⟩
    refine⟨_,rfl,ixT hp aI2 (ixT h1 aI0 ⟨rfl,_,rfl,ite2 (fun c=>absurd (V.str.inj (of_decide_eq_true c)) nop) (fun _=>?_)⟩)⟩
    refine⟨_,rfl,ixT hp aI0 ⟨rfl,_,rfl,ite2 (fun _=>?_) (fun c=>absurd (by decide) c)⟩⟩
    refine⟨_,rfl,ixT hp aI2 (ixT h1 aI0 ⟨sN2,fun tk htk=>⟨tk,_,rfl,.inl (SqL.of upd_same),rfl,rfl,_,rfl,?_⟩⟩)⟩
    have nin:inV (V.str w0) [V.str "num",V.str "op"]=false:=by
     cases e:inV (V.str w0) [V.str "num",V.str "op"]with
     |false=>rfl
     |true=>rcases(inV2 _ _ _).mp e with y|y;exact absurd y nnum;exact absurd y nop
    show if(!inV (V.str w0) [V.str "num",V.str "op"])=true then _ else _
    rw[nin]
    refine iteT ?_
    have s3:=s2.new (o:=.lst [.str "num",.str "op"]) htk
    have x3:=zn (o:=.lst [.str "num",.str "op"]) htk
    generalize upd H2 tk (.lst [.str "num",.str "op"])=H3 at *
    refine⟨_,rfl,_,rfl,ixT (x3 _ _ hp) aI2 (ixT (x3 _ _ h1) aI2 ⟨pq,_,rfl,.inr (SqT.of (x3 _ _ h2)),rfl,wM _,_,rfl,?_⟩)⟩
    show if inV (V.str x) (xs.map V.str)=true then _ else _
    rw[inVs]
    by_cases cx:x∈xs
    ·rw[decide_eq_true cx]
     refine iteT ?_
     have:=q H3 (s1.trans s3)
     rw[yes (eS.trans (eX.trans (decide_eq_true cx)))]at this
     exact this
    rw[decide_eq_false cx]
    exact iteF ⟨s3,no (eS.trans (eX.trans (decide_eq_false cx))),_,rfl⟩
 ·rintro σ H2 ⟨s2,hany,v',rfl⟩
  rw[ua,<- pl,uk (ud _)]at hany
  have:=q H2 (s1.trans s2)
  rw[show b.says x=false from hany]at this
  exact this
end
end GN
namespace L2
open PySem PySem.Spec PyProof.Rows
def XY(K:ub)(neg:Bool):R2:=fun x y H Q=>∃p p' xs,x=.ref p/\y=.ref p'/\SqT K H p xs/\SqT K H p' []/\Q (.bl (if neg then !xs.isEmpty else xs.isEmpty)) H
section
variable{X:Cx}
theorem zaD(hu:X.A.units < cLine):OpR X (compareOp .NotEq) (XY X.K true):=by
 intro pins s σ H x y v u Q I rx ry h
 obtain⟨p,p',xs,rfl,rfl,h1,h2,q⟩:=h
 cases rx
 cases ry
 obtain⟨its,r,pl,_⟩:=I.tuple h1
 obtain⟨its',r',pl',_⟩:=I.tuple h2
 cases r'
 have main:=SeqAt.RcNeAt.tuples (A:=X.A) (s:=s) (e:=fun _=>true) pl pl' hu (fun j h1 h2=>absurd h2 (t9 _))
 have e:(!((uC (min its.toArray.size ([]:List Value).toArray.size)).all (fun _=>true) && its.toArray.size == ([]:List Value).toArray.size))=!xs.isEmpty:=by
  cases r with
  |nil=>rfl
  |cons a b=>rfl
 rw[e]at main
 exact main _ _ _ _ ⟨.bl _,H,I,rfl,q⟩
theorem zaE(hu:X.A.units < cLine):OpR X (compareOp .Eq) (XY X.K false):=by
 intro pins s σ H x y v u Q I rx ry h
 obtain⟨p,p',xs,rfl,rfl,h1,h2,q⟩:=h
 cases rx
 cases ry
 obtain⟨its,r,pl,_⟩:=I.tuple h1
 obtain⟨its',r',pl',_⟩:=I.tuple h2
 cases r'
 have main:=SeqAt.RcAt.tuples (A:=X.A) (s:=s) (e:=fun _=>true) pl pl' hu (fun j h1 h2=>absurd h2 (t9 _))
 have e:((uC (min its.toArray.size ([]:List Value).toArray.size)).all (fun _=>true) && its.toArray.size == ([]:List Value).toArray.size)=xs.isEmpty:=by
  cases r with
  |nil=>rfl
  |cons a b=>rfl
 rw[e]at main
 exact main _ _ _ _ ⟨.bl _,H,I,rfl,q⟩
theorem zaF{k:Nat}(hr:Room k X.A):jOp X (compareOp .NotEq) (XY X.K true):=⟨zaD hr.units0⟩
theorem zaG{k:Nat}(hr:Room k X.A):jOp X (compareOp .Eq) (XY X.K false):=⟨zaE hr.units0⟩
end
end L2
namespace GN
open PySem L2 K11
mutual
theorem Bd.all_dp:∀(b:Bd){c:Bd},c∈b.all->c.dp<=b.dp
 |.give x,c,h=>by unfold Bd.all at h;rw[uj.mp h];exact ud _
 |.lt x d b,c,h=>by
  unfold Bd.all at h
  rcases um.mp h with h|h
  ·rw[h];exact ud _
  ·have:=Bd.all_dp b h;show _<=Bd.dp (.lt x d b);rw[Bd.dp];lia
 |.iff x a b,c,h=>by
  unfold Bd.all at h
  rcases um.mp h with h|h
  ·rw[h];exact ud _
  ·show _<=Bd.dp (.iff x a b)
   rw[Bd.dp]
   rcases uE.mp h with h|h
   ·have:=Bd.all_dp a h;lia
   ·have:=Bd.all_dp b h;lia
 |.case x as,c,h=>by
  unfold Bd.all at h
  rcases um.mp h with h|h
  ·rw[h];exact ud _
  ·have:=Arms.all_dp as h;show _<=Bd.dp (.case x as);rw[Bd.dp];lia
theorem Arms.all_dp:∀(a:Arms){c:Bd},c∈a.all->c.dp<=a.dp
 |.nil,c,h=>by unfold Arms.all at h;cases h
 |.cons t ns b r,c,h=>by
  unfold Arms.all at h
  rw[Arms.dp]
  rcases uE.mp h with h|h
  ·have:=Bd.all_dp b h;lia
  ·have:=Arms.all_dp r h;lia
end
def mlen:De->List Nat
 |.app w _ xs=>if w="make"then[xs.length]else[]
 |_=>[]
def Bd.mlens(b:Bd):List Nat:=b.des.flatMap mlen
def larm(x:Str)(w:List Str×Bd):Bool:=!w.1.isEmpty && (decide (w.1.length∈w.2.mlens) && !w.2.says x)
def wN(x:Str):Bd->Bool
 |.case y as=>decide (y=x) && as.ways.any (larm x)
 |_=>false
def Bd.lanew(x:Str)(b:Bd):Bool:=b.all.any (wN x)
theorem WJ(m:Nat)(b:Bd):b.all.any (mks m)=decide (m∈b.mlens):=by
 rw[UH,decide_eq_true_eq,Ua]
 unfold Bd.mlens Bd.des
 rw[Uq]
 constructor
 ·rintro⟨c,h1,h2⟩
  cases c with
  |lt x d e =>
   cases d with
   |app w f xs =>
    have h2:(decide (w="make") && decide (xs.length=m))=true:=h2
    rw[Uk,decide_eq_true_eq,decide_eq_true_eq]at h2
    refine⟨_,Uq.mpr ⟨_,h1,uj.mpr rfl⟩,?_⟩
    show m∈(if w="make"then[xs.length]else[])
    rw[if_pos h2.1]
    exact uj.mpr h2.2.symm
   |num i=>cases h2
   |op w a b=>cases h2
  |give x=>cases h2
  |iff x a b=>cases h2
  |case x as=>cases h2
 ·rintro⟨d,h1,h2⟩
  obtain⟨c,h3,h4⟩:=Uq.mp h1
  refine⟨c,h3,?_⟩
  cases c with
  |lt x d' e =>
   have h4:d=d':=uj.mp h4
   subst h4
   cases d with
   |app w f xs =>
    have h2:m∈(if w="make"then[xs.length]else[]):=h2
    split at h2
    ·rename_i e
     show(decide (w="make") && decide (xs.length=m))=true
     rw[decide_eq_true e,decide_eq_true (uj.mp h2).symm]
     rfl
    ·cases h2
   |num i=>cases h2
   |op w a b=>cases h2
  |give x=>cases h4
  |iff x a b=>cases h4
  |case x as=>cases h4
theorem jD{x:Str}{w:List Str×Bd}(h:x∉w.2.binds):armA x w=larm x w:=by
 unfold armA larm
 rw[WJ]
 have e1:decide (w.1.length≠0)=!w.1.isEmpty:=by cases w.1<;>simp
 have e2:decide (w.2.mk [x]=0)=!w.2.says x:=by
  have:=zaB h
  cases hs:w.2.says x with
  |true=>rw[hs]at this;rw[decide_eq_false (fun z=>by have:=this.mp z;cases this)];rfl
  |false=>rw[decide_eq_true (this.mpr hs)];rfl
 rw[e1,e2,Bool.and_comm (!w.2.says x)]
theorem xQ{x:Str}:∀{as:Arms}{w:List Str×Bd},w∈as.ways->x∉as.binds->x∉w.2.binds
 |.nil,w,h,_=>by unfold Arms.ways at h;cases h
 |.cons t ns b r,w,h,n=>by
  unfold Arms.ways at h
  rw[Arms.binds]at n
  rcases um.mp h with e|e
  ·rw[e];exact fun m=>n (uo _ (uB _ m))
  ·exact xQ e fun m=>n (uo _ (uo _ m))
theorem zaH{x:Str}{as:Arms}(h:x∉as.binds):y9 x as=as.ways.any (larm x):=by
 unfold y9
 rw[UH,Ua,Ua]
 constructor
 ·rintro⟨w,h1,h2⟩
  exact⟨w,h1,by rw[<- jD (xQ h1 h)];exact h2⟩
 ·rintro⟨w,h1,h2⟩
  exact⟨w,h1,by rw[jD (xQ h1 h)];exact h2⟩
mutual
theorem Bd.all_binds{x:Str}:∀(b:Bd){c:Bd},c∈b.all->x∉b.binds->x∉c.binds
 |.give y,c,h,n=>by unfold Bd.all at h;rw[uj.mp h];exact n
 |.lt y d b,c,h,n=>by
  unfold Bd.all at h
  rcases um.mp h with h|h
  ·rw[h];exact n
  ·rw[Bd.binds]at n;exact Bd.all_binds b h fun m=>n (uD _ m)
 |.iff y a b,c,h,n=>by
  unfold Bd.all at h
  rcases um.mp h with h|h
  ·rw[h];exact n
  ·rw[Bd.binds]at n
   rcases uE.mp h with h|h
   ·exact Bd.all_binds a h fun m=>n (uB _ m)
   ·exact Bd.all_binds b h fun m=>n (uo _ m)
 |.case y as,c,h,n=>by
  unfold Bd.all at h
  rcases um.mp h with h|h
  ·rw[h];exact n
  ·rw[Bd.binds]at n;exact Arms.all_binds as h n
theorem Arms.all_binds{x:Str}:∀(a:Arms){c:Bd},c∈a.all->x∉a.binds->x∉c.binds
 |.nil,c,h,n=>by unfold Arms.all at h;cases h
 |.cons t ns b r,c,h,n=>by
  unfold Arms.all at h
  rw[Arms.binds]at n
  rcases uE.mp h with h|h
  ·exact Bd.all_binds b h fun m=>n (uo _ (uB _ m))
  ·exact Arms.all_binds r h fun m=>n (uo _ (uo _ m))
end
theorem inVn(m:Nat):∀ls:List Nat,inV (.int ((m:Nat):Int)) (ls.map fun k=>V.int ((k:Nat):Int))=decide (m∈ls)
 |[]=>rfl
 |y::ls=>by
  show((((y:Nat):Int) == ((m:Nat):Int)) || inV (.int ((m:Nat):Int)) (ls.map fun k=>V.int ((k:Nat):Int)))=_
  rw[inVn m ls,UH,UA,beq_iff_eq,decide_eq_true_eq,decide_eq_true_eq,um]
  exact⟨fun h=>h.imp_left fun e=>by lia,fun h=>h.imp_left fun e=>by rw[e]⟩
theorem WK(l:List Nat):(l.map fun k=>V.int ((k:Nat):Int)).all yh=true:=by
 rw[List.all_map]
 exact Uf.mpr fun _ _=>rfl
def XZ(n:Nat):Sp:=fun vs H Q _=>∃(p:Addr)(b:Bd)(x:Str),vs=[.ref p,.str x]/\IsB H b p/\b.dp<=n/\b.sz<=1000000/\∀H',Same H H'->Q (.bl (b.lanew x)) H'
section
variable{P:Program}{w:World}{K:ub}{mg:Str->Option Value}{base:Heap}{f:Addr}{fd:FuncData}
theorem scLAnew:FnScope ["_law_body_here","_law_name_here","_law_piece","_law_tag","_law_names","_law_inner","_law_many"] lS5 (zo YO):=.ok
theorem zaI:(["_law_body_here","_law_name_here","_law_piece","_law_tag","_law_names","_law_inner","_law_many","_law_deed_here"]:List Str).Nodup:=by decide +kernel
theorem jF:∀l:List De,(l.flatMap mlen).length<=l.length
 |[]=>ud _
 |d::l=>by
  rw[Um,uf,ul]
  have:=jF l
  have:(mlen d).length<=1:=by
   cases d with
   |app w f xs=>show(if w="make"then[xs.length]else[]).length<=1;split<;>simp
   |num i=>exact uW _
   |op w a b=>exact uW _
  lia
theorem JN{n:Nat}(F:Fun K "_law_anew" "_law_anew" YO f fd)(GP:Ca P w K mg base CX0 (1+n) "_law_pieces" ["_law_body_here"] (yH n))(GD:Ca P w K mg base CX0 ((1+n)+1) "_law_deeds" ["_law_body_here"] (wu n))(GS:Ca P w K mg base CX0 ((1+n)+1) "_law_says" lS5 (JM n))(m_len:mg "len"=none):FnOk P w K mg base CX0 ((1+n)+1+1) f fd lS5 (XZ n):=by
 refine F.by scLAnew (fun vs H Q E h=>?_) (fun cdv A outer s H vs Q E hr h=>?_)
 ·obtain⟨p,b,x,rfl,_⟩:=h
  rfl
 obtain⟨p,b,x,rfl,hb,hd,hz,q⟩:=h
 have hrP:Room (1+n) _:=hr.mono (by lia)
 have hr1:Room 1 _:=hr.mono (by lia)
 refine⟨_,
  (zg (zK PassesOwn.never rfl (zG (cA GP hrP (jA1 (jv 0)))) (gN 2 scLAnew.nd)
   (zh (zy (jW.pt (ya (tN zA (xT 2) zp) (yc (tN zA (xT 2) (jv 1)))))
    (zh (zK PassesOwn.never rfl (yW (xT 2)) (yi rfl (zv (gN 3 scLAnew.nd) (zv (gN 4 scLAnew.nd) (zv (gN 5 scLAnew.nd) zM))))
     (zg (yq ["_law_deed_here"] (i:=6) scLAnew.nd rfl (Or.inl rfl) rfl (zG (cA GD hr (jA1 (jv 5)))) (fun _ _ _ _ _=>(gN 7 zaI)) (fun _ _ _ _ _=>(yL (tN zA (zP (z9 K) (jv 7) zj (fun _ _=>rfl)) zp))) (fun _ _ _ _ _=>(yJ (xr K) rfl m_len PySem.boot_len (jA1 (zP (z9 K) (jv 7) zj (fun _ _=>rfl))))))
     (zh (zy (jW.pt (ya (tN (zaF hr1) (jv 4) (zu zE)) (ya (yk yv (jL m_len (jv 4)) (jv 6) (by with_unfolding_all rfl)) (yc (wA (yI (cA GS hr (jA2 (jv 5) (jv 1)))))))))
      (zh (zq yt)) zt)))))
    zt)))
  (zh (zq yt))),?_⟩
 have sl:=zF
 refine⟨_,rfl,p,b,rfl,hb,hd,hz,fun H1 r ps s1 hr0 hr1' hps=>?_⟩
 have pl:=All2.len hps
 refine⟨r,rfl,⟨_,SqL.of hr1'⟩,ym (xs:=ps.map V.ref) (fun i σ H'=>Same H1 H'/\(b.all.take i).any (wN x)=false/\∃v1 v2 v3 v4 v5,σ=[some (.ref p),some (.str x),v1,v2,v3,v4,v5]) ⟨fun _ _ h=>h,rfl,none,none,none,none,none,rfl⟩ (fun i σ H' _ h=>SqL.of (h.1 _ _ hr1')) ?_ ?_⟩
 ·rintro i v σ H2 hv ⟨s2,hany,v1,v2,v3,v4,v5,rfl⟩
  rw[ue]at hv
  obtain⟨pw,hpw,rfl⟩:=uh.mp hv
  obtain⟨c,e1,e2⟩:=All2.get hps hpw
  have cm:=uq e1
  have cz:=Bd.all_sz b cm
  have cd:=Bd.all_dp b cm
  have yes:wN x c=true->b.lanew x=true:=fun h=>Ua.mpr ⟨c,cm,h⟩
  have no:wN x c=false->(b.all.take (i+1)).any (wN x)=false:=fun h=>by rw[uw,e1,Ta,hany];simpa using h
  have e2:=e2.keep (.of s2)
  cases e2 with
  |give hp=>exact⟨_,rfl,ixT hp aI0 ⟨rfl,_,rfl,ite2 aB (fun _=>⟨s2,no rfl,_,_,_,_,_,rfl⟩)⟩⟩
  |iff hp _ _=>exact⟨_,rfl,ixT hp aI0 ⟨rfl,_,rfl,ite2 aB (fun _=>⟨s2,no rfl,_,_,_,_,_,rfl⟩)⟩⟩
  |lt hp _ _=>exact⟨_,rfl,ixT hp aI0 ⟨rfl,_,rfl,ite2 aB (fun _=>⟨s2,no rfl,_,_,_,_,_,rfl⟩)⟩⟩
  |@case y as ps0 _ p1 hp hp1 hl0 hA =>
   rw[show(Bd.case y as).sz=as.sz+1 by rw[Bd.sz]]at cz
   rw[show(Bd.case y as).dp=as.dp+1 by rw[Bd.dp]]at cd
   have eL:wN x (.case y as)=(decide (y=x) && as.ways.any (larm x)):=rfl
   refine⟨_,rfl,ixT hp aI0 ⟨rfl,_,rfl,ite2 (fun _=>?_) (fun c=>absurd (by decide) c)⟩⟩
   refine⟨_,rfl,ixT hp aI1 ⟨_,rfl,rfl,_,rfl,ite2 (fun c=>?_) (fun c=>?_)⟩⟩
   case refine_2 =>
    refine⟨s2,no ?_,_,_,_,_,_,rfl⟩
    rw[eL,decide_eq_false (fun e=>c (decide_eq_true (by rw[e]))),Uy]
   have eyx:y=x:=V.str.inj (of_decide_eq_true c)
   rw[decide_eq_true eyx,tG]at eL
   have al:=hA.len
   refine⟨_,rfl,ixT hp aI2 ⟨p1,rfl,⟨_,SqT.of hp1⟩,yS (xs:=ps0.map V.ref) (fun j σ H'=>Same H2 H'/\(as.ways.take j).any (larm x)=false/\∃v2 v3 v4 v5,σ=[some (.ref p),some (.str x),some (.ref pw),v2,v3,v4,v5]) ⟨fun _ _ h=>h,rfl,_,_,_,_,rfl⟩ (fun j σ H' _ h=>SqT.of (h.1 _ _ hp1)) ?_ ?_⟩⟩
   ·rintro j v σ H3 hv ⟨s3,hany3,v2,v3,v4,v5,rfl⟩
    rw[ue]at hv
    obtain⟨pa,hpa,rfl⟩:=uh.mp hv
    obtain⟨t,q1,r1,ns,b2,g1,g2,g3,g4⟩:=hA.get hpa
    have d2:=Zq g1
    have z2:=wn g1
    have wm:=uq g1
    have yes3:larm x (ns,b2)=true->as.ways.any (larm x)=true:=fun h=>Ua.mpr ⟨_,wm,h⟩
    have no3:larm x (ns,b2)=false->(as.ways.take (j+1)).any (larm x)=false:=fun h=>by rw[uw,g1,Ta,hany3];simpa using h
    have eA:larm x (ns,b2)=(!ns.isEmpty && (decide (ns.length∈b2.mlens) && !b2.says x)):=rfl
    refine⟨pa,_,rfl,SqT.of (s3 _ _ g2),rfl,_,_,rfl,_,_,rfl,_,_,rfl,rfl,?_⟩
    refine cutR (fun D_ rt_ fin=>?_) (fun _ _ h=>h)
    refine⟨_,rfl,r1,b2,rfl,g4.keep (.of s3),by lia,by lia,fun H4 r4 qs s4 hr40 hr4 hqs=>?_⟩
    have ql:=All2.len hqs
    have dl:b2.des.length<=1000000:=by
     have h1:=Zr b2.all
     have h2:=Bd.all_len b2
     unfold Bd.des
     lia
    refine⟨r4,rfl,⟨_,SqL.of hr4⟩,zY (xs:=qs.map V.ref) (fun k τ ys H'=>H4=H'/\(∃v,τ=[some (.ref p),some (.str x),some (.ref pw),some (.str t),some (.ref q1),some (.ref r1),v5,v])/\ys=((b2.des.take k).flatMap mlen).map fun m=>V.int ((m:Nat):Int)) ⟨rfl,⟨none,rfl⟩,rfl⟩ (fun k τ ys H' _ h=>SqL.of (h.1 ▸ hr4)) ?_ ?_⟩
    ·rintro k v τ ys H5 hv ⟨rfl,⟨v',rfl⟩,rfl⟩
     rw[ue]at hv
     obtain⟨pd,hpd,rfl⟩:=uh.mp hv
     obtain⟨de,k1,k2⟩:=All2.get hqs hpd
     have hk:=(uc.mp k1).1
     have ml:=jF (b2.des.take k)
     rw[uN]at ml
     have et:(b2.des.take (k+1)).flatMap mlen=(b2.des.take k).flatMap mlen++mlen de:=by rw[uw,k1,Ud];simp
     rw[et]
     cases k2 with
     |num h1=>exact⟨_,rfl,ixT h1 aI0 ⟨rfl,_,rfl,ite2 aB (fun _=>⟨rfl,⟨_,rfl⟩,by rw[show mlen (.num _)=[]from rfl,ux]⟩)⟩⟩
     |op h1=>exact⟨_,rfl,ixT h1 aI0 ⟨rfl,_,rfl,ite2 aB (fun _=>⟨rfl,⟨_,rfl⟩,by rw[show mlen (.op _ _ _)=[]from rfl,ux]⟩)⟩⟩
     |@app w0 g xs _ pq hw h1 h2 =>
      refine⟨_,rfl,ixT h1 aI0 ⟨rfl,_,rfl,ite2 (fun c=>?_) (fun c=>?_)⟩⟩
      ·have ew:w0="make":=V.str.inj (of_decide_eq_true c)
       refine⟨_,rfl,ixT h1 aI2 ⟨pq,_,rfl,.inr (SqT.of h2),by rw[ua];lia,rfl,⟨_,rfl⟩,?_⟩⟩
       rw[show mlen (.app w0 g xs)=[xs.length]from if_pos ew,ut,ua]
       rfl
      ·have ew:¬ w0="make":=fun e=>c (decide_eq_true (by rw[e]))
       refine⟨rfl,⟨_,rfl⟩,?_⟩
       rw[show mlen (.app w0 g xs)=[]from if_neg ew,ux]
    rintro τ ys H5 ⟨rfl,_,rfl⟩ lm hlm
    rw[ua,<- ql,uk (ud _)]
    rw[show b2.des.flatMap mlen=b2.mlens from rfl]
    have s5:=(s3.trans s4).new (o:=.lst (b2.mlens.map fun m=>V.int ((m:Nat):Int))) hlm
    have hlm5:=upd_same (H:=H4) (a:=lm) (o:=.lst (b2.mlens.map fun m=>V.int ((m:Nat):Int)))
    generalize upd H4 lm (.lst (b2.mlens.map fun m=>V.int ((m:Nat):Int)))=H5 at *
    refine⟨_,rfl,sN0,fun te hte=>?_⟩
    have s6:=s5.new (o:=.tup []) hte
    have x6:=zn (o:=.tup []) hte
    have hte6:=upd_same (H:=H5) (a:=te) (o:=.tup [])
    generalize upd H5 te (.tup [])=H6 at *
    have g3':=s6 _ _ g3
    refine⟨q1,te,_,rfl,rfl,SqT.of g3',SqT.of hte6,_,rfl,?_⟩
    have eie:(ns.map V.str).isEmpty=ns.isEmpty:=by cases ns<;>rfl
    show if(!(ns.map V.str).isEmpty)=true then _ else _
    rw[eie]
    by_cases c1:ns.isEmpty=true
    ·rw[c1]
     refine iteF (fin _ _ ⟨s6,no3 ?_,_,_,_,_,rfl⟩)
     rw[eA,c1]
     rfl
    have c1:ns.isEmpty=false:=by simpa using c1
    rw[c1]at eA ⊢
    refine iteT ?_
    refine⟨_,rfl,q1,_,rfl,.inr (SqT.of g3'),_,rfl,lm,_,rfl,.inl (SqL.of (x6 _ _ hlm5)),rfl,WK _,_,rfl,?_⟩
    rw[ua]
    show if inV (V.int ((ns.length:Nat):Int)) (b2.mlens.map fun m=>V.int ((m:Nat):Int))=true then _ else _
    rw[inVn]
    by_cases c2:ns.length∈b2.mlens
    case neg =>
     rw[decide_eq_false c2]
     refine iteF (fin _ _ ⟨s6,no3 ?_,_,_,_,_,rfl⟩)
     rw[eA,decide_eq_false c2]
     rfl
    rw[decide_eq_true c2]at eA ⊢
    refine iteT ?_
    refine⟨_,rfl,_,rfl,r1,b2,x,rfl,g4.keep (.of s6),by lia,by lia,fun H7 s7=>⟨_,rfl,?_⟩⟩
    cases hs:b2.says x with
    |false =>
     refine iteT ?_
     rw[hs]at eA
     have:=q H7 (s1.trans (s2.trans (s6.trans s7)))
     rw[yes (eL.trans (yes3 eA))]at this
     show D_.rt _ _
     rw[rt_]
     exact this
    |true =>
     rw[hs]at eA
     exact iteF (fin _ _ ⟨s6.trans s7,no3 eA,_,_,_,_,rfl⟩)
   rintro σ H3 ⟨s3,hany3,v2,v3,v4,v5,rfl⟩
   rw[ua,<- al,uk (ud _)]at hany3
   exact⟨s2.trans s3,no (eL.trans hany3),_,_,_,_,_,rfl⟩
 ·rintro σ H2 ⟨s2,hany,v1,v2,v3,v4,v5,rfl⟩
  rw[ua,<- pl,uk (ud _)]at hany
  have:=q H2 (s1.trans s2)
  rw[show b.lanew x=false from hany]at this
  exact this
end
def KnAt(H:Hp)(d:Addr)(rows:List Rw):Prop:=∃kk,H d=some (.dT kk)/\kk.length<=rows.length/\∀z k,(valV kk (kz z k)).isSome=decide ((z,k)∈rows.map Rw.key)
theorem KnAt.put{H:Hp}{d:Addr}{rows:List Rw}{kk:List (List Key×V)}{r:Rw}{v:V}(h:KnAt H d rows)(e:H d=some (.dT kk)):KnAt (upd H d (.dT (putK kk (kz r.z r.k) v))) d (rows++[r]):=by
 obtain⟨kk',a,b,c⟩:=h
 rw[e]at a
 cases a
 have lk:=yb kk (kz r.z r.k) v
 refine⟨_,upd_same,by rw[uf];show _<=_+1;lia,fun z k=>?_⟩
 rw[y0,ut]
 by_cases y:z=r.z/\k=r.k
 ·rw[if_pos (kz_inj.mpr y)]
  obtain⟨rfl,rfl⟩:=y
  exact(decide_eq_true (uo _ (uj.mpr rfl))).symm
 ·rw[if_neg (fun w=>y (kz_inj.mp w)),c]
  refine decide_eq_decide.mpr ⟨fun h=>uB _ h,fun h=>?_⟩
  rcases uE.mp h with h|h
  ·exact h
  ·exact absurd (by have:=uj.mp h;exact⟨congrArg (·.1) this,congrArg (·.2) this⟩) y
structure PrOk(H:Hp)(p:Addr)(dfs:List Df):Prop where
 ex:∃pk pd ds,H p=some (.tup [.ref pk,.ref pd])/\H pd=some (.tup (ds.map V.ref))/\IsFs H dfs ds
theorem PrOk.keep{H H':Hp}{p:Addr}{dfs:List Df}(h:PrOk H p dfs)(t:Tups H H'):PrOk H' p dfs:=let ⟨pk,pd,ds,a,b,c⟩:=h.ex;⟨pk,pd,ds,t _ _ a,t _ _ b,c.keep t⟩
structure PrB(dfs:List Df):Prop where
 b:∀d∈dfs,d.b.sz<=300000/\d.ns.length<=1000
 c:90*cntB dfs+100 < 16000000
 l:(cand dfs).length<=100000
 n:dfs.length<=1000
def jH(T1 T2:Addr):Sp:=fun vs H Q _=>∃(p:Addr)(dfs:List Df),vs=[.ref p]/\PrOk H p dfs/\PrB dfs/\Tbs T1 T2 H/\∀H' r ps,KM (MT T1 T2) H H'->Tbs T1 T2 H'->H' r=some (.lst (ps.map V.ref))->RowsAt H' (yj dfs) ps->Q (.ref r) H'
section
variable{P:Program}{w:World}{K:ub}{mg:Str->Option Value}{base:Heap}{f cU:Addr}{fd:FuncData}
theorem scReasons:FnScope ["program","uses","rows","known","row","at","held"] ["program"] (zo vD):=.ok
theorem Y6{T1 T2:Addr}(F:Fun K "reasons" "reasons" vD f fd)(N:Un K cU)(GU:Ca P w K mg base CX0 11 "all_uses" ["program"] (JC cU T1 T2))(GO:Ca P w K mg base CX0 1 "own_rows" ["program","uses"] (zbi cU T1 T2))(m_len:mg "len"=none):FnOk P w K mg base CX0 12 f fd ["program"] (jH T1 T2):=by
 refine F.by scReasons (fun vs H Q E h=>?_) (fun cdv A outer s H vs Q E hr h=>?_)
 ·obtain⟨p,dfs,rfl,_⟩:=h
  rfl
 obtain⟨p,dfs,rfl,hp,⟨hb1,hb2,hb3,-⟩,hT,q⟩:=h
 have hr11:Room 11 _:=hr.mono (by decide)
 have hr1:Room 1 _:=hr.mono (by decide)
 refine⟨_,
  (zg (sE 1 scReasons.nd (cA GU hr11 (jA1 (jv 0))))
  (zg (sE 2 scReasons.nd (cA GO hr1 (jA2 (jv 0) (jv 1))))
  (zg (sE 3 scReasons.nd vT)
  (zg (zK PassesOwn.never rfl (zG (jv 2)) (gN 4 scReasons.nd)
   (zh (xB hr1 (jv 3) (zu (jA2 (xT 4) (xT 4))) yt)))
  (zg (sE 5 scReasons.nd zj)
  (zg (vt PassesOwn.never (tN wU (jv 5) (jL m_len (jv 2)))
   (zg (sE 6 scReasons.nd (zu (jA2 (zP zZ (xX zI (jv 2) (jv 5)) zj (fun _ _=>rfl)) (zP zZ (xX zI (jv 2) (jv 5)) zj (fun _ _=>rfl)))))
   (zg (zK PassesOwn.never rfl (zG (vP hr1 (yC (jv 1)) (jv 6) (zB zE))) (gN 4 scReasons.nd)
    (zh (zy (WE hr1 (zu (jA2 (xT 4) (xT 4))) (jv 3))
     (zg (xB hr1 (jv 3) (zu (jA2 (xT 4) (xT 4))) yt)
     (zh (zD (yu uz uI uJ zH (jv 2) (jA1 (zu (jA3 (xT 4) (xT 4) (zu (jA3 zp (xT 6) (xT 6))))))))))
     zt)))
   (zh (sE 5 scReasons.nd (zx zU (jv 5) zj))))))
  (zh (zq (jv 2))))))))),?_⟩
 have sl:=zF
 obtain⟨pk,pd,ds,hp1,hpd,hF⟩:=hp.ex
 refine⟨_,rfl,p,pk,pd,ds,dfs,rfl,hp1,hpd,hF,hb1,hb2,hT,fun Hu o L k1 U1=>?_⟩
 have tp1:=hT.tups k1
 refine⟨_,rfl,_,rfl,p,pk,pd,ds,dfs,o,L,_,_,rfl,tp1 _ _ hp1,tp1 _ _ hpd,hF.keep tp1,hb3,U1,fun H2 r ps s2 hr0 hr2 hR2=>?_⟩
 obtain⟨st,est⟩:∃st,st=yd dfs:=⟨_,rfl⟩
 have hC:=Cin.of dfs
 rw[<- est]at U1 hR2 hC
 obtain⟨cs,ecs⟩:∃cs,cs=cand dfs:=⟨_,rfl⟩
 have ol:=wp st dfs
 rw[<- ecs]at hb3 hC ol
 have efin:yj dfs=runR st (unk cs (ownR st dfs)+(ownR st dfs).length) 0 (ownR st dfs):=by rw[est,ecs];rfl
 rw[efin]at q
 clear efin
 generalize ownR st dfs=own at *
 intro kd hkd
 have fkd:Hu kd=none:=s2.free hkd
 have nrk:r≠kd:=zk hr2 hkd
 have s3:=s2.new (o:=.dT []) hkd
 have ol2:=All2.len hR2
 refine⟨_,rfl,r,rfl,⟨_,SqL.of (old hkd hr2)⟩,ym (xs:=ps.map V.ref) (fun i σ H'=>∃va,Same Hu H'/\Tups H2 H'/\H' r=some (.lst (ps.map V.ref))/\KnAt H' kd (own.take i)/\σ=[some (.ref p),some (.ref o.u),some (.ref r),some (.ref kd),va,none,none]) ⟨none,s3,.of (zn hkd _),old hkd hr2,⟨[],upd_same,ud _,fun z k=>rfl⟩,rfl⟩ (fun i σ H' _ h=>?_) ?_ ?_⟩
 ·obtain⟨_,_,_,h,_⟩:=h
  exact SqL.of h
 ·rintro i v σ H3 hv ⟨va,s3,t3,hr3,K3,rfl⟩
  rw[ue]at hv
  obtain⟨t,ht,rfl⟩:=uh.mp hv
  obtain⟨rw1,hrw,q1,ht1,-⟩:=All2.get hR2 ht
  have ht3:=t3 _ _ ht1
  have hi:=(uc.mp hrw).1
  refine⟨_,rfl,_,rfl,ixT ht3 aI0 ⟨_,rfl,ixT ht3 aI1 ⟨sN2,fun tk htk=>?_⟩⟩⟩
  have s4:=s3.new (o:=.tup [.str rw1.z,.int ((rw1.k:Nat):Int)]) htk
  have s34:=zn (o:=.tup [.str rw1.z,.int ((rw1.k:Nat):Int)]) htk
  have hk4:=upd_same (H:=H3) (a:=tk) (o:=.tup [.str rw1.z,.int ((rw1.k:Nat):Int)])
  generalize upd H3 tk (.tup [.str rw1.z,.int ((rw1.k:Nat):Int)])=H4 at *
  obtain⟨kk,kk1,kk2,kk3⟩:=K3
  have kk4:=s34 _ _ kk1
  rw[uN]at kk2
  refine⟨kd,_,rfl,DPut.t (k:=kz rw1.z rw1.k) kk4 hk4 (by lia),?_⟩
  refine⟨_,s4.put fkd,fun b xs e=>?_,by rw[zi nrk];exact s34 _ _ hr3,?_,rfl⟩
  ·have e4:=s34 _ _ (t3 _ _ e)
   rw[zi (fun y=>by rw[y,kk4]at e4;cases e4)]
   exact e4
  ·rw[uw,hrw]
   exact KnAt.put ⟨kk,kk4,by rw[uN];exact kk2,kk3⟩ kk4
 rintro σ H3 ⟨va,s3,t3,hr3,K3,rfl⟩
 rw[ua,<- ol2,uk (ud _)]at K3
 have hR3:=hR2.keep t3
 refine⟨fun m σ H'=>∃(rows:List Rw)(ps:List Addr)(a:Nat)(vr vh:Option V),unk cs rows+(rows.length-a)<=m/\a<=rows.length/\runR st m a rows=runR st (unk cs own+own.length) 0 own/\rows.length+unk cs rows<=200000/\Same Hu H'/\H' r=some (.lst (ps.map V.ref))/\RowsAt H' rows ps/\KnAt H' kd rows/\σ=[some (.ref p),some (.ref o.u),some (.ref r),some (.ref kd),vr,some (.int ((a:Nat):Int)),vh],
  ⟨_,own,ps,0,va,none,ud _,uW _,rfl,by have:=JE cs own;lia,s3,hr3,hR3,K3,rfl⟩,?_⟩
 rintro m σ H4 ⟨rows,ps,a,vr,vh,hm,ha,hrun,hB,s4,hr4,hR4,K4,rfl⟩
 have rl:=All2.len hR4
 refine⟨_,rfl,_,rfl,r,_,rfl,.inl (SqL.of hr4),_,_,rfl,rfl,_,rfl,?_⟩
 rw[ua,<- rl]
 by_cases ca:a < rows.length
 ·rw[decide_eq_true (p:=((a:Nat):Int) < ((rows.length:Nat):Int)) (by lia)]
  refine iteT ⟨_,fun _ _ h=>h,?_⟩
  refine cutD (fun D_ fin=>?_) (fun _ _ h=>h)
  obtain⟨rw1,hrw⟩:∃x,rows[a]?=some x:=⟨_,ui ca⟩
  obtain⟨t,ht,q1,ht1,-⟩:=All2.getl hR4 hrw
  have hx:atI (ps.map V.ref) ((a:Nat):Int)=some (.ref t):=zN (by rw[ue,ht];rfl)
  refine⟨_,rfl,_,rfl,r,_,_,_,rfl,rfl,SqL.of hr4,hx,ixT ht1 aI0 ⟨_,rfl,_,rfl,r,_,_,_,rfl,rfl,SqL.of hr4,hx,ixT ht1 aI1 ⟨sN2,fun tk htk=>?_⟩⟩⟩
  have s5:=s4.new (o:=.tup [.str rw1.z,.int ((rw1.k:Nat):Int)]) htk
  have s45:=zn (o:=.tup [.str rw1.z,.int ((rw1.k:Nat):Int)]) htk
  have hk5:=upd_same (H:=H4) (a:=tk) (o:=.tup [.str rw1.z,.int ((rw1.k:Nat):Int)])
  generalize upd H4 tk (.tup [.str rw1.z,.int ((rw1.k:Nat):Int)])=H5 at *
  have U5:=U1.same s5
  obtain⟨kc,f1,f2,f3,f4⟩:=U5.c
  refine⟨_,rfl,o.u,cU,o.dx,_,.ref o.dc,rfl,U5.ob,N.cl,N.b3,rfl,o.dc,rfl,.inr ⟨kc,.of f1⟩,_,rfl,sN0,fun le hle=>⟨_,DGet.t (k:=kz rw1.z rw1.k) (old hle f1) (old hle hk5),?_⟩⟩
  have s6:=s5.new (o:=.lst []) hle
  have s56:=zn (o:=.lst []) hle
  have hle6:=upd_same (H:=H5) (a:=le) (o:=.lst [])
  generalize upd H5 le (.lst [])=H6 at *
  obtain⟨l,ts,el,hl6,hts,nl⟩:∃l ts,(valV kc (kz rw1.z rw1.k)).getD (.ref le)=.ref l/\H6 l=some (.lst (ts.map V.ref))/\PairsAt H6 (st.C rw1.z rw1.k) ts/\l≠r:=by
   rcases f4 rw1.z rw1.k with⟨y1,y2⟩|⟨l,ts,y1,y2,y3,y4⟩
   ·refine⟨le,[],by rw[y1];rfl,hle6,by rw[y2];exact .nil,fun y=>?_⟩
    have:=s45 _ _ hr4
    rw[<- y,hle]at this
    cases this
   ·refine⟨l,ts,by rw[y1];rfl,s56 _ _ y3,y4.keep (.of s56),fun y=>?_⟩
    obtain⟨_,e⟩:=U1.ll l y2
    rw[y,hr0]at e
    cases e
  rw[el]
  have hR6:=hR4.keep (.of (s45.trans s56))
  have hr6:=s56 _ _ (s45 _ _ hr4)
  have K6:KnAt H6 kd rows:=by
   obtain⟨kk,y1,y2⟩:=K4
   exact⟨kk,s56 _ _ (s45 _ _ y1),y2⟩
  have hk6:=s56 _ _ hk5
  have tl:=All2.len hts
  have hCr:=hC rw1.z rw1.k
  generalize ecc:st.C rw1.z rw1.k=cc at *
  refine⟨l,rfl,⟨_,SqL.of hl6⟩,ym (xs:=ts.map V.ref) (fun i σ H'=>∃(ps:List Addr)(va:Option V),Same Hu H'/\Tups H6 H'/\H' l=some (.lst (ts.map V.ref))/\H' r=some (.lst (ps.map V.ref))/\RowsAt H' ((cc.take i).foldl (zO rw1.z rw1.k) rows) ps/\KnAt H' kd ((cc.take i).foldl (zO rw1.z rw1.k) rows)/\σ=[some (.ref p),some (.ref o.u),some (.ref r),some (.ref kd),va,some (.int ((a:Nat):Int)),some (.ref tk)]) ⟨ps,_,s6,fun _ _ h=>h,hl6,hr6,hR6,K6,rfl⟩ (fun i σ H' _ h=>?_) ?_ ?_⟩
  ·obtain⟨_,_,_,_,h,_⟩:=h
   exact SqL.of h
  ·rintro i v σ H7 hv ⟨ps,va,s7,t7,hl7,hr7,hR7,K7,rfl⟩
   rw[ue]at hv
   obtain⟨t2,ht2,rfl⟩:=uh.mp hv
   obtain⟨c,hc,ht6⟩:=All2.get hts ht2
   have ht7:=t7 _ _ ht6
   have hk7:=t7 _ _ hk6
   have ef:(cc.take (i+1)).foldl (zO rw1.z rw1.k) rows=zO rw1.z rw1.k ((cc.take i).foldl (zO rw1.z rw1.k) rows) c:=by rw[uw,hc,UU];rfl
   have bnd:=(xE (cs:=cs) (g:=rw1.z) (j:=rw1.k) (l:=cc.take i) (rows:=rows) fun c' h'=>hCr c' (List.mem_of_mem_take h')).1
   rw[ef]
   generalize (cc.take i).foldl (zO rw1.z rw1.k) rows=rows' at *
   have rl':=All2.len hR7
   unfold xl
   dsimp only[List.set]
   refine cutD (fun D2_ fin2=>?_) (fun _ _ h=>h)
   refine⟨_,rfl,ixT ht7 aI0 ⟨_,rfl,ixT ht7 aI1 ⟨sN2,fun tt htt=>?_⟩⟩⟩
   have s8:=s7.new (o:=.tup [.str c.1,.int ((c.2:Nat):Int)]) htt
   have s78:=zn (o:=.tup [.str c.1,.int ((c.2:Nat):Int)]) htt
   have htt8:=upd_same (H:=H7) (a:=tt) (o:=.tup [.str c.1,.int ((c.2:Nat):Int)])
   generalize upd H7 tt (.tup [.str c.1,.int ((c.2:Nat):Int)])=H8 at *
   obtain⟨kk,kk1,kk2,kk3⟩:=K7
   have kk8:=s78 _ _ kk1
   refine⟨_,rfl,kd,_,rfl,DGet.t (k:=kz c.1 c.2) kk8 htt8,_,rfl,?_⟩
   rw[kk3]
   by_cases cin:(c.1,c.2)∈rows'.map Rw.key
   ·rw[decide_eq_true cin]
    refine iteF (fin2 _ _ ⟨ps,_,s8,fun b xs e=>s78 _ _ (t7 _ _ e),s78 _ _ hl7,s78 _ _ hr7,?_,?_,rfl⟩)
    ·unfold zO
     rw[if_pos cin]
     exact hR7.keep (.of s78)
    ·unfold zO
     rw[if_pos cin]
     exact⟨kk,kk8,kk2,kk3⟩
   rw[decide_eq_false cin]
   refine iteT ?_
   have ht8:=s78 _ _ ht7
   refine⟨_,rfl,_,rfl,ixT ht8 aI0 ⟨_,rfl,ixT ht8 aI1 ⟨sN2,fun tu htu=>?_⟩⟩⟩
   have s9:=s8.new (o:=.tup [.str c.1,.int ((c.2:Nat):Int)]) htu
   have s79:=s78.new (o:=.tup [.str c.1,.int ((c.2:Nat):Int)]) htu
   have htu9:=upd_same (H:=H8) (a:=tu) (o:=.tup [.str c.1,.int ((c.2:Nat):Int)])
   generalize upd H8 tu (.tup [.str c.1,.int ((c.2:Nat):Int)])=H9 at *
   have kk9:=s79 _ _ kk1
   refine⟨kd,_,rfl,DPut.t (k:=kz c.1 c.2) kk9 htu9 (by lia),?_⟩
   have s10:=s9.put (o:=.dT (putK kk (kz c.1 c.2) (.bl true))) fkd
   have up10:∀b u,b≠kd->H7 b=some u->upd H9 kd (.dT (putK kk (kz c.1 c.2) (.bl true))) b=some u:=fun b u n e=>by rw[zi n];exact s79 _ _ e
   have t10:Tups H7 (upd H9 kd (.dT (putK kk (kz c.1 c.2) (.bl true)))):=fun b xs e=>up10 b _ (fun y=>by rw[y,kk1]at e;cases e) e
   have K10:KnAt (upd H9 kd (.dT (putK kk (kz c.1 c.2) (.bl true)))) kd (rows'++[⟨c.1,c.2,.called rw1.z rw1.k⟩]):=KnAt.put (r:=⟨c.1,c.2,.called rw1.z rw1.k⟩) ⟨kk,kk9,kk2,kk3⟩ kk9
   have hr10:=up10 _ _ nrk hr7
   have hl10:=up10 _ _ (fun y=>by rw[y,kk1]at hl7;cases hl7) hl7
   generalize upd H9 kd (.dT (putK kk (kz c.1 c.2) (.bl true)))=H10 at *
   have ht10:=t10 _ _ ht7
   have hk10:=t10 _ _ hk7
   refine⟨_,rfl,.inl ⟨rfl,_,SqL.of hr10⟩,_,rfl,ixT ht10 aI0 ⟨_,rfl,ixT ht10 aI1 ⟨_,rfl,ixT hk10 aI0 ⟨_,rfl,ixT hk10 aI1 ⟨sN3,fun q2 hq2=>⟨sN3,fun t3 ht3=>?_⟩⟩⟩⟩⟩⟩
   have s11:=s10.new (o:=.tup [.str "called",.str rw1.z,.int ((rw1.k:Nat):Int)]) hq2
   have x11:=zn (o:=.tup [.str "called",.str rw1.z,.int ((rw1.k:Nat):Int)]) hq2
   have hq11:=upd_same (H:=H10) (a:=q2) (o:=.tup [.str "called",.str rw1.z,.int ((rw1.k:Nat):Int)])
   generalize upd H10 q2 (.tup [.str "called",.str rw1.z,.int ((rw1.k:Nat):Int)])=H11 at *
   have s12:=s11.new (o:=.tup [.str c.1,.int ((c.2:Nat):Int),.ref q2]) ht3
   have x12:=x11.new (o:=.tup [.str c.1,.int ((c.2:Nat):Int),.ref q2]) ht3
   have hq12:=old (o:=.tup [.str c.1,.int ((c.2:Nat):Int),.ref q2]) ht3 hq11
   have ht12:=upd_same (H:=H11) (a:=t3) (o:=.tup [.str c.1,.int ((c.2:Nat):Int),.ref q2])
   generalize upd H11 t3 (.tup [.str c.1,.int ((c.2:Nat):Int),.ref q2])=H12 at *
   have hr12:=x12 _ _ hr10
   refine⟨r,_,_,rfl,rfl,hr12,by rw[ua];lia,?_⟩
   have tp:Tups H12 (upd H12 r (.lst (ps.map V.ref++[.ref t3]))):=fun b xs e=>by rw[zi (fun y=>by rw[y,hr12]at e;cases e)];exact e
   have t712:Tups H7 H12:=fun b xs e=>x12 _ _ (t10 _ _ e)
   refine fin2 _ _ ⟨ps++[t3],_,s12.put hr0,fun b xs e=>tp _ _ (t712 _ _ (t7 _ _ e)),by rw[zi nl];exact x12 _ _ hl10,by rw[upd_same,ut];rfl,?_,?_,rfl⟩
   ·unfold zO
    rw[if_neg cin]
    exact All2.app ((hR7.keep t712).keep tp) (.cons ⟨q2,tp _ _ ht12,tp _ _ hq12⟩ .nil)
   ·unfold zO
    rw[if_neg cin]
    obtain⟨kk',y1,y2⟩:=K10
    exact⟨kk',by rw[zi nrk.symm];exact x12 _ _ y1,y2⟩
  rintro σ H7 ⟨ps,va,s7,t7,hl7,hr7,hR7,K7,rfl⟩
  rw[ua,<- tl,uk (ud _)]at hR7 K7
  have bnd:=xE (cs:=cs) (g:=rw1.z) (j:=rw1.k) (l:=cc) (rows:=rows) hCr
  obtain⟨m',rfl⟩:∃m',m=m'+1:=⟨m-1,by lia⟩
  refine⟨_,rfl,_,_,rfl,rfl,fin _ _ ⟨m',by lia,_,ps,a+1,_,_,?_,?_,?_,?_,s7,hr7,hR7,K7,rfl⟩⟩
  ·lia
  ·lia
  ·rw[<- hrun]
   conv=>rhs;unfold runR
   rw[hrw]
   show _=runR st m' (a+1) (vU st rows rw1)
   unfold vU
   rw[ecc]
  ·lia
 ·rw[decide_eq_false (p:=((a:Nat):Int) < ((rows.length:Nat):Int)) (by lia)]
  have e:runR st m a rows=rows:=by
   have:rows[a]?=none:=List.getElem?_eq_none (by lia)
   cases m with
   |zero=>rfl
   |succ m=>unfold runR;rw[this]
  rw[e]at hrun
  rw[<- hrun]at q
  exact iteF ⟨_,rfl,q _ r ps (k1.trans (.of s4)) (U1.tb.same s4) hr4 hR4⟩
end
end GN
namespace L2
open PySem PySem.Spec PyProof.Rows
section
variable{X:Cx}
end
def Sme:Nat->Hp->V->V->Prop
 |0,_,_,_=>False
 |n+1,H,x,y=>(yh x=true/\x=y)\/∃a b xs ys,x=.ref a/\y=.ref b/\((H a=some (.lst xs)/\H b=some (.lst ys))\/(H a=some (.tup xs)/\H b=some (.tup ys)))/\xs.length=ys.length/\∀(i:Nat) u v,xs[i]?=some u->ys[i]?=some v->Sme n H u v
section
variable{X:Cx}{pins:List (Addr×Obj)}{σ:St}{H:Hp}{s:Shared}
theorem jJ{A:Around}{n:Nat}{xs ys:List V}{us vs:List Value}(r:Vals xs us)(r':Vals ys vs)(go:∀{x y:V}{u v:Value},Sme n H x y->RelV x u->RelV y v->SeqAt.EqAt A s u v true)
  (h:∀(i:Nat) u v,xs[i]?=some u->ys[i]?=some v->Sme n H u v) (j:Nat) (h1:j < us.toArray.size) (h2:j < vs.toArray.size):SeqAt.EqAt A s us.toArray[j] vs.toArray[j] true:=by
 have l1:=r.length
 have l2:=r'.length
 simp at h1 h2
 have hx:xs[j]?=some (xs[j]'(by lia)):=ui _
 have hy:ys[j]?=some (ys[j]'(by lia)):=ui _
 obtain⟨u,e1,rx⟩:=r.get hx
 obtain⟨v,e2,ry⟩:=r'.get hy
 have g1:us.toArray[j]=u:=by
  have:=uc.mp e1
  simpa using this.2
 have g2:vs.toArray[j]=v:=by
  have:=uc.mp e2
  simpa using this.2
 rw[g1,g2]
 exact go (h j _ _ hx hy) rx ry
theorem JO{A:Around}{n:Nat}{a b:Addr}{xs ys:List V}(hu:A.units < cLine)(I:Inv X pins σ H s)(hl:xs.length=ys.length)(hab:(H a=some (.lst xs)/\H b=some (.lst ys))\/(H a=some (.tup xs)/\H b=some (.tup ys)))
  (go:∀{x y:V}{u v:Value},Sme n H x y->RelV x u->RelV y v->SeqAt.EqAt A.in1 s u v true) (h:∀(i:Nat) u v,xs[i]?=some u->ys[i]?=some v->Sme n H u v):SeqAt.RcAt A s (.ref a) (.ref b) true:=by
 rcases hab with⟨h1,h2⟩|⟨h1,h2⟩
 ·obtain⟨i1,v1,m1,_⟩:=I.list (SqL.of h1)
  obtain⟨i2,v2,m2,_⟩:=I.list (SqL.of h2)
  have n1:=v1.length
  have n2:=v2.length
  have main:=SeqAt.RcAt.lists (A:=A) (s:=s) (e:=fun _=>true) m1.isList m2.isList (by simp;lia) hu (fun j x y=>jJ v1 v2 go h j x y)
  rw[show((uC i1.toArray.size).all fun _=>true)=true from Uf.mpr fun _ _=>rfl]at main
  exact main
 ·obtain⟨i1,v1,m1,_⟩:=I.tuple (SqT.of h1)
  obtain⟨i2,v2,m2,_⟩:=I.tuple (SqT.of h2)
  have n1:=v1.length
  have n2:=v2.length
  have main:=SeqAt.RcAt.tuples (A:=A) (s:=s) (e:=fun _=>true) m1 m2 hu (fun j x y=>jJ v1 v2 go h j x y)
  have eb:((uC (min i1.toArray.size i2.toArray.size)).all (fun _=>true) && i1.toArray.size == i2.toArray.size)=true:=by
   rw[show(uC (min i1.toArray.size i2.toArray.size)).all (fun _=>true)=true from Uf.mpr fun _ _=>rfl]
   simp
   lia
  rw[eb]at main
  exact main
theorem JP(I:Inv X pins σ H s):∀(n:Nat){A:Around}(hu:A.units+n < cLine){x y:V}{u v:Value},Sme n H x y->RelV x u->RelV y v->SeqAt.EqAt A s u v true
 |0,_,_,_,_,_,_,h,_,_=>h.elim
 |n+1,A,hu,x,y,u,v,h,rx,ry=>by
  rcases h with⟨f,rfl⟩|⟨a,b,xs,ys,rfl,rfl,hab,hl,h⟩
  ·have k:=Yv (A:=A) (s:=s) rx ry f f
   rw[ZR f]at k
   exact k
  ·cases rx
   cases ry
   by_cases c:a=b
   ·subst c
    exact .same _
   ·exact .of_refs c (JO (by lia) I hl hab (fun{x y u v}=>JP I n (A:=A.in1) (by show A.units+1+n < cLine;lia)) h)
def rSme(n:Nat)(b:Bool):R2:=fun x y H Q=>∃p p',x=.ref p/\y=.ref p'/\Sme n H x y/\Q (.bl b) H
theorem zcG{n:Nat}(hn:n<=32)(hu:X.A.units+64 < cLine):OpR X (compareOp .Eq) (rSme n true):=by
 intro pins s σ H x y v u Q I rx ry h
 obtain⟨p,p',rfl,rfl,h,q⟩:=h
 cases rx
 cases ry
 match n,h with
 |n+1,h =>
  rcases h with⟨f,_⟩|⟨a,b,xs,ys,e1,e2,hab,hl,h⟩
  ·cases f
  ·cases e1
   cases e2
   exact JO (A:=X.A) (by lia) I hl hab (fun{x y u v}=>JP I n (A:=X.A.in1) (by show X.A.units+1+n < cLine;lia)) h _ _ _ _ ⟨.bl true,H,I,rfl,q⟩
theorem zcH{k n:Nat}(hn:n<=32)(hr:Room k X.A):jOp X (compareOp .Eq) (rSme n true):=⟨zcG hn hr.units⟩
end
def eqVs(a b:List V):Bool:=(uC (min a.length b.length)).all (fun j=>eqV (a.getD j .non) (b.getD j .non)) && a.length == b.length
theorem xF{a:List V}(h:a.all yh=true):eqVs a a=true:=by
 unfold eqVs
 rw[Uk]
 refine⟨Uf.mpr fun j hj=>?_,by simp⟩
 have hj:=Us.mp hj
 rw[Nat.min_self]at hj
 rw[uV,ui hj]
 exact ZR (Uf.mp h _ (tU hj))
def tupO(C:List V->Bool):Option HO->Bool
 |some (.tup c)=>C c
 |_=>false
def tupF(H:Hp)(C:List V->Bool):Value->Bool
 |.ref t=>tupO C (H t)
 |_=>false
theorem vX{H:Hp}{C:List V->Bool}{c:List V}{t:Addr}(h:H t=some (.tup c)):tupF H C (.ref t)=C c:=by
 show tupO C (H t)=_
 rw[h]
 rfl
def rInT:R2:=fun x y H Q=>∃(p l:Addr)(xs:List V)(k:List (List V))(ts:List Addr),x=.ref p/\y=.ref l/\H p=some (.tup xs)/\xs.all yh=true/\H l=some (.lst (ts.map V.ref))/\(∀(i:Nat)(t:Addr),ts[i]?=some t->∃c,k[i]?=some c/\H t=some (.tup c)/\c.all yh=true)/\k.length=ts.length/\Q (.bl (k.any fun c=>eqVs c xs)) H
def rInP:R2:=fun x y H Q=>∃(p l:Addr)(a:Str)(n:Int)(k:List (Str×Int))(ts:List Addr),x=.ref p/\y=.ref l/\H p=some (.tup [.str a,.int n])/\H l=some (.lst (ts.map V.ref))/\(∀(i:Nat)(t:Addr),ts[i]?=some t->∃c,k[i]?=some c/\H t=some (.tup [.str c.1,.int c.2]))/\k.length=ts.length/\Q (.bl (decide ((a,n)∈k))) H
def rIn2:R2:=fun x y H Q=>∃(p l:Addr)(a c:Str)(k:List (Str×Str×List V))(ts:List Addr),x=.ref p/\y=.ref l/\H p=some (.tup [.str a,.str c])/\H l=some (.lst (ts.map V.ref))/\(∀(i:Nat)(t:Addr),ts[i]?=some t->∃e,k[i]?=some e/\H t=some (.tup (.str e.1::.str e.2.1::e.2.2)))/\k.length=ts.length/\Q (.bl (k.any fun e=>decide (e.1=a) && (decide (e.2.1=c) && e.2.2.isEmpty))) H
section
variable{X:Cx}{pins:List (Addr×Obj)}{σ:L2.St}{H:Hp}{s:Shared}
theorem jK{xs:List V}{us:List Value}(r:Vals xs us){j:Nat}(h:j < us.length):RelV (xs.getD j .non) us[j]:=by
 have hl:=r.length
 obtain⟨u,e1,rx⟩:=r.get (i:=j) (x:=xs[j]'(by lia)) (ui _)
 rw[uV,ui (by lia),(uc.mp e1).2]
 exact rx
theorem xG{xs:List V}(h:xs.all yh=true){j:Nat}(hj:j < xs.length):yh (xs.getD j .non)=true:=by
 rw[uV,ui hj]
 exact Uf.mp h _ (tU hj)
theorem zaJ{A:Around}(hu:A.units < cLine)(I:Inv X pins σ H s){p q:Addr}{a b:List V}(hp:H p=some (.tup a))(hq:H q=some (.tup b))(f:∀j,j < a.length->j < b.length->yh (a.getD j .non)=true/\yh (b.getD j .non)=true)(fe:p=q->eqVs a b=true):SeqAt.EqAt A s (.ref p) (.ref q) (eqVs a b):=by
 by_cases e:p=q
 ·rw[fe e,e]
  exact .same _
 ·refine .of_refs e ?_
  obtain⟨i1,v1,m1,_⟩:=I.tuple (SqT.of hp)
  obtain⟨i2,v2,m2,_⟩:=I.tuple (SqT.of hq)
  have l1:=v1.length
  have l2:=v2.length
  have main:=SeqAt.RcAt.tuples (A:=A) (s:=s) (e:=fun j=>eqV (a.getD j .non) (b.getD j .non)) m1 m2 hu (fun j h1 h2=>by
   simp at h1 h2
   obtain⟨f1,f2⟩:=f j (by lia) (by lia)
   exact Yv (by simpa using jK v1 h1) (by simpa using jK v2 h2) f1 f2)
  rw[ur,ur,<- l1,<- l2]at main
  exact main
theorem Zs{p l:Addr}{xs:List V}(I:Inv X pins σ H s)(hu:X.A.units+64 < cLine)(hp:H p=some (.tup xs)){ts:List Addr}(hl:H l=some (.lst (ts.map V.ref))){k:List (List V)}(hk:∀(i:Nat)(t:Addr),ts[i]?=some t->∃c,k[i]?=some c/\H t=some (.tup c)/\(∀j,j < c.length->j < xs.length->yh (c.getD j .non)=true/\yh (xs.getD j .non)=true)/\(c=xs->eqVs c xs=true))(hlen:k.length=ts.length):∃its:List Value,s.heap.IsList l its.toArray/\(∀w∈its.toArray,SeqAt.EqAt X.A.in1 s w (.ref p) (tupF H (fun c=>eqVs c xs) w))/\its.toArray.any (tupF H fun c=>eqVs c xs)=k.any fun c=>eqVs c xs:=by
 obtain⟨its,r,pl,hz⟩:=I.list (SqL.of hl)
 have hlr:=r.length
 rw[ua]at hlr
 have at_:∀(i:Nat)(h:i < its.length),∃(t:Addr)(c:List V),its[i]=.ref t/\ts[i]?=some t/\k[i]?=some c/\H t=some (.tup c):=fun i hi=>by
  have hi':i < ts.length:=by lia
  obtain⟨u,o1,p1⟩:=r.get (i:=i) (x:=.ref ts[i]) (by rw[ue,ui hi'];rfl)
  cases p1
  obtain⟨c,c1,c2,_⟩:=hk i ts[i] (ui hi')
  exact⟨ts[i],c,(uc.mp o1).2,ui hi',c1,c2⟩
 refine⟨its,pl.isList,fun w hw=>?_,?_⟩
 ·obtain⟨i,hi,e⟩:=List.mem_iff_getElem.mp (by simpa using hw)
  obtain⟨t,c,e1,e2,e3,e4⟩:=at_ i hi
  obtain⟨c',d1,d2,d3,d4⟩:=hk i t e2
  rw[e3]at d1
  cases d1
  rw[<- e,e1,vX e4]
  refine zaJ (A:=X.A.in1) (by show X.A.units+1 < cLine;lia) I e4 hp d3 fun z=>d4 ?_
  rw[z,hp]at e4
  cases e4
  rfl
 ·rw[UH]
  simp only[List.any_toArray]
  rw[Ua,Ua]
  constructor
  ·rintro⟨w,hw,hf⟩
   obtain⟨i,hi,e⟩:=List.mem_iff_getElem.mp hw
   obtain⟨t,c,e1,e2,e3,e4⟩:=at_ i hi
   rw[<- e,e1,vX e4]at hf
   exact⟨c,uq e3,hf⟩
  ·rintro⟨c,hm,hf⟩
   obtain⟨i,hi⟩:=Uv.mp hm
   have hi':=(uc.mp hi).1
   obtain⟨t,c',e1,e2,e3,e4⟩:=at_ i (by lia)
   rw[hi]at e3
   cases e3
   exact⟨_,tU _,by rw[e1,vX e4];exact hf⟩
theorem zcI(hu:X.A.units+64 < cLine):OpR X (compareOp .In) rInT:=by
 intro pins s σ H x y v u Q I rx ry h
 obtain⟨p,l,xs,k,ts,rfl,rfl,hp,fx,hl,hk,hlen,q⟩:=h
 cases rx
 cases ry
 obtain⟨its,a,b,c⟩:=Zs I hu hp hl (fun i t h=>by
  obtain⟨c,c1,c2,c3⟩:=hk i t h
  exact⟨c,c1,c2,fun j h1 h2=>⟨xG c3 h1,xG fx h2⟩,fun e=>by rw[e];exact xF fx⟩) hlen
 exact SeqAt.in_listAt _ a b ⟨.bl _,H,I,rfl,by rw[c];exact q⟩
theorem zbj{a:Str}{n:Int}:∀k:List (Str×Int),((k.map fun c=>[V.str c.1,V.int c.2]).any fun c=>eqVs c [V.str a,V.int n])=decide ((a,n)∈k)
 |[]=>rfl
 |c::k=>by
  rw[uH,tF,zbj k]
  show(((c.1 == a) && ((c.2 == n) && true)) && true || _)=_
  rw[t8,t8,UH,UA,Uk,beq_iff_eq,beq_iff_eq,decide_eq_true_eq,decide_eq_true_eq,um]
  exact or_congr ⟨fun h=>Prod.ext h.1.symm h.2.symm,fun h=>by rw[<- h];exact⟨rfl,rfl⟩⟩ Iff.rfl
theorem preP{p l:Addr}{a:Str}{n:Int}(I:Inv X pins σ H s)(hu:X.A.units+64 < cLine)(hp:H p=some (.tup [.str a,.int n])){ts:List Addr}(hl:H l=some (.lst (ts.map V.ref))){k:List (Str×Int)}(hk:∀(i:Nat)(t:Addr),ts[i]?=some t->∃c,k[i]?=some c/\H t=some (.tup [.str c.1,.int c.2]))(hlen:k.length=ts.length):∃its:List Value,s.heap.IsList l its.toArray/\(∀w∈its.toArray,SeqAt.EqAt X.A.in1 s w (.ref p) (tupF H (fun c=>eqVs c [.str a,.int n]) w))/\its.toArray.any (tupF H fun c=>eqVs c [.str a,.int n])=decide ((a,n)∈k):=by
 obtain⟨its,a',b,c⟩:=Zs (k:=k.map fun c=>[V.str c.1,V.int c.2]) I hu hp hl (fun i t h=>by
  obtain⟨c,c1,c2⟩:=hk i t h
  exact⟨_,by rw[ue,c1];rfl,c2,fun j h1 h2=>⟨xG rfl h1,xG rfl h2⟩,fun e=>by rw[e];exact xF rfl⟩) (by rw[ua];exact hlen)
 rw[zbj]at c
 exact⟨its,a',b,c⟩
theorem zcJ(hu:X.A.units+64 < cLine):OpR X (compareOp .In) rInP:=by
 intro pins s σ H x y v u Q I rx ry h
 obtain⟨p,l,a,n,k,ts,rfl,rfl,hp,hl,hk,hlen,q⟩:=h
 cases rx
 cases ry
 obtain⟨its,b,c,d⟩:=preP I hu hp hl hk hlen
 exact SeqAt.in_listAt _ b c ⟨.bl _,H,I,rfl,by rw[d];exact q⟩
theorem zcK(a c a' c':Str)(r:List V):eqVs (.str a'::.str c'::r) [.str a,.str c]=(decide (a'=a) && (decide (c'=c) && r.isEmpty)):=by
 unfold eqVs
 rw[show min (V.str a'::V.str c'::r).length [V.str a,V.str c].length=2 by show min (r.length+1+1) 2=2;lia]
 show((a' == a) && ((c' == c) && true) && (r.length+1+1 == 2))=_
 rw[show(r.length+1+1 == 2)=r.isEmpty by cases r<;>simp,t8,Bool.and_assoc]
 rfl
theorem zcL(hu:X.A.units+64 < cLine):OpR X (compareOp .In) rIn2:=by
 intro pins s σ H x y v u Q I rx ry h
 obtain⟨p,l,a,c,k,ts,rfl,rfl,hp,hl,hk,hlen,q⟩:=h
 cases rx
 cases ry
 obtain⟨its,b,d,e⟩:=Zs (k:=k.map fun e=>V.str e.1::V.str e.2.1::e.2.2) I hu hp hl (fun i t h=>by
  obtain⟨e,e1,e2⟩:=hk i t h
  refine⟨_,by rw[ue,e1];rfl,e2,fun j h1 h2=>?_,fun z=>by rw[z];exact xF rfl⟩
  match j,h2 with
  |0,_=>exact⟨rfl,rfl⟩
  |1,_=>exact⟨rfl,rfl⟩) (by rw[ua];exact hlen)
 refine SeqAt.in_listAt _ b d ⟨.bl _,H,I,rfl,?_⟩
 rw[e,List.any_map]
 have:((fun c_1=>eqVs c_1 [V.str a,V.str c]) ∘ fun e:Str×Str×List V=>V.str e.1::V.str e.2.1::e.2.2)=fun e=>decide (e.1=a) && (decide (e.2.1=c) && e.2.2.isEmpty):=funext fun e=>zcK ..
 rw[this]
 exact q
theorem JQ{k:Nat}(hr:Room k X.A):jOp X (compareOp .In) rInT:=⟨zcI hr.units⟩
theorem JR{k:Nat}(hr:Room k X.A):jOp X (compareOp .In) rInP:=⟨zcJ hr.units⟩
theorem zcM{k:Nat}(hr:Room k X.A):jOp X (compareOp .In) rIn2:=⟨zcL hr.units⟩
end
end L2
namespace GN
open PySem L2 K11
def isFn(g:Str):De->Bool
 |.app w f _=>decide (w="func") && decide (f=g)
 |_=>false
def byF(g:Str)(dfs:List Df):Bool:=dfs.any fun d=>d.b.des.any (isFn g)
structure DpB(n:Nat)(dfs:List Df):Prop where
 h:∀d∈dfs,d.b.dp<=n/\d.b.sz<=1000000
def zbk(n:Nat):Sp:=fun vs H Q _=>∃(p:Addr)(g:Str)(dfs:List Df),vs=[.ref p,.str g]/\PrOk H p dfs/\DpB n dfs/\∀H',Same H H'->Q (.bl (byF g dfs)) H'
theorem byF_iff{g:Str}{dfs:List Df}:byF g dfs=true↔∃d∈dfs,∃b∈d.b.all,FnB g b:=by
 unfold byF
 rw[Ua]
 refine exists_congr fun d=>and_congr Iff.rfl ?_
 rw[Ua]
 constructor
 ·rintro⟨de,h1,h2⟩
  obtain⟨c,h3,h4⟩:=Uq.mp h1
  refine⟨c,h3,?_⟩
  cases c with
  |lt x d' e =>
   have h4:de=d':=uj.mp h4
   subst h4
   cases de with
   |app w f xs =>
    have h2:(decide (w="func") && decide (f=g))=true:=h2
    rw[Uk,decide_eq_true_eq,decide_eq_true_eq]at h2
    exact h2
   |num i=>cases h2
   |op w a b=>cases h2
  |give x=>cases h4
  |iff x a b=>cases h4
  |case x as=>cases h4
 ·rintro⟨c,h3,h4⟩
  cases c with
  |lt x d' e =>
   cases d' with
   |app w f xs =>
    refine⟨_,Uq.mpr ⟨_,h3,uj.mpr rfl⟩,?_⟩
    show(decide (w="func") && decide (f=g))=true
    rw[decide_eq_true h4.1,decide_eq_true h4.2]
    rfl
   |num i=>exact h4.elim
   |op w a b=>exact h4.elim
  |give x=>exact h4.elim
  |iff x a b=>exact h4.elim
  |case x as=>exact h4.elim
section
variable{P:Program}{w:World}{K:ub}{mg:Str->Option Value}{base:Heap}{f:Addr}{fd:FuncData}
theorem scByF:FnScope ["_law_program_here","_law_def_name","_law_name_here","_law_params","_law_body_here","_law_deed_here"] lS21 (zo Zb):=.ok
theorem zcN{n:Nat}(F:Fun K "_law_by_func" "_law_by_func" Zb f fd)(GD:Ca P w K mg base CX0 ((1+n)+1) "_law_deeds" ["_law_body_here"] (wu n)):FnOk P w K mg base CX0 ((1+n)+1+1) f fd lS21 (zbk n):=by
 refine F.by scByF (fun vs H Q E h=>?_) (fun cdv A outer s H vs Q E hr h=>?_)
 ·obtain⟨p,g,dfs,rfl,_⟩:=h
  rfl
 obtain⟨p,g,dfs,rfl,hp,⟨hb⟩,q⟩:=h
 refine⟨_,
  (zg (zK PassesOwn.never rfl (yW (xT 0)) (yi rfl (zv (gN 2 scByF.nd) (zv (gN 3 scByF.nd) (zv (gN 4 scByF.nd) zM))))
   (zh (zK PassesOwn.never rfl (zG (cA GD hr (jA1 (jv 4)))) (gN 5 scByF.nd)
    (zh (zy (jW.pt (ya (tN zA (xT 5) zp) (yc (tN zA (xT 5) (jv 1)))))
     (zh (zq yt)) zt)))))
  (zh (zq yt))),?_⟩
 have sl:=zF
 obtain⟨pk,pd,ds,e1,e2,hF⟩:=hp.ex
 refine⟨_,rfl,ixT e1 aI1 ⟨pd,rfl,⟨_,SqT.of e2⟩,yS (xs:=ds.map V.ref) (fun i σ H'=>Same H H'/\byF g (dfs.take i)=false/\∃v1 v2 v3 v4,σ=[some (.ref p),some (.str g),v1,v2,v3,v4]) ⟨fun _ _ h=>h,rfl,none,none,none,none,rfl⟩ (fun i σ H' _ h=>SqT.of (h.1 _ _ e2)) ?_ ?_⟩⟩
 ·rintro i v σ H1 hv ⟨s1,hany,v1,v2,v3,v4,rfl⟩
  rw[ue]at hv
  obtain⟨t,ht,rfl⟩:=uh.mp hv
  obtain⟨d,hd,hFd⟩:=hF.get ht
  obtain⟨qn,pb,g1,g2,g3⟩:=(hFd.keep (.of s1)).ex
  have dm:=uq hd
  obtain⟨b1,b2⟩:=hb d dm
  refine⟨t,_,rfl,SqT.of g1,rfl,_,_,rfl,_,_,rfl,_,_,rfl,rfl,?_⟩
  refine⟨_,rfl,pb,d.b,rfl,g3,b1,b2,fun H2 r qs s2 hr0 hr2 hqs=>?_⟩
  have ql:=All2.len hqs
  refine⟨r,rfl,⟨_,SqL.of hr2⟩,ym (xs:=qs.map V.ref) (fun j σ H'=>H2=H'/\(d.b.des.take j).any (isFn g)=false/\∃v4,σ=[some (.ref p),some (.str g),some (.str d.z),some (.ref qn),some (.ref pb),v4]) ⟨rfl,rfl,_,rfl⟩ (fun j σ H' _ h=>SqL.of (h.1 ▸ hr2)) ?_ ?_⟩
  ·rintro j v σ H3 hv ⟨rfl,hany2,v4,rfl⟩
   rw[ue]at hv
   obtain⟨pd',hpd',rfl⟩:=uh.mp hv
   obtain⟨de,k1,k2⟩:=All2.get hqs hpd'
   have no:isFn g de=false->(d.b.des.take (j+1)).any (isFn g)=false:=fun h=>by rw[uw,k1,Ta,hany2];simpa using h
   cases k2 with
   |num h1=>exact⟨_,rfl,ixT h1 aI0 ⟨rfl,_,rfl,ite2 aB (fun _=>⟨rfl,no rfl,_,rfl⟩)⟩⟩
   |op h1=>exact⟨_,rfl,ixT h1 aI0 ⟨rfl,_,rfl,ite2 aB (fun _=>⟨rfl,no rfl,_,rfl⟩)⟩⟩
   |@app w0 g0 xs _ pq hw h1 h2 =>
    have eF:isFn g (.app w0 g0 xs)=(decide (w0="func") && decide (g0=g)):=rfl
    refine⟨_,rfl,ixT h1 aI0 ⟨rfl,_,rfl,ite2 (fun c=>?_) (fun c=>?_)⟩⟩
    ·have ew:w0="func":=V.str.inj (of_decide_eq_true c)
     refine⟨_,rfl,ixT h1 aI1 ⟨_,rfl,rfl,_,rfl,ite2 (fun c2=>?_) (fun c2=>?_)⟩⟩
     ·have eg:g0=g:=V.str.inj (of_decide_eq_true c2)
      have:=q H2 (s1.trans s2)
      rw[show byF g dfs=true from Ua.mpr ⟨d,dm,Ua.mpr ⟨_,uq k1,by rw[eF,decide_eq_true ew,decide_eq_true eg];rfl⟩⟩]at this
      exact this
     ·refine⟨rfl,no ?_,_,rfl⟩
      rw[eF,decide_eq_false (p:=g0=g) (fun e=>c2 (decide_eq_true (by rw[e]))),Bool.and_false]
    ·refine⟨rfl,no ?_,_,rfl⟩
     rw[eF,decide_eq_false (fun e=>c (decide_eq_true (by rw[e]))),Uy]
  rintro σ H3 ⟨rfl,hany2,v4,rfl⟩
  rw[ua,<- ql,uk (ud _)]at hany2
  refine⟨s1.trans s2,?_,_,_,_,_,rfl⟩
  unfold byF at hany ⊢
  rw[uw,hd,Ta,hany]
  simpa using hany2
 rintro σ H1 ⟨s1,hany,v1,v2,v3,v4,rfl⟩
 rw[ua,<- hF.len,uk (ud _)]at hany
 have:=q H1 s1
 rw[hany]at this
 exact this
def isGv(x:Str):Bd->Bool
 |.give y=>decide (y=x)
 |_=>false
def opt(c:Bool)(s:Str):List Str:=if c=true then[s]else[]
theorem wv(c:Bool)(s:Str):(opt c s).length<=1:=by cases c<;>simp[opt]
def dirD(x:Str):De->List Str
 |.app w f xs=>opt (decide (w="make"\/w="func"\/w="ask") && decide (x∈xs)) "put" ++ opt (decide (w="ask") && decide (f=x)) "asked"
 |_=>[]
def yQ(dfs:List Df)(d:Df)(x:Str):List Str:=opt (d.b.all.any (isGv x)) "given" ++ d.b.des.flatMap (dirD x)++opt (byF d.z dfs) "handed" ++ opt (d.b.lanew x) "anew"
theorem JS(x:Str)(d:De):(dirD x d).length<=2:=by
 cases d with
 |app w f xs =>
  have h1:=wv (decide (w="make"\/w="func"\/w="ask") && decide (x∈xs)) "put"
  have h2:=wv (decide (w="ask") && decide (f=x)) "asked"
  show(opt _ _++opt _ _).length<=2
  rw[uf]
  lia
 |num i=>exact uW _
 |op w a b=>exact uW _
theorem vY(x:Str):∀l:List De,(l.flatMap (dirD x)).length<=2*l.length
 |[]=>ud _
 |d::l=>by
  rw[Um,uf,ul]
  have:=vY x l
  have:=JS x d
  lia
def Fo(H:Hp)(r:Addr)(rs:List Str):Prop:=∃ps:List Addr,H r=some (.lst (ps.map V.ref))/\All2 (fun(s:Str) t=>H t=some (.tup [.str s])) rs ps
theorem Fo.same{H H':Hp}{r:Addr}{rs:List Str}(h:Fo H r rs)(s:Same H H'):Fo H' r rs:=let ⟨ps,a,b⟩:=h;⟨ps,s _ _ a,All2.imp b fun _ _ e=>s _ _ e⟩
theorem Fo.add{H:Hp}{r tk:Addr}{rs:List Str}{s:Str}{ps:List Addr}(hr:H r=some (.lst (ps.map V.ref)))(hps:All2 (fun(s:Str) t=>H t=some (.tup [.str s])) rs ps)(htk:H tk=none):Fo (upd (upd H tk (.tup [.str s])) r (.lst (ps.map V.ref++[.ref tk]))) r (rs++[s]):=by
 have n:tk≠r:=(zk hr htk).symm
 refine⟨ps++[tk],by rw[upd_same,ut];rfl,All2.app (All2.imp hps fun s t e=>?_) (.cons (by rw[zi n,upd_same]) .nil)⟩
 rw[zi (fun y=>by rw[y,hr]at e;cases e),zi (zk e htk)]
 exact e
theorem JT{H:Hp}{x:Str}{l:List Bd}{ps:List Addr}(h:IsBs H l ps):∃k:List (Str×Str×List V),k.length=ps.length/\(∀(i:Nat)(t:Addr),ps[i]?=some t->∃e,k[i]?=some e/\H t=some (.tup (.str e.1::.str e.2.1::e.2.2)))/\(k.any fun e=>decide (e.1="give") && (decide (e.2.1=x) && e.2.2.isEmpty))=l.any (isGv x):=by
 unfold IsBs at h
 induction h with
 |nil=>exact⟨[],rfl,fun i t h=>by simp at h,rfl⟩
 |@cons b p l ps hb h ih =>
  obtain⟨k,k1,k2,k3⟩:=ih
  have one:∃e:Str×Str×List V,H p=some (.tup (.str e.1::.str e.2.1::e.2.2))/\(decide (e.1="give") && (decide (e.2.1=x) && e.2.2.isEmpty))=isGv x b:=by
   cases hb with
   |@give y _ hp=>exact⟨("give",y,[]),hp,by show(decide _ && (decide (y=x) && true))=decide (y=x);rw[decide_eq_true rfl,tG,t8]⟩
   |@lt y d c _ q r hp _ _=>exact⟨("let",y,[.ref q,.ref r]),hp,by show(decide (("let":Str)="give") && _)=false;rw[decide_eq_false (p:=("let":Str)="give") (by decide),Uy]⟩
   |@iff y a c _ q r hp _ _=>exact⟨("if",y,[.ref q,.ref r]),hp,by show(decide (("if":Str)="give") && _)=false;rw[decide_eq_false (p:=("if":Str)="give") (by decide),Uy]⟩
   |@case y as ps _ q hp _ _ _=>exact⟨("case",y,[.ref q]),hp,by show(decide (("case":Str)="give") && _)=false;rw[decide_eq_false (p:=("case":Str)="give") (by decide),Uy]⟩
  obtain⟨e,e1,e2⟩:=one
  refine⟨e::k,by rw[ul,ul,k1],fun i t ht=>?_,by rw[tF,tF,e2,k3]⟩
  cases i with
  |zero =>
   have:p=t:=by simpa using ht
   subst this
   exact⟨e,rfl,e1⟩
  |succ i=>exact k2 i t (by simpa using ht)
theorem vZ{c:Prop}[Decidable c]{ta:TS}{D:Ends}{σ:St}{H:Hp}{R:Hp->Prop}(a:c->∀D:Ends,(∀H',R H'->D.nx σ H')->ta D σ H)(b:¬ c->R H)(fin:∀H',R H'->D.nx σ H'):if c then ta D σ H else wQ D σ H:=by
 split
 ·rename_i h;exact a h _ fin
 ·rename_i h;exact fin _ (b h)
theorem Yf(s:Str):opt true s=[s]:=rfl
theorem jM(s:Str):opt false s=[]:=rfl
def Yg(n:Nat):Sp:=fun vs H Q _=>∃(p po:Addr)(x:Str)(dfs:List Df)(d:Df),vs=[.ref p,.ref po,.str x]/\PrOk H p dfs/\DpB n dfs/\IsF H d po/\d∈dfs/\∀H' r,Same H H'->Fo H' r (yQ dfs d x)->Q (.ref r) H'
theorem scDirect:FnScope ["_law_program_here","_law_one","_law_name_here","_law_found","_law_deed_here"] lS15 (zo Zc):=.ok
theorem WL{n:Nat}(F:Fun K "_law_direct" "_law_direct" Zc f fd)(GP:Ca P w K mg base CX0 (1+n) "_law_pieces" ["_law_body_here"] (yH n))(GD:Ca P w K mg base CX0 ((1+n)+1) "_law_deeds" ["_law_body_here"] (wu n))(GB:Ca P w K mg base CX0 ((1+n)+1+1) "_law_by_func" lS21 (zbk n))(GA:Ca P w K mg base CX0 ((1+n)+1+1) "_law_anew" lS5 (XZ n)):FnOk P w K mg base CX0 ((1+n)+1+1+1) f fd lS15 (Yg n):=by
 refine F.by scDirect (fun vs H Q E h=>?_) (fun cdv A outer s H vs Q E hr h=>?_)
 ·obtain⟨p,po,x,dfs,d,rfl,_⟩:=h
  rfl
 obtain⟨p,po,x,dfs,d,rfl,hp,hB,hFd,hdm,q⟩:=h
 have hr1:Room 1 _:=hr.mono (by lia)
 have hrP:Room (1+n) _:=hr.mono (by lia)
 have hrD:Room ((1+n)+1) _:=hr.mono (by lia)
 refine⟨_,
  (zg (sE 3 scDirect.nd (zB zE))
  (zg (zy (yk (zcM hr1) (zu (jA2 zp (jv 2))) (cA GP hrP (jA1 (xT 1))) (by with_unfolding_all rfl))
   (zh (zD (yu uz uI uJ zH (jv 3) (jA1 (zu (jA1 zp)))))) zt)
  (zg (zK PassesOwn.never rfl (zG (cA GD hrD (jA1 (xT 1)))) (gN 4 scDirect.nd)
   (zg (zy (jW.pt (ya (yk yv (xT 4) (zB (jA3 zp zp zp)) (by with_unfolding_all rfl)) (yc (yk yv (jv 2) (xT 4) (by with_unfolding_all rfl)))))
    (zh (zD (yu uz uI uJ zH (jv 3) (jA1 (zu (jA1 zp)))))) zt)
   (zh (zy (jW.pt (ya (tN zA (xT 4) zp) (yc (tN zA (xT 4) (jv 2)))))
    (zh (zD (yu uz uI uJ zH (jv 3) (jA1 (zu (jA1 zp)))))) zt))))
  (zg (zy (yI (cA GB hr (jA2 (jv 0) (xT 1))))
   (zh (zD (yu uz uI uJ zH (jv 3) (jA1 (zu (jA1 zp)))))) zt)
  (zg (zy (yI (cA GA hr (jA2 (xT 1) (jv 2))))
   (zh (zD (yu uz uI uJ zH (jv 3) (jA1 (zu (jA1 zp)))))) zt)
  (zh (zq (jv 3)))))))),?_⟩
 have sl:=zF
 refine cut2 fun r1_ hr1_=>?_
 refine⟨sN0,fun r hr0=>?_⟩
 have s1:=zn (o:=.lst []) hr0
 have F1:Fo (upd H r (.lst [])) r []:=⟨[],upd_same,.nil⟩
 show(tSeq _ _:TS) _ _ (upd H r (.lst []))
 generalize upd H r (.lst [])=H1 at *
 obtain⟨hd1,hd2⟩:=hB.h d hdm
 refine⟨_,rfl,sN2,fun tg htg=>?_⟩
 have s2:=s1.new (o:=.tup [.str "give",.str x]) htg
 have x2:=zn (o:=.tup [.str "give",.str x]) htg
 have htg2:=upd_same (H:=H1) (a:=tg) (o:=.tup [.str "give",.str x])
 generalize upd H1 tg (.tup [.str "give",.str x])=H2 at *
 obtain⟨qn,pb,g1,g2,g3⟩:=hFd.ex
 refine⟨_,rfl,ixT (s2 _ _ g1) aI2 ⟨pb,d.b,rfl,g3.keep (.of s2),hd1,hd2,fun H3 rp ps s3 hrp0 hrp3 hps=>?_⟩⟩
 obtain⟨k,k1,k2,k3⟩:=JT (x:=x) hps
 refine⟨tg,rp,"give",x,k,ps,rfl,rfl,s3 _ _ htg2,hrp3,k2,k1,_,rfl,?_⟩
 rw[k3]
 have s03:=s2.trans s3
 have F3:=F1.same (x2.trans s3)
 have bl:=Bd.all_len d.b
 refine vZ (R:=fun H'=>Same H H'/\Fo H' r (opt (d.b.all.any (isGv x)) "given")) (fun c D fin=>?_) (fun c=>?_) ?_
 ·obtain⟨qs,f1,f2⟩:=F3
  cases f2
  refine⟨_,rfl,.inl ⟨rfl,_,SqL.of f1⟩,sN1,fun tk htk=>⟨r,_,_,rfl,rfl,old htk f1,by show 0 < sizeLine;decide,fin _ ⟨(s03.new htk).put hr0,?_⟩⟩⟩
  rw[c,Yf]
  exact Fo.add (rs:=[]) f1 .nil htk
 ·refine⟨s03,?_⟩
  rw[show d.b.all.any (isGv x)=false by simpa using c,jM]
  exact F3
 rintro H4 ⟨s4,F4⟩
 subst hr1_
 dsimp only
 refine cut1 fun r2_ hr2_=>?_
 have gl:=wv (d.b.all.any (isGv x)) "given"
 unfold yQ at q
 generalize opt (d.b.all.any (isGv x)) "given"=gv at *
 refine⟨_,rfl,ixT (s4 _ _ g1) aI2 ⟨pb,d.b,rfl,g3.keep (.of s4),hd1,hd2,fun H5 rd qs s5 hrd0 hrd5 hqs=>?_⟩⟩
 have F5:=F4.same s5
 have nr:rd≠r:=fun y=>by
  obtain⟨_,e,_⟩:=F4
  rw[y,e]at hrd0
  cases hrd0
 have hl5:∃l,H5 r=some (.lst l):=let ⟨_,e,_⟩:=F5;⟨_,e⟩
 have ql:=All2.len hqs
 have dl:d.b.des.length<=1000000:=by
  have h1:=Zr d.b.all
  unfold Bd.des
  lia
 refine⟨rd,rfl,⟨_,SqL.of hrd5⟩,ym (xs:=qs.map V.ref) (fun i σ H'=>Same H H'/\(∀b u,b≠r->H5 b=some u->H' b=some u)/\Fo H' r (gv++(d.b.des.take i).flatMap (dirD x))/\∃v,σ=[some (.ref p),some (.ref po),some (.str x),some (.ref r),v]) ⟨s4.trans s5,fun b u _ e=>e,by rw[List.take_zero];show Fo H5 r (gv++[]);rw[ux];exact F5,_,rfl⟩ (fun i σ H' _ h=>SqL.of (h.2.1 _ _ nr hrd5)) ?_ ?_⟩
 ·rintro i v σ H6 hv ⟨s6,x6,F6,v',rfl⟩
  rw[ue]at hv
  obtain⟨pd,hpd,rfl⟩:=uh.mp hv
  obtain⟨de,e1,e2⟩:=All2.get hqs hpd
  have hi:=(uc.mp e1).1
  have dln:=vY x (d.b.des.take i)
  rw[uN]at dln
  have et:gv++(d.b.des.take (i+1)).flatMap (dirD x)=(gv++(d.b.des.take i).flatMap (dirD x))++dirD x de:=by rw[uw,e1,Ud,Ur];simp
  rw[et]
  have rl:(gv++(d.b.des.take i).flatMap (dirD x)).length<=2000001:=by rw[uf];lia
  generalize gv++(d.b.des.take i).flatMap (dirD x)=rs at *
  have tnr:∀{b:Addr}{xs:List V},H5 b=some (.tup xs)->H6 b=some (.tup xs):=fun{b xs} e=>x6 _ _ (fun y=>by obtain⟨_,z⟩:=hl5;rw[y,z]at e;cases e) e
  by_cases pln:∃w0 vs,H6 pd=some (.tup (.str w0::vs))/\¬ (w0="make"\/w0="func"\/w0="ask")/\dirD x de=[]
  ·obtain⟨w0,vs,h1,n1,ed⟩:=pln
   rw[ed,ux]
   refine⟨_,rfl,ixT h1 aI0 ⟨sN3,fun lk hlk=>⟨lk,_,rfl,.inl (SqL.of upd_same),rfl,rfl,_,rfl,ite2 (fun c=>absurd ((inV3 _ _ _ _).mp c) n1) (fun _=>?_)⟩⟩⟩
   have y7:=zn (o:=.lst [.str "make",.str "func",.str "ask"]) hlk
   refine⟨_,rfl,ixT (y7 _ _ h1) aI0 ⟨rfl,_,rfl,ite2 (fun c=>absurd (V.str.inj (of_decide_eq_true c)) (fun e=>n1 (.inr (.inr e)))) (fun _=>?_)⟩⟩
   exact⟨s6.trans y7,fun b u n e=>y7 _ _ (x6 b u n e),F6.same y7,_,rfl⟩
  cases e2 with
  |num h1=>exact absurd ⟨_,_,tnr h1,by decide,rfl⟩ pln
  |op h1=>exact absurd ⟨_,_,tnr h1,by decide,rfl⟩ pln
  |@app w0 g xs _ pq hw h1 h2 =>
   have h1:=tnr h1
   have h2:=tnr h2
   by_cases c1:w0="make"\/w0="func"\/w0="ask"
   case neg =>
    refine absurd ⟨_,_,h1,c1,?_⟩ pln
    show opt _ _++opt _ _=[]
    rw[decide_eq_false c1,decide_eq_false (fun e=>c1 (.inr (.inr e)))]
    rfl
   have ed:dirD x (.app w0 g xs)=opt (decide (x∈xs)) "put" ++ opt (decide (w0="ask") && decide (g=x)) "asked":=by
    show opt _ _++opt _ _=_
    rw[decide_eq_true c1,tG]
   rw[ed]
   refine⟨_,rfl,ixT h1 aI0 ⟨sN3,fun lk hlk=>⟨lk,_,rfl,.inl (SqL.of upd_same),rfl,rfl,_,rfl,ite2 (fun _=>?_) (fun c=>absurd ((inV3 _ _ _ _).mpr c1) c)⟩⟩⟩
   have y7:=zn (o:=.lst [.str "make",.str "func",.str "ask"]) hlk
   have F7:=F6.same y7
   have s7:=s6.trans y7
   have h1':=y7 _ _ h1
   have h2':=y7 _ _ h2
   have x7:∀b u,b≠r->H5 b=some u->upd H6 lk (.lst [.str "make",.str "func",.str "ask"]) b=some u:=fun b u n e=>y7 _ _ (x6 b u n e)
   generalize upd H6 lk (.lst [.str "make",.str "func",.str "ask"])=H7 at *
   refine⟨_,rfl,_,rfl,ixT h1' aI2 ⟨pq,_,rfl,.inr (SqT.of h2'),rfl,wM _,_,rfl,?_⟩⟩
   show if inV (V.str x) (xs.map V.str)=true then _ else _
   rw[inVs]
   refine vZ (R:=fun H'=>Same H H'/\(∀b u,b≠r->H7 b=some u->H' b=some u)/\Fo H' r (rs++opt (decide (x∈xs)) "put")) (fun c D fin=>?_) (fun c=>?_) ?_
   ·obtain⟨zs,f1,f2⟩:=F7
    have fl:=All2.len f2
    refine⟨_,rfl,.inl ⟨rfl,_,SqL.of f1⟩,sN1,fun tk htk=>⟨r,_,_,rfl,rfl,old htk f1,by rw[ua];lia,fin _ ⟨(s7.new htk).put hr0,fun b u n e=>?_,?_⟩⟩⟩
    ·rw[zi n,zi (zk e htk)]
     exact e
    ·rw[c,Yf]
     exact Fo.add f1 f2 htk
   ·refine⟨s7,fun b u _ e=>e,?_⟩
    rw[show decide (x∈xs)=false by simpa using c,jM,ux]
    exact F7
   rintro H8 ⟨s8,x8,F8⟩
   have pr:pd≠r:=fun y=>by
    obtain⟨_,e,_⟩:=F7
    rw[y,e]at h1'
    cases h1'
   have h18:=x8 _ _ pr h1'
   have x58:∀b u,b≠r->H5 b=some u->H8 b=some u:=fun b u n e=>x8 b u n (x7 b u n e)
   have ol:=wv (decide (x∈xs)) "put"
   rw[<- Ur]
   have rl8:(rs++opt (decide (x∈xs)) "put").length<=2000002:=by rw[uf];lia
   generalize rs++opt (decide (x∈xs)) "put"=rs8 at *
   refine⟨_,rfl,ixT h18 aI0 ⟨rfl,_,rfl,ite2 (fun c=>?_) (fun c=>?_)⟩⟩
   case refine_2 =>
    refine⟨s8,x58,?_,_,rfl⟩
    rw[show decide (w0="ask")=false from decide_eq_false (fun e=>c (decide_eq_true (by rw[e]))),Uy,jM,ux]
    exact F8
   have ew:w0="ask":=V.str.inj (of_decide_eq_true c)
   rw[decide_eq_true ew,tG]
   refine⟨_,rfl,ixT h18 aI1 ⟨_,rfl,rfl,_,rfl,?_⟩⟩
   have eg:decide (V.str g=V.str x)=decide (g=x):=decide_eq_decide.mpr ⟨V.str.inj,fun e=>by rw[e]⟩
   rw[eg]
   refine vZ (R:=fun H'=>Same H H'/\(∀b u,b≠r->H5 b=some u->H' b=some u)/\Fo H' r (rs8++opt (decide (g=x)) "asked")) (fun c D fin=>?_) (fun c=>?_) ?_
   ·obtain⟨zs,f1,f2⟩:=F8
    have fl:=All2.len f2
    refine⟨_,rfl,.inl ⟨rfl,_,SqL.of f1⟩,sN1,fun tk htk=>⟨r,_,_,rfl,rfl,old htk f1,by rw[ua];lia,fin _ ⟨(s8.new htk).put hr0,fun b u n e=>?_,?_⟩⟩⟩
    ·rw[zi n,zi (zk (x58 _ _ n e) htk)]
     exact x58 _ _ n e
    ·rw[c,Yf]
     exact Fo.add f1 f2 htk
   ·refine⟨s8,x58,?_⟩
    rw[show decide (g=x)=false by simpa using c,jM,ux]
    exact F8
   rintro H9 ⟨s9,x9,F9⟩
   exact⟨s9,x9,F9,_,rfl⟩
 rintro σ H6 ⟨s6,x6,F6,v',rfl⟩
 subst hr2_
 rw[ua,<- ql,uk (ud _)]at F6
 have dln:=vY x d.b.des
 have rl:(gv++d.b.des.flatMap (dirD x)).length<=2000001:=by rw[uf];lia
 generalize gv++d.b.des.flatMap (dirD x)=rs at *
 refine⟨_,rfl,_,rfl,ixT (s6 _ _ g1) aI0 ⟨p,d.z,dfs,rfl,hp.keep (.of s6),hB,fun H7 s7=>⟨_,rfl,?_⟩⟩⟩
 have F7:=F6.same s7
 have s67:=s6.trans s7
 refine vZ (R:=fun H'=>Same H H'/\Fo H' r (rs++opt (byF d.z dfs) "handed")) (fun c D fin=>?_) (fun c=>?_) ?_
 ·obtain⟨zs,f1,f2⟩:=F7
  have fl:=All2.len f2
  refine⟨_,rfl,.inl ⟨rfl,_,SqL.of f1⟩,sN1,fun tk htk=>⟨r,_,_,rfl,rfl,old htk f1,by rw[ua];lia,fin _ ⟨(s67.new htk).put hr0,?_⟩⟩⟩
  rw[c,Yf]
  exact Fo.add f1 f2 htk
 ·refine⟨s67,?_⟩
  rw[show byF d.z dfs=false by simpa using c,jM,ux]
  exact F7
 rintro H8 ⟨s8,F8⟩
 have ol:=wv (byF d.z dfs) "handed"
 have rl8:(rs++opt (byF d.z dfs) "handed").length<=2000002:=by rw[uf];lia
 generalize rs++opt (byF d.z dfs) "handed"=rs8 at *
 refine⟨_,rfl,ixT (s8 _ _ g1) aI2 ⟨_,rfl,pb,d.b,x,rfl,g3.keep (.of s8),hd1,hd2,fun H9 s9=>⟨_,rfl,?_⟩⟩⟩
 have F9:=F8.same s9
 have s89:=s8.trans s9
 refine vZ (R:=fun H'=>Same H H'/\Fo H' r (rs8++opt (d.b.lanew x) "anew")) (fun c D fin=>?_) (fun c=>?_) ?_
 ·obtain⟨zs,f1,f2⟩:=F9
  have fl:=All2.len f2
  refine⟨_,rfl,.inl ⟨rfl,_,SqL.of f1⟩,sN1,fun tk htk=>⟨r,_,_,rfl,rfl,old htk f1,by rw[ua];lia,fin _ ⟨(s89.new htk).put hr0,?_⟩⟩⟩
  rw[c,Yf]
  exact Fo.add f1 f2 htk
 ·refine⟨s89,?_⟩
  rw[show d.b.lanew x=false by simpa using c,jM,ux]
  exact F9
 rintro H10 ⟨s10,F10⟩
 exact⟨_,rfl,q _ r s10 F10⟩
def yT(f x:Str)(xs:List Str)(j:Nat):List (Str×Nat):=if xs[j]?=some x then[(f,j)]else[]
def xj(x:Str):De->List (Str×Nat)
 |.app w f xs=>if w="call"then(uC xs.length).flatMap (yT f x xs)else[]
 |_=>[]
def xH(d:Df)(x:Str):List (Str×Nat):=d.b.des.flatMap (xj x)
def CoAt(H:Hp)(cs:List (Str×Nat))(ps:List Addr):Prop:=All2 (fun(c:Str×Nat) t=>H t=some (.tup [.str "called",.str c.1,.int ((c.2:Nat):Int)])) cs ps
theorem CoAt.keep{H H':Hp}{cs:List (Str×Nat)}{ps:List Addr}(h:CoAt H cs ps)(t:Tups H H'):CoAt H' cs ps:=All2.imp h fun _ _ e=>t _ _ e
def X0(n:Nat):Sp:=fun vs H Q _=>∃(po:Addr)(x:Str)(d:Df),vs=[.ref po,.str x]/\IsF H d po/\d.b.dp<=n/\d.b.sz<=100000/\∀H' r ps,Same H H'->H' r=some (.lst (ps.map V.ref))->CoAt H' (xH d x) ps->Q (.ref r) H'
theorem wO(f x:Str)(xs:List Str):∀n:Nat,((uC n).flatMap (yT f x xs)).length<=n
 |0=>ud _
 |n+1=>by
  rw[UR,Ud,uf]
  have:=wO f x xs n
  have:(yT f x xs n).length<=1:=by unfold yT;split<;>simp
  simp only[Um,List.flatMap_nil,ux]
  lia
theorem scCalls:FnScope ["_law_one","_law_name_here","_law_found","_law_deed_here"] lS24 (zo YQ):=.ok
theorem zaK:(["_law_one","_law_name_here","_law_found","_law_deed_here","_law_j"]:List Str).Nodup:=by decide +kernel
theorem JU{n:Nat}(F:Fun K "_law_calls" "_law_calls" YQ f fd)(GD:Ca P w K mg base CX0 ((1+n)+1) "_law_deeds" ["_law_body_here"] (wu n))(m_range:mg "range"=none)(m_len:mg "len"=none):FnOk P w K mg base CX0 ((1+n)+1+1) f fd lS24 (X0 n):=by
 refine F.by scCalls (fun vs H Q E h=>?_) (fun cdv A outer s H vs Q E hr h=>?_)
 ·obtain⟨po,x,d,rfl,_⟩:=h
  rfl
 obtain⟨po,x,d,rfl,hFd,hd1,hd2,q⟩:=h
 refine⟨_,
  (zg (sE 2 scCalls.nd (zB zE))
  (zg (zK PassesOwn.never rfl (zG (cA GD hr (jA1 (xT 0)))) (gN 3 scCalls.nd)
   (zh (zy (tN zA (xT 3) zp)
    (zh (zD (yu uz PySem.F.slot_list_extend PySem.F.type_list_extend Wh (jv 2) (jA1 (yp ["_law_j"] rfl (zV rfl m_range (jA1 (jL m_len (xT 3)))) (fun _ _ _ _ _=>(gN 4 zaK)) (fun _ _ _ _ _=>(yL (tN zA (xX (z9 K) (zP (z9 K) (jv 3) zj (fun _ _=>rfl)) (jv 4)) (jv 1)))) (fun _ _ _ _ _=>(zu (jA3 zp (zP (z9 K) (jv 3) zj (fun _ _=>rfl)) (jv 4))))))))) zt)))
  (zh (zq (jv 2))))),?_⟩
 have sl:=zF
 refine⟨sN0,fun r hr0=>?_⟩
 have s1:=zn (o:=.lst []) hr0
 have hr1:=upd_same (H:=H) (a:=r) (o:=.lst [])
 show(tSeq _ _:TS) _ _ (upd H r (.lst []))
 generalize upd H r (.lst [])=H1 at *
 obtain⟨qn,pb,g1,g2,g3⟩:=hFd.ex
 refine⟨_,rfl,ixT (s1 _ _ g1) aI2 ⟨pb,d.b,rfl,g3.keep (.of s1),hd1,by lia,fun H2 rd qs s2 hrd0 hrd2 hqs=>?_⟩⟩
 have nr:rd≠r:=(zk hr1 hrd0).symm
 have ql:=All2.len hqs
 have dl:d.b.des.length<=100000:=by
  have h1:=Zr d.b.all
  have h2:=Bd.all_len d.b
  unfold Bd.des
  lia
 refine⟨rd,rfl,⟨_,SqL.of hrd2⟩,ym (xs:=qs.map V.ref) (fun i σ H'=>Same H H'/\(∀b u,b≠r->H2 b=some u->H' b=some u)/\(∃ps:List Addr,H' r=some (.lst (ps.map V.ref))/\CoAt H' ((d.b.des.take i).flatMap (xj x)) ps/\ps.length<=40*i)/\∃v,σ=[some (.ref po),some (.str x),some (.ref r),v]) ⟨s1.trans s2,fun b u _ e=>e,⟨[],s2 _ _ hr1,.nil,ud _⟩,_,rfl⟩ (fun i σ H' _ h=>SqL.of (h.2.1 _ _ nr hrd2)) ?_ ?_⟩
 ·rintro i v σ H3 hv ⟨s3,x3,⟨ps,hr3,hC,hpl⟩,v',rfl⟩
  rw[ue]at hv
  obtain⟨pd,hpd,rfl⟩:=uh.mp hv
  obtain⟨de,e1,e2⟩:=All2.get hqs hpd
  have hi:=(uc.mp e1).1
  have et:(d.b.des.take (i+1)).flatMap (xj x)=(d.b.des.take i).flatMap (xj x)++xj x de:=by rw[uw,e1,Ud];simp
  rw[et]
  have tnr:∀{b:Addr}{xs:List V},H2 b=some (.tup xs)->H3 b=some (.tup xs):=fun{b xs} e=>x3 _ _ (fun y=>by have:=s2 _ _ hr1;rw[y,this]at e;cases e) e
  cases e2 with
  |num h1=>exact⟨_,rfl,ixT (tnr h1) aI0 ⟨rfl,_,rfl,ite2 aB (fun _=>⟨s3,x3,⟨ps,hr3,by rw[show xj x (.num _)=[]from rfl,ux];exact hC,by lia⟩,_,rfl⟩)⟩⟩
  |op h1=>exact⟨_,rfl,ixT (tnr h1) aI0 ⟨rfl,_,rfl,ite2 aB (fun _=>⟨s3,x3,⟨ps,hr3,by rw[show xj x (.op _ _ _)=[]from rfl,ux];exact hC,by lia⟩,_,rfl⟩)⟩⟩
  |@app w0 g xs _ pq hw h1 h2 =>
   have h1:=tnr h1
   have h2:=tnr h2
   refine⟨_,rfl,ixT h1 aI0 ⟨rfl,_,rfl,ite2 (fun c=>?_) (fun c=>?_)⟩⟩
   case refine_2 =>
    refine⟨s3,x3,⟨ps,hr3,?_,by lia⟩,_,rfl⟩
    rw[show xj x (.app w0 g xs)=[]from if_neg (fun e=>c (decide_eq_true (by rw[e]))),ux]
    exact hC
   have ew:w0="call":=V.str.inj (of_decide_eq_true c)
   rw[show xj x (.app w0 g xs)=(uC xs.length).flatMap (yT g x xs)from if_pos ew]
   have x40:=hw.2.2
   refine⟨_,rfl,.inl ⟨rfl,_,SqL.of hr3⟩,_,rfl,ixT h1 aI2 ⟨pq,_,rfl,.inr (SqT.of h2),_,rfl,by lia,by rw[ua];lia,?_⟩⟩
   rw[show(((xs.map V.str).length:Nat):Int).toNat=xs.length by rw[ua];rfl]
   refine yx (n:=xs.length) (fun j τ ys H'=>Same H3 H'/\(∃v,τ=[some (.ref po),some (.str x),some (.ref r),some (.ref pd),v])/\∃zs:List Addr,ys=zs.map V.ref/\CoAt H' ((uC j).flatMap (yT g x xs)) zs) ⟨fun _ _ h=>h,⟨_,rfl⟩,[],rfl,.nil⟩ ?_ ?_
   ·rintro j τ ys H4 hj ⟨s4,⟨v,rfl⟩,zs,rfl,hz⟩
    rw[tT]
    have es:(uC (j+1)).flatMap (yT g x xs)=(uC j).flatMap (yT g x xs)++yT g x xs j:=by rw[UR,Ud];simp
    rw[es]
    have zl:=All2.len hz
    have cl:=wO g x xs j
    obtain⟨y,hy⟩:∃y,xs[j]?=some y:=⟨_,ui hj⟩
    have hat:atI (xs.map V.str) ((j:Nat):Int)=some (.str y):=zN (by rw[ue,hy];rfl)
    refine⟨_,rfl,ixT (s4 _ _ h1) aI2 ⟨_,rfl,pq,_,_,_,rfl,rfl,SqT.of (s4 _ _ h2),hat,_,rfl,rfl,_,rfl,ite2 (fun c=>?_) (fun c=>?_)⟩⟩
    ·have ey:y=x:=V.str.inj (of_decide_eq_true c)
     refine⟨_,rfl,ixT (s4 _ _ h1) aI1 ⟨_,rfl,sN3,fun tk htk=>?_⟩⟩
     refine⟨by rw[ua];lia,s4.new htk,⟨_,rfl⟩,zs++[tk],by simp,?_⟩
     rw[show yT g x xs j=[(g,j)]from if_pos (by rw[hy,ey])]
     exact All2.app (CoAt.keep hz (.of (zn htk _))) (.cons upd_same .nil)
    ·refine⟨s4,⟨_,rfl⟩,zs,rfl,?_⟩
     rw[show yT g x xs j=[]from if_neg (fun e=>c (decide_eq_true (by rw[hy]at e;rw[uO.inj e]))),ux]
     exact hz
   rintro τ ys H4 ⟨s4,-,zs,rfl,hz⟩ l hl
   have zl:=All2.len hz
   have cl:=wO g x xs xs.length
   have s5:=s4.new (o:=.lst (zs.map V.ref)) hl
   have hl5:=upd_same (H:=H4) (a:=l) (o:=.lst (zs.map V.ref))
   have hz5:=CoAt.keep hz (.of (zn (o:=.lst (zs.map V.ref)) hl))
   generalize upd H4 l (.lst (zs.map V.ref))=H5 at *
   have hr5:=s5 _ _ hr3
   refine⟨r,l,_,_,rfl,rfl,hr5,hl5,by rw[ua,ua];lia,?_⟩
   rw[<- ut]
   have tp:Tups H5 (upd H5 r (.lst ((ps++zs).map V.ref))):=fun b ys e=>by rw[zi (fun y=>by rw[y,hr5]at e;cases e)];exact e
   refine⟨(s3.trans s5).put hr0,fun b u n e=>by rw[zi n];exact s5 _ _ (x3 b u n e),⟨ps++zs,upd_same,All2.app ((hC.keep (.of s5)).keep tp) (CoAt.keep hz5 tp),by rw[uf];lia⟩,_,rfl⟩
 rintro σ H3 ⟨s3,x3,⟨ps,hr3,hC,hpl⟩,v',rfl⟩
 rw[ua,<- ql,uk (ud _)]at hC
 exact⟨_,rfl,q _ r ps s3 hr3 hC⟩
end
section
variable{dfs:List Df}{d:Df}{k:Nat}{x:Str}
theorem opt_mem{c:Bool}{s r:Str}:r∈opt c s↔c=true/\r=s:=by cases c<;>simp[opt]
theorem des_mem{b:Bd}{de:De}:de∈b.des↔∃y e,Bd.lt y de e∈b.all:=by
 unfold Bd.des
 rw[Uq]
 constructor
 ·rintro⟨c,h1,h2⟩
  cases c with
  |lt y d' e =>
   have h2:de=d':=uj.mp h2
   subst h2
   exact⟨y,e,h1⟩
  |give x=>cases h2
  |iff x a b=>cases h2
  |case x as=>cases h2
 ·rintro⟨y,e,h⟩
  exact⟨_,h,uj.mpr rfl⟩
theorem call1_mem{f:Str}{xs:List Str}{j:Nat}{c:Str×Nat}:c∈yT f x xs j↔xs[j]?=some x/\c=(f,j):=by
 unfold yT
 by_cases h:xs[j]?=some x
 ·rw[if_pos h,uj];exact⟨fun e=>⟨h,e⟩,fun e=>e.2⟩
 ·rw[if_neg h];exact⟨(fun e=>by cases e),(fun e=>absurd e.1 h)⟩
end
def RkAt(H:Hp)(l:List Rw)(ts:List Addr):Prop:=All2 (fun(c:Rw) t=>H t=some (.tup [.str c.z,.int ((c.k:Nat):Int)])) l ts
theorem RkAt.keep{H H':Hp}{l:List Rw}{ts:List Addr}(h:RkAt H l ts)(t:Tups H H'):RkAt H' l ts:=All2.imp h fun _ _ e=>t _ _ e
def keyI(r:Rw):Str×Int:=(r.z,((r.k:Nat):Int))
theorem Yh{l:List Rw}{z:Str}{k:Nat}:decide ((z,((k:Nat):Int))∈l.map keyI)=decide ((z,k)∈l.map Rw.key):=by
 refine decide_eq_decide.mpr ⟨fun h=>?_,fun h=>?_⟩
 ·obtain⟨r,a,b⟩:=uy.mp h
  refine uy.mpr ⟨r,a,?_⟩
  unfold keyI at b
  unfold Rw.key
  obtain⟨b1,b2⟩:=Prod.mk.inj b
  rw[b1]
  have:r.k=k:=by lia
  rw[this]
 ·obtain⟨r,a,b⟩:=uy.mp h
  refine uy.mpr ⟨r,a,?_⟩
  unfold Rw.key at b
  unfold keyI
  obtain⟨b1,b2⟩:=Prod.mk.inj b
  rw[b1,b2]
theorem jN{cs:List (Str×Nat)}{st:US}(hC:Cin cs st):∀(f a:Nat)(rows:List Rw),(runR st f a rows).length<=rows.length+unk cs rows
 |0,a,rows=>UB _ _
 |f+1,a,rows=>by
  unfold runR
  split
  ·exact UB _ _
  ·rename_i r _
   have h1:=jN hC f (a+1) (vU st rows r)
   have h2:=(xE (cs:=cs) (g:=r.z) (j:=r.k) (l:=st.C r.z r.k) (rows:=rows) (hC r.z r.k)).1
   unfold vU at h1 ⊢
   lia
theorem WM(dfs:List Df):(yj dfs).length<=2*(cand dfs).length:=by
 have h1:=jN (Cin.of dfs) (unk (cand dfs) (ownR (yd dfs) dfs)+(ownR (yd dfs) dfs).length) 0 (ownR (yd dfs) dfs)
 have h2:=wp (yd dfs) dfs
 have h3:=JE (cand dfs) (ownR (yd dfs) dfs)
 unfold yj
 lia
structure PrR(n:Nat)(dfs:List Df):Prop where
 b:PrB dfs
 d:∀d∈dfs,d.b.dp<=n/\d.b.sz<=100000
 n:∀d∈dfs,d.ns.Nodup/\∀x∈d.ns,x∉d.b.binds
def vi(K:ub):Sp:=fun vs H Q _=>∃(st sc:Addr)(y:Str)(B:Nat)(l:List (Str×Int)),vs=[.ref st,.ref sc,.str y]/\Sta K H st B/\B+2 < LIM/\Sc H l sc/\(∃p∈l,p.1≠y)/\∀(H':Hp)(x:Str),Kp st H H'->Sta K H' st (B+2)->x∈l.map (·.1)->Q (.str x) H'
section
variable{P:Program}{w:World}{K:ub}{mg:Str->Option Value}{base:Heap}{f:Addr}{fd:FuncData}
theorem scOther:FnScope ["_law_state","_law_scope","_law_x","_law_some"] lS11 (zo YM):=.ok
theorem vk:(["_law_state","_law_scope","_law_x","_law_some","_law_name_here","_law_sort"]:List Str).Nodup:=by decide +kernel
theorem JV(F:Fun K "_law_other" "_law_other" YM f fd)(GD:Ca P w K mg base CX0 1 "_law_draw" lS2 (yz K))(m_len:mg "len"=none):FnOk P w K mg base CX0 2 f fd lS11 (vi K):=by
 refine F.by scOther (fun vs H Q E h=>?_) (fun cdv A outer s H vs Q E hr h=>?_)
 ·obtain⟨st,sc,y,B,l,rfl,_⟩:=h
  rfl
 obtain⟨st,sc,y,B,l,rfl,S0,hB,hSc,hne,q⟩:=h
 obtain⟨⟨ts,hsc,hT⟩,hn,_⟩:=hSc
 refine⟨_,
  (zg (yq ["_law_name_here","_law_sort"] (i:=3) scOther.nd rfl (Or.inl rfl) rfl (zG (jv 1)) (fun _ _ _ _ _=>(xZ K (n:=2) rfl (zv (gN 4 vk) (zv (gN 5 vk) zM)))) (fun _ _ _ _ _=>(yL (tN ZH (jv 4) (jv 2)))) (fun _ _ _ _ _=>(jv 4)))
  (zg (zy (tN zA (cA GD hr (jA2 (jv 0) zj)) zj)
   (zh (yq ["_law_name_here","_law_sort"] (i:=3) scOther.nd rfl (Or.inl rfl) rfl (zG (jv 1)) (fun _ _ _ _ _=>(xZ K (n:=2) rfl (zv (gN 4 vk) (zv (gN 5 vk) zM)))) (fun _ _ _ _ _=>zT) (fun _ _ _ _ _=>(jv 4)))) zt)
  (zh (zq (xX zI (jv 3) (zx yr (zx yr (jL m_len (jv 3)) zj) (cA GD hr (jA2 (jv 0) (jL m_len (jv 3)))))))))),?_⟩
 have sl:=zF
 have LM:LIM=4611686018427387904:=rfl
 have htl:=hT.len
 have hl0:l≠[]:=fun e=>by obtain⟨p,h,_⟩:=hne;rw[e]at h;cases h
 refine(show ∀(u:TS)(D:Ends),(∀(H':Hp)(p:Addr)(xs:List Str),Kp st H H'->Sta K H' st (B+1)->H' p=some (.lst (xs.map V.str))->xs≠[]->xs.length<=1000->(∀x∈xs,x∈l.map (·.1))->u D [some (.ref st),some (.ref sc),some (.str y),some (.ref p)] H')->(tSeq _ (tSeq _ u):TS) D _ H from ?key) _ _ ?rest
 case key =>
  intro u D tail
  refine⟨_,rfl,_,rfl,⟨_,SqL.of hsc⟩,zY (xs:=ts.map V.ref) (fun j τ ys H'=>H=H'/\(∃u v,τ=[some (.ref st),some (.ref sc),some (.str y),none,u,v])/\ys=((l.take j).filter fun a=>!decide (V.str a.1=V.str y)).map fun a=>V.str a.1) ⟨rfl,⟨none,none,rfl⟩,rfl⟩ (fun j τ ys H' _ h=>by rw[<- h.1];exact SqL.of hsc) ?_ ?_⟩
  ·rintro j v τ ys H3 hv ⟨rfl,⟨u,v',rfl⟩,rfl⟩
   rw[ue]at hv
   obtain⟨tq,htq,rfl⟩:=uh.mp hv
   obtain⟨a,n,e1,e2⟩:=hT.get htq
   have hj:j < l.length:=(uc.mp e1).1
   have tf:=xu (fun a:Str×Int=>!decide (V.str a.1=V.str y)) e1
   refine⟨_,_,rfl,SqT.of e2,rfl,_,_,rfl,_,_,rfl,rfl,_,rfl,_,rfl,rfl,_,rfl,?_⟩
   refine ite2 (fun c=>?_) (fun c=>?_)
   ·refine⟨_,rfl,?_,rfl,⟨_,_,rfl⟩,?_⟩
    ·rw[ua]
     have:=U8 (fun a:Str×Int=>!decide (V.str a.1=V.str y)) (l.take j)
     rw[uN]at this
     lia
    ·rw[tf,if_pos c,ut]
     rfl
   ·refine⟨rfl,⟨_,_,rfl⟩,?_⟩
    rw[tf,if_neg c,ux]
  rintro τ ys H3 ⟨rfl,_,rfl⟩ p1 hp1
  rw[ua,<- htl,uk (ud _)]
  have hfe:l.filter (fun a:Str×Int=>!decide (V.str a.1=V.str y))≠[]:=fun e=>by
   obtain⟨p,h1,h2⟩:=hne
   have:p∈l.filter (fun a:Str×Int=>!decide (V.str a.1=V.str y)):=UW.mpr ⟨h1,by rw[decide_eq_false (fun z=>h2 (V.str.inj z))];rfl⟩
   rw[e]at this
   cases this
  have hfl:(l.filter (fun a:Str×Int=>!decide (V.str a.1=V.str y))).length<=l.length:=U8 ..
  generalize hf:l.filter (fun a:Str×Int=>!decide (V.str a.1=V.str y))=fl at *
  have hfm:∀x∈fl.map (·.1),x∈l.map (·.1):=fun x hx=>by
   obtain⟨a,h1,h2⟩:=uy.mp hx
   rw[<- hf]at h1
   exact uy.mpr ⟨a,(UW.mp h1).1,h2⟩
  have em:(fl.map fun a=>V.str a.1)=(fl.map (·.1)).map V.str:=by rw[tS];rfl
  rw[em]
  have k1:Kp st H (upd H p1 (.lst ((fl.map (·.1)).map V.str))):=Kp.refl.new hp1
  have S1:=S0.new hp1 (.lst ((fl.map (·.1)).map V.str))
  have h1:=upd_same (H:=H) (a:=p1) (o:=.lst ((fl.map (·.1)).map V.str))
  show(tSeq _ _:TS) _ _ (upd H p1 (.lst ((fl.map (·.1)).map V.str)))
  generalize upd H p1 (.lst ((fl.map (·.1)).map V.str))=H4 at *
  refine⟨_,rfl,st,8,B,rfl,S1,by lia,by decide,fun H6 r k6 S6 _ _=>?_⟩
  have k26:=k1.trans k6
  refine⟨rfl,_,rfl,?_⟩
  refine ite2 (fun _=>?_) (fun _=>?_)
  ·obtain⟨hsc2,hT2⟩:H6 sc=some (.lst (ts.map V.ref))/\Tps H6 l ts:=⟨(k26).k _ _ (S0.neR hsc) hsc,hT.keep ((k26).tups S0)⟩
   refine⟨_,rfl,_,rfl,⟨_,SqL.of hsc2⟩,zY (xs:=ts.map V.ref) (fun j τ ys H'=>H6=H'/\(∃u v,τ=[some (.ref st),some (.ref sc),some (.str y),some (.ref p1),u,v])/\ys=(l.take j).map fun a=>V.str a.1) ⟨rfl,⟨none,none,rfl⟩,rfl⟩ (fun j τ ys H' _ h=>by rw[<- h.1];exact SqL.of hsc2) ?_ ?_⟩
   ·rintro j v τ ys H3 hv ⟨rfl,⟨u,v',rfl⟩,rfl⟩
    rw[ue]at hv
    obtain⟨tq,htq,rfl⟩:=uh.mp hv
    obtain⟨a,n,e1,e2⟩:=hT2.get htq
    have hj:j < l.length:=(uc.mp e1).1
    refine⟨_,_,rfl,SqT.of e2,rfl,_,_,rfl,_,_,rfl,rfl,_,rfl,?_,rfl,⟨_,_,rfl⟩,vK (fun a:Str×Int=>V.str a.1) e1⟩
    rw[ua,uN]
    lia
   ·rintro τ ys H3 ⟨rfl,_,rfl⟩ p2 hp2
    rw[ua,<- htl,uk (ud _)]
    have em:(l.map fun a=>V.str a.1)=(l.map (·.1)).map V.str:=by rw[tS];rfl
    rw[em]
    exact tail _ p2 (l.map (·.1)) ((k26).new hp2) (((S6).mono (by lia)).new hp2 _) upd_same (by simpa using hl0) (by rw[ua];exact hn) (fun x hx=>hx)
  ·exact tail _ p1 (fl.map (·.1)) k26 S6 (k6.k _ _ (S1.neS h1) h1) (by simpa using hfe) (by rw[ua];lia) hfm
 case rest =>
  intro H' p xs kp S1 hp hx hxl hm
  have h0:0 < xs.length:=UQ.mpr hx
  refine⟨_,rfl,_,rfl,_,_,rfl,.inl (SqL.of hp),_,_,rfl,rfl,_,rfl,_,rfl,_,_,rfl,.inl (SqL.of hp),st,_,_,rfl,S1,by lia,(by rw[ua];lia),fun H2 r k2 S2 r0 r1=>?_⟩
  rw[ua]at r1
  have hi:xs.length-1-r.toNat < xs.length:=by lia
  have e:atI (xs.map V.str) ((((xs.map V.str).length:Nat):Int)-1-r)=some (.str xs[xs.length-1-r.toNat]):=by
   have g:(xs.map V.str)[xs.length-1-r.toNat]?=some (.str xs[xs.length-1-r.toNat]):=by rw[ue,ui hi];rfl
   have g2:=zN g
   rw[show(((xs.length-1-r.toNat:Nat)):Int)=(((xs.map V.str).length:Nat):Int)-1-r by rw[ua];lia]at g2
   exact g2
  refine⟨_,_,rfl,rfl,p,_,_,_,rfl,rfl,SqL.of (k2.k _ _ (S1.neS hp) hp),e,q _ _ (kp.trans k2) S2 (hm _ (tU hi))⟩
def v0(K:ub):Sp:=fun vs H Q _=>∃(st w sc:Addr)(k:Nat)(y:Str)(size:Int)(B:Nat)(l:List (Str×Int))(o:Wo),vs=[.ref st,.ref w,.ref sc,.int (k:Nat),.str y,.int size]/\Sta K H st B/\B+25 < LIM/\IsW H o w/\Sc H l sc/\(∃p∈l,p.1≠y)/\k < 900/\∀(H':Hp)(p:Addr)(b:Bd),Kp st H H'->Sta K H' st (B+25)->IsB H' b p->b.sz<=2->b.dp<=2->Bnm o k 900 b.binds->Q (.ref p) H'
theorem scLM:FnScope ["_law_state","_law_world_here","_law_scope","_law_k","_law_x","_law_size","_law_want","_law_some","_law_tag","_law_sorts_here","_law_kind","_law_names"] lS3 (zo wH):=.ok
theorem ndLM:(["_law_state","_law_world_here","_law_scope","_law_k","_law_x","_law_size","_law_want","_law_some","_law_tag","_law_sorts_here","_law_kind","_law_names","_law_one"]:List Str).Nodup:=by decide +kernel
theorem Yi(F:Fun K "_law_last_make" "_law_last_make" wH f fd)(GD:Ca P w K mg base CX0 1 "_law_draw" lS2 (yz K))(GN':Ca P w K mg base CX0 1 "_law_name" lS4 spNm)(GO:Ca P w K mg base CX0 2 "_law_other" lS11 (vi K))(m_len:mg "len"=none)(m_tuple:mg "tuple"=none):FnOk P w K mg base CX0 3 f fd lS3 (v0 K):=by
 refine F.by scLM (fun vs H Q E h=>?_) (fun cdv A outer s H vs Q E hr h=>?_)
 ·obtain⟨st,w,sc,k,y,size,B,l,o,rfl,_⟩:=h
  rfl
 obtain⟨st,w0,sc,k,y,size,B,l,o,rfl,S0,hB,hW,hSc,hne,hk,q⟩:=h
 have hr1:Room 1 _:=hr.mono (by decide)
 refine⟨_,
  (zg (sE 6 scLM.nd (zx zU (jv 5) (xX zI (zB (jA5 zj zj zj zj (xK zj))) (cA GD hr1 (jA2 (jv 0) zj)))))
  (zg (yq ["_law_one"] (i:=7) scLM.nd rfl (Or.inl rfl) rfl (zG (xL 1)) (fun _ _ _ _ _=>(gN 12 ndLM)) (fun _ _ _ _ _=>(yL (tN zA (yJ (xr K) rfl m_len PySem.boot_len (jA1 (zP (z9 K) (jv 12) zj (fun _ _=>rfl)))) (jv 6)))) (fun _ _ _ _ _=>(jv 12)))
  (zg (zy (tN (j3 hr1) (jv 7) (zB zE)) (zh (sE 7 scLM.nd (xL 1))) zt)
  (zg (yV (xX zI (jv 7) (cA GD hr1 (jA2 (jv 0) (jL m_len (jv 7))))) (yi rfl (zv (gN 8 scLM.nd) (zv (gN 9 scLM.nd) (zv (gN 10 scLM.nd) zM)))))
  (zg (sE 11 scLM.nd (yy zR rfl m_tuple uY (jA1 (yp ["_law_one"] rfl (zG (jv 9)) (fun _ _ _ _ _=>(gN 12 ndLM)) (fun _ _ _ _ _=>zT) (fun _ _ _ _ _=>(cA GO hr (jA3 (jv 0) (jv 2) (jv 4))))))))
  (zh (zq (zu (jA4 zp (cA GN' hr1 (jA2 (jv 1) (jv 3))) (zu (jA3 zp (jv 8) (jv 11))) (zu (jA2 zp (cA GN' hr1 (jA2 (jv 1) (jv 3)))))))))))))),?_⟩
 have sl:=zF
 have LM:LIM=4611686018427387904:=rfl
 refine(show ∀(u:TS)(D:Ends),(∀(H':Hp)(want:Int)(p:Addr)(fs:List Addr)(fl:TS3),Kp st H H'->Sta K H' st (B+1)->H' p=some (.lst (fs.map V.ref))->Tri H' fl fs->fl≠[]->fl.length<=4->(∀p∈fl,p.2.1.length<=9)->u D [some (.ref st),some (.ref w0),some (.ref sc),some (.int (k:Nat)),some (.str y),some (.int size),some (.int want),some (.ref p),none,none,none,none] H')->(tSeq _ (tSeq _ (tSeq _ u)):TS) D _ H from ?key) _ _ ?rest
 case key =>
  intro u D tail
  refine⟨_,rfl,_,rfl,sN5,fun ll hll=>?_⟩
  have k1:Kp st H (upd H ll (.lst ([0,0,0,1,-1].map V.int))):=Kp.refl.new hll
  have S1:=S0.new hll (.lst ([0,0,0,1,-1].map V.int))
  have hll1:=upd_same (H:=H) (a:=ll) (o:=.lst ([0,0,0,1,-1].map V.int))
  refine⟨_,rfl,st,5,B,rfl,S1,by lia,by decide,fun H2 r k2 S2 r0 r1=>?_⟩
  have hi:r.toNat < ([0,0,0,1,-1]:List Int).length:=by show r.toNat < 5;lia
  have hat:atI (([0,0,0,1,-1]:List Int).map V.int) r=some (.int ([0,0,0,1,-1]:List Int)[r.toNat]):=by
   have g:(([0,0,0,1,-1]:List Int).map V.int)[r.toNat]?=some (.int ([0,0,0,1,-1]:List Int)[r.toNat]):=by rw[ue,ui hi];rfl
   have g2:=zN g
   rw[UZ r0]at g2
   exact g2
  have hll2:=k2.k _ _ (S1.neI hll1) hll1
  refine⟨ll,_,_,_,rfl,rfl,SqL.of hll2,hat,_,_,rfl,rfl,?_⟩
  obtain⟨want,hwant⟩:∃want:Int,size+([0,0,0,1,-1]:List Int)[r.toNat]=want:=⟨_,rfl⟩
  show xl 6 (V.int (size+([0,0,0,1,-1]:List Int)[r.toNat])) _ _ _
  rw[hwant]
  have k02:=k1.trans k2
  clear hll1 hll2 hat hwant hi
  have W2:=hW.kp S0 k02
  have Sc2:=hSc.kp S0 k02
  obtain⟨⟨tl,dl,tt,ds,hw,htl1,hdl,hTt,hTd⟩,wok⟩:=id W2
  have tlen:=wok.tlen
  have htt:=hTt.len
  refine⟨_,rfl,ixL hw aI2 ⟨tl,rfl,⟨_,SqL.of htl1⟩,zY (xs:=tt.map V.ref) (fun j τ ys H'=>H2=H'/\(∃v,τ=[some (.ref st),some (.ref w0),some (.ref sc),some (.int (k:Nat)),some (.str y),some (.int size),some (.int want),none,none,none,none,none,v])/\∃fs:List Addr,ys=fs.map V.ref/\fs.length<=j/\Tri H2 ((o.tags.take j).filter fun p=>decide (V.int ((p.2.1.length:Nat):Int)=V.int want)) fs) ⟨rfl,⟨none,rfl⟩,[],rfl,ud _,.nil⟩ (fun j τ ys H' _ h=>by rw[<- h.1];exact SqL.of htl1) ?_ ?_⟩⟩
  ·rintro j v τ ys H4 hv ⟨rfl,⟨v',rfl⟩,fs,rfl,hj,hf⟩
   rw[ue]at hv
   obtain⟨t,ht,rfl⟩:=uh.mp hv
   obtain⟨z,ss,g,sq,e1,e2,e3⟩:=hTt.get ht
   have hjl:j < o.tags.length:=(uc.mp e1).1
   have tf:=xu (fun p:Str×List Int×Int=>decide (V.int ((p.2.1.length:Nat):Int)=V.int want)) e1
   refine⟨_,rfl,ixT e2 aI1 ⟨sq,_,rfl,.inl (SqL.of e3),_,rfl,rfl,_,rfl,?_⟩⟩
   have tf:(o.tags.take (j+1)).filter (fun p=>decide (V.int ((p.2.1.length:Nat):Int)=V.int want))=(o.tags.take j).filter (fun p=>decide (V.int ((p.2.1.length:Nat):Int)=V.int want))++(if decide (V.int ((ss.length:Nat):Int)=V.int want)=true then[(z,ss,g)]else[]):=tf
   refine ite2 (fun c=>?_) (fun c=>?_)
   ·rw[ua]at c
    refine⟨_,rfl,by rw[ua];lia,rfl,⟨_,rfl⟩,fs++[t],by simp,by simp;lia,?_⟩
    rw[tf,if_pos c]
    exact hf.app (.cons e2 e3 .nil)
   ·rw[ua]at c
    refine⟨rfl,⟨_,rfl⟩,fs,rfl,by lia,?_⟩
    rw[tf,if_neg c,ux]
    exact hf
  rintro τ ys H4 ⟨rfl,_,fs,rfl,_,hf⟩ p7 h7
  rw[ua,<- htt,uk (ud _)]at hf
  have ftl:∀p∈o.tags.filter (fun p=>decide (V.int ((p.2.1.length:Nat):Int)=V.int want)),p.2.1.length<=9:=fun p hp=>(wok.ts p (UW.mp hp).1).1
  have fll:(o.tags.filter (fun p=>decide (V.int ((p.2.1.length:Nat):Int)=V.int want))).length<=4:=by
   have:=U8 (fun p:Str×List Int×Int=>decide (V.int ((p.2.1.length:Nat):Int)=V.int want)) o.tags
   lia
  generalize o.tags.filter (fun p=>decide (V.int ((p.2.1.length:Nat):Int)=V.int want))=fl at *
  have hfl:=hf.len
  have k3:=k02.new (o:=.lst (fs.map V.ref)) h7
  have S3:=S2.new h7 (.lst (fs.map V.ref))
  have s3:=zn (o:=.lst (fs.map V.ref)) h7
  have h73:=upd_same (H:=H2) (a:=p7) (o:=.lst (fs.map V.ref))
  show(tSeq _ _:TS) _ _ (upd H2 p7 (.lst (fs.map V.ref)))
  generalize upd H2 p7 (.lst (fs.map V.ref))=H3 at *
  refine⟨_,rfl,sN0,fun le hle=>?_⟩
  have k4:=k3.new (o:=.lst []) hle
  have S4:=S3.new hle (.lst [])
  have s4:=s3.new (o:=.lst []) hle
  have h74:=old (o:=.lst []) hle h73
  have hle4:=upd_same (H:=H3) (a:=le) (o:=.lst [])
  generalize upd H3 le (.lst [])=H4 at *
  refine⟨p7,le,_,rfl,rfl,SqL.of h74,SqL.of hle4,_,rfl,?_⟩
  show if(fs.map V.ref).isEmpty=true then _ else _
  by_cases he:fs=[]
  ·rw[he]
   refine iteT ?_
   refine⟨_,rfl,ixL (s4 _ _ hw) aI2 ?_⟩
   exact tail _ want tl tt o.tags k4 S4 (s4 _ _ htl1) (hTt.keep (.of s4) fun _ _ e=>s4 _ _ e) (fun e=>by rw[e]at tlen;cases tlen) (by lia) (fun p hp=>(wok.ts p hp).1)
  ·have e0:(fs.map V.ref).isEmpty=false:=by
    cases fs with
    |nil=>exact absurd rfl he
    |cons _ _=>rfl
   rw[e0]
   exact iteF (tail _ want p7 fs fl k4 S4 h74 (hf.keep (.of s4) fun _ _ e=>s4 _ _ e) (fun e=>he (by rw[e]at hfl;exact Ux.mp hfl.symm)) fll ftl)
 case rest =>
  intro H3 want p7 fs fl k3 S3 h7 hf hne' fll ftl
  have hfl:=hf.len
  have h0:0 < fs.length:=by
   rw[<- hfl]
   exact UQ.mpr hne'
  refine⟨_,rfl,_,rfl,_,rfl,p7,_,rfl,.inl (SqL.of h7),st,_,_,rfl,S3,by lia,(by rw[ua];lia),fun H4 r k4 S4 r0 r1=>?_⟩
  rw[ua]at r1
  have hi:r.toNat < fs.length:=by lia
  have hat:atI (fs.map V.ref) r=some (.ref fs[r.toNat]):=by
   have g:(fs.map V.ref)[r.toNat]?=some (.ref fs[r.toNat]):=by rw[ue,ui hi];rfl
   have g2:=zN g
   rw[UZ r0]at g2
   exact g2
  obtain⟨z,ss,g,sq,e1,e2,e3⟩:=(hf.kp S3 k4).get (ui hi)
  have ss9:ss.length<=9:=ftl _ (uq e1)
  refine⟨p7,_,_,_,rfl,rfl,SqL.of (k4.k _ _ (S3.neR h7) h7),hat,_,_,rfl,SqT.of e2,rfl,_,_,rfl,_,_,rfl,_,_,rfl,rfl,?_⟩
  have k04:=k3.trans k4
  refine⟨_,rfl,_,rfl,⟨_,SqL.of e3⟩,zY (xs:=ss.map V.int) (fun i τ ys H'=>Kp st H4 H'/\Sta K H' st (B+2+2*i)/\(∃v,τ=[some (.ref st),some (.ref w0),some (.ref sc),some (.int (k:Nat)),some (.str y),some (.int size),some (.int want),some (.ref p7),some (.str z),some (.ref sq),some (.int g),none,v])/\∃xs:List Str,ys=xs.map V.str/\xs.length=i) ⟨Kp.refl,S4,⟨none,rfl⟩,[],rfl,rfl⟩ (fun i τ ys H' _ h=>SqL.of (h.1.k _ _ (S4.neI e3) e3)) ?_ ?_⟩
  ·rintro i v τ ys H5 hv ⟨k5,S5,⟨v',rfl⟩,xs,rfl,hxl⟩
   rw[ue]at hv
   obtain⟨m,hm,rfl⟩:=uh.mp hv
   have him:=(uc.mp hm).1
   exact⟨_,rfl,_,rfl,_,rfl,st,sc,y,_,l,rfl,S5,by lia,hSc.kp S0 (k04.trans k5),hne,fun H6 x k6 S6 hx=>⟨by rw[ua];lia,k5.trans k6,S6,⟨_,rfl⟩,xs++[x],by simp,by simp[hxl]⟩⟩
  rintro τ ys H5 ⟨k5,S5,-,xs,rfl,hxl⟩ lx hlx
  rw[ua]at S5 hxl
  refine⟨lx,_,rfl,.inl ⟨SqL.of upd_same,fun pu hpu=>?_⟩⟩
  have s7:Same H5 (upd (upd H5 lx (.lst (xs.map V.str))) pu (.tup (xs.map V.str))):=(zn hlx _).new hpu
  have hpu7:=upd_same (H:=upd H5 lx (.lst (xs.map V.str))) (a:=pu) (o:=.tup (xs.map V.str))
  have S7:=S5.same s7
  have k07:=(k04.trans k5).trans (.of s7)
  generalize upd (upd H5 lx (.lst (xs.map V.str))) pu (.tup (xs.map V.str))=H7 at *
  obtain⟨⟨tl,dl,tt,ds,hw,-⟩,wok⟩:=hW.kp S0 k07
  refine⟨_,rfl,_,rfl,w0,o.z,o.b,_,k,rfl,hw,wok.z,_,rfl,_,rfl,sN3,fun tm htm=>?_⟩
  have s8:=zn (o:=.tup [.str "make",.str z,.ref pu]) htm
  have htm8:=upd_same (H:=H7) (a:=tm) (o:=.tup [.str "make",.str z,.ref pu])
  generalize upd H7 tm (.tup [.str "make",.str z,.ref pu])=H8 at *
  refine⟨_,rfl,_,rfl,w0,o.z,o.b,_,k,rfl,s8 _ _ hw,wok.z,sN2,fun tg htg=>⟨sN4,fun tb htb=>?_⟩⟩
  have s10:Same H7 _:=(s8.new (o:=.tup [.str "give",.str (nm o.z o.b k)]) htg).new (o:=.tup [.str "let",.str (nm o.z o.b k),.ref tm,.ref tg]) htb
  have d10:IsDe _ (.app "make" z xs) tm:=.app ⟨by decide,by decide,by lia⟩ (old (o:=.tup [.str "let",.str (nm o.z o.b k),.ref tm,.ref tg]) htb (old (o:=.tup [.str "give",.str (nm o.z o.b k)]) htg htm8)) (s10 _ _ hpu7)
  refine q _ tb (.lt (nm o.z o.b k) (.app "make" z xs) (.give (nm o.z o.b k))) (k07.trans (.of s10)) ((S7.same s10).mono (by lia)) (.lt upd_same d10 (.give (old (o:=.tup [.str "let",.str (nm o.z o.b k),.ref tm,.ref tg]) htb upd_same))) (by rw[Bd.sz,Bd.sz];lia) (by rw[Bd.dp,Bd.dp];lia) (by rw[Bd.binds,Bd.binds];exact fun x hx=>⟨k,ud _,hk,uj.mp hx⟩)
end
end GN
namespace L2
open PySem
theorem JW{K:ub}{a:Addr}{xs:List V}{g:TG}{tb:TS}{D:Ends}{σ:St}{H:Hp}(Pv:Nat->St->Hp->Prop)(h0:Pv 0 σ H)(hl:∀i σ H,i<=xs.length->Pv i σ H->SqL K H a xs)
  (hs:∀i x T σ H,xs[i]?=some x->H T=none->Pv i σ H->g (.ref T) σ (upd H T (.tup [.int (i:Nat),x])) fun σ2 H2=>tb { D with nx:=Pv (i+1),ct:=Pv (i+1),bk:=D.nx } σ2 H2) (hd:∀σ H,Pv xs.length σ H->D.nx σ H) :
  ∃W:Nat->Nat->St->Hp->Prop,(∃m,W 0 m σ H)/\∀i m σ H,W i m σ H ->
   ((Ite K a).stop i H/\D.nx σ H)\/((Ite K a).go i H/\∃N:St->Hp->Prop,(∀σ' H',N σ' H'->∃m',m' < m/\W (i+1) m' σ' H')/\∀x H',(Ite K a).yld i H x H'->g x σ H' fun σ2 H2=>tb { D with nx:=N,ct:=N,bk:=D.nx } σ2 H2):=by
 refine⟨fun i m σ H=>m=xs.length-i/\i<=xs.length/\Pv i σ H,⟨xs.length,by simp,uW _,h0⟩,?_⟩
 rintro i m σ H ⟨rfl,hi,p⟩
 have q:=hl i σ H hi p
 by_cases hlt:i < xs.length
 ·refine .inr ⟨⟨xs,xs[i],q,by simp[hlt]⟩,Pv (i+1),fun σ' H' p'=>⟨xs.length-(i+1),by lia,rfl,hlt,p'⟩,fun x H' y=>?_⟩
  obtain⟨T,v,rfl,hT,rfl,e⟩:=y
  exact hs i v T σ H (e xs q) hT p
 ·have e:i=xs.length:=by lia
  subst e
  exact .inl ⟨⟨xs,q,ud _⟩,hd σ H p⟩
section
variable{X:Cx}
theorem JX{i j:Nat}{x y:Str}{a b:Expr}{ta:TA}{px py pt pos:Pos}{kt k2 pt2}(hc:X.calm=true)(hN:X.N.Nodup)(hi:X.N[i]?=some x)(hj:X.N[j]?=some y)(hij:i≠j)(ha:jA X [a,b] ta)
  (hx:X.env.scope.names.lookup x=some .local:=by rfl) (hy:X.env.scope.names.lookup y=some .local:=by rfl) (hw:swappedStores [.Tuple [.Name x px,.Name y py] kt pt] (.Tuple [a,b] k2 pt2) X.env=pure (some [x,y]):=by rfl)
  (hs:swapsWithSole [.Tuple [.Name x px,.Name y py] kt pt] (.Tuple [a,b] k2 pt2) pos.line X.env=pure false:=by rfl):jS X (.Assign [.Tuple [.Name x px,.Name y py] kt pt] (.Tuple [a,b] k2 pt2) pos) (tPar i j ta):=⟨zbB hc hN hi hj hij hx hy ha.out hw hs⟩
end
end L2
namespace GN
open PySem L2 K11
def rk(steps size:Int):Nat:=steps.toNat+(if size < 0 then 5 else 1)
theorem zcO{a b:Int}:1<=rk a b:=by unfold rk;split<;>lia
def wP(K:ub)(n:Nat):Sp:=fun vs H Q _=>∃(st w sc:Addr)(k:Nat)(steps:Int)(y:Str)(size:Int)(B:Nat)(l:List (Str×Int))(o:Wo),vs=[.ref st,.ref w,.ref sc,.int (k:Nat),.int steps,.str y,.int size]/\Sta K H st B/\B+60*n < LIM/\IsW H o w/\Sc H l sc/\(∃p∈l,p.1≠y)/\0<=steps/\rk steps size<=n/\l.length+10*n<=900/\k+10*n<=900/\∀(H':Hp)(p:Addr)(b:Bd),Kp st H H'->Sta K H' st (B+60*n)->IsB H' b p->b.sz<=45*n->b.dp<=n+2->Bnm o k 900 b.binds->Q (.ref p) H'
def JY(K:ub)(n:Nat):Sp:=fun vs H Q _=>∃(st w sc:Addr)(k:Nat)(steps:Int)(y:Str)(size:Int)(B:Nat)(l:List (Str×Int))(o:Wo),vs=[.ref st,.ref w,.ref sc,.int (k:Nat),.int steps,.str y,.int size]/\Sta K H st B/\B+(60*n+40) < LIM/\IsW H o w/\Sc H l sc/\(∃p∈l,p.1≠y)/\0<=steps/\(steps=0->size < 0)/\rk steps size<=n+1/\l.length+10*(n+1)<=900/\k+10*(n+1)<=900/\∀(H':Hp)(p:Addr)(b:Bd),Kp st H H'->Sta K H' st (B+(60*n+40))->IsB H' b p->b.sz<=45*n+41->b.dp<=n+3->Bnm o k 900 b.binds->Q (.ref p) H'
section
variable{P:Program}{w:World}{K:ub}{mg:Str->Option Value}{base:Heap}{f:Addr}{fd:FuncData}
theorem scLaid:FnScope ["_law_state","_law_world_here","_law_scope","_law_k","_law_steps","_law_x","_law_size","_law_way","_law_name_here","_law_inner","_law_both","_law_at"] lS0 (zo Xz):=.ok
theorem JZ(F:Fun K "_law_laid" "_law_laid" Xz f fd):FnOk P w K mg base CX0 (3+2*0) f fd lS0 (wP K 0):=by
 refine F.by scLaid (fun vs H Q E h=>?_) (fun cdv A outer s H vs Q E hr h=>?_)
 ·obtain⟨st,w,sc,k,steps,y,size,B,l,o,rfl,_⟩:=h
  rfl
 ·obtain⟨st,w,sc,k,steps,y,size,B,l,o,rfl,_,_,_,_,_,_,hme,_⟩:=h
  have:=zcO (a:=steps) (b:=size)
  lia
theorem zaL{n:Nat}(F:Fun K "_law_laid" "_law_laid" Xz f fd)(GD:Ca P w K mg base CX0 1 "_law_draw" lS2 (yz K))(GN':Ca P w K mg base CX0 1 "_law_name" lS4 spNm)(GO:Ca P w K mg base CX0 2 "_law_other" lS11 (vi K))(GM:Ca P w K mg base CX0 3 "_law_last_make" lS3 (v0 K))(GF:Ca P w K mg base CX0 (4+2*n) "_law_fork" lS0 (JY K n))(GL:Ca P w K mg base CX0 (3+2*n) "_law_laid" lS0 (wP K n))(m_len:mg "len"=none):FnOk P w K mg base CX0 (3+2*(n+1)) f fd lS0 (wP K (n+1)):=by
 rw[show 3+2*(n+1)=(4+2*n)+1 by lia]
 refine F.by scLaid (fun vs H Q E h=>?_) (fun cdv A outer s H vs Q E hr h=>?_)
 ·obtain⟨st,w,sc,k,steps,y,size,B,l,o,rfl,_⟩:=h
  rfl
 obtain⟨st,w0,sc,k,steps,y,size,B,l,o,rfl,S0,hB,hW,hSc,hne,hs0,hrk,hln,hkn,q⟩:=h
 have hr1:Room 1 _:=hr.mono (by lia)
 have hr2:Room 2 _:=hr.mono (by lia)
 have hr3:Room 3 _:=hr.mono (by lia)
 have hrL:Room (3+2*n) _:=hr.mono (by lia)
 refine⟨_,
  (zg (sE 7 scLaid.nd (cA GD hr1 (jA2 (jv 0) zj)))
  (zg (zy (jW.pt (ya (tN zA (jv 4) zj) (yc (tN za5 (jv 6) zj))))
   (zh (zq (cA GM hr3 (jA6 (jv 0) (jv 1) (jv 2) (jv 3) (jv 5) (jv 6)))))  zt)
  (zg (zy (jW.pt (xk (tN zA (jv 4) zj) (xb (tN zA (jv 7) zj))))
   (zh (zq (cA GF hr (jA7 (jv 0) (jv 1) (jv 2) (jv 3) (jv 4) (jv 5) (jv 6)))))  zt)
  (zg (sE 8 scLaid.nd (cA GN' hr1 (jA2 (jv 1) (jv 3))))
  (zg (zy (tN zA (jv 7) zj)
   (zg (sE 9 scLaid.nd (cA GL hrL (jA7 (jv 0) (jv 1) (zx yP (jv 2) (zB (jA1 (zu (jA2 (jv 8) zj))))) (zx zU (jv 3) zj) (zx yr (jv 4) zj) (jv 5) (jv 6))))
   (zh (zq (zu (jA4 zp (jv 8) (zu (jA2 zp (cA GD hr1 (jA2 (jv 0) zj)))) (jv 9))))))  zt)
  (zg (sE 9 scLaid.nd (cA GL hrL (jA7 (jv 0) (jv 1) (jv 2) (jv 3) (zx yr (jv 4) zj) (jv 5) (jv 6))))
  (zg (sE 10 scLaid.nd (zB (jA2 (jv 9) (zu (jA2 zp (cA GO hr2 (jA3 (jv 0) (jv 2) (jv 5))))))))
  (zg (sE 11 scLaid.nd (cA GD hr1 (jA2 (jv 0) zj)))
  (zh (zq (zu (jA4 zp (zP zZ (xX zI (jv 2) (cA GD hr1 (jA2 (jv 0) (jL m_len (jv 2))))) zj (fun _ _=>rfl)) (xX zI (jv 10) (jv 11)) (xX zI (jv 10) (zx yr zj (jv 11))))))))))))))),?_⟩
 have sl:=zF
 have LM:LIM=4611686018427387904:=rfl
 have hl0:l≠[]:=fun e=>by obtain⟨p,h,_⟩:=hne;rw[e]at h;cases h
 obtain⟨⟨ts,hsc,hT⟩,scn,scs⟩:=id hSc
 have htl:=hT.len
 have hn0:0 < ts.length:=by rw[<- htl];exact UQ.mpr hl0
 refine(show ∀(uM uF u:TS)(D:Ends),D.rt=Q->(∀(D':Ends)(H1:Hp)(r:Int),D'.rt=Q->Kp st H H1->Sta K H1 st (B+1)->0<=size->uM D' [some (.ref st),some (.ref w0),some (.ref sc),some (.int (k:Nat)),some (.int steps),some (.str y),some (.int size),some (.int r),none,none,none,none] H1)->(∀(D':Ends)(H1:Hp)(r:Int),D'.rt=Q->Kp st H H1->Sta K H1 st (B+1)->(steps=0->size < 0)->uF D' [some (.ref st),some (.ref w0),some (.ref sc),some (.int (k:Nat)),some (.int steps),some (.str y),some (.int size),some (.int r),none,none,none,none] H1)->(∀(H1:Hp)(r:Int),Kp st H H1->Sta K H1 st (B+1)->1<=steps->u D [some (.ref st),some (.ref w0),some (.ref sc),some (.int (k:Nat)),some (.int steps),some (.str y),some (.int size),some (.int r),none,none,none,none] H1)->(tSeq _ (tSeq (tIfS _ uM wQ) (tSeq (tIfS _ uF wQ) u)):TS) D _ H from ?key) _ _ _ _ rfl ?m ?f ?r
 case key =>
  intro uM uF u D hD hM hF hR
  refine⟨_,rfl,st,3,B,rfl,S0,by lia,by decide,fun H1 r k1 S1 r0 r1=>?_⟩
  refine⟨_,rfl,rfl,_,rfl,?_⟩
  refine ite2 (fun c=>?_) (fun c=>?_)
  ·refine⟨_,rfl,_,_,rfl,rfl,_,rfl,?_⟩
   refine ite2 (fun c2=>hM _ _ r hD k1 S1 (by simpa using c2)) (fun c2=>?_)
   have h0:steps=0->size < 0:=fun _=>by
    have:¬ (size ≥ 0):=by simpa using c2
    lia
   refine⟨_,rfl,rfl,_,rfl,?_⟩
   refine ite2 (fun _=>hF _ _ r hD k1 S1 h0) (fun c=>?_)
   have hs:1<=steps:=by
    have:¬ (V.int steps=V.int 0):=of_decide_eq_false (by simpa using c)
    have:steps≠0:=fun e=>this (by rw[e])
    lia
   refine⟨_,rfl,rfl,_,rfl,?_⟩
   exact ite2 (fun _=>hF _ _ r hD k1 S1 h0) (fun _=>hR _ r k1 S1 hs)
  ·have h0:steps=0->size < 0:=fun e=>by
    have:¬ (V.int steps=V.int 0):=of_decide_eq_false (by simpa using c)
    exact absurd (by rw[e]) this
   refine⟨_,rfl,rfl,_,rfl,?_⟩
   refine ite2 (fun _=>hF _ _ r hD k1 S1 h0) (fun c=>?_)
   have hs:1<=steps:=by
    have:¬ (V.int steps=V.int 0):=of_decide_eq_false (by simpa using c)
    have:steps≠0:=fun e=>this (by rw[e])
    lia
   refine⟨_,rfl,rfl,_,rfl,?_⟩
   exact ite2 (fun _=>hF _ _ r hD k1 S1 h0) (fun _=>hR _ r k1 S1 hs)
 case m =>
  intro D' H1 r hD k1 S1 hz
  refine⟨_,rfl,_,rfl,_,rfl,_,rfl,_,rfl,_,rfl,st,w0,sc,k,y,size,_,l,o,rfl,S1,by lia,hW.kp S0 k1,hSc.kp S0 k1,hne,by lia,fun H2 p b k2 S2 hb hz hd hbb=>?_⟩
  rw[hD]
  exact q _ p b (k1.trans k2) (S2.mono (by lia)) hb (by lia) (by lia) hbb
 case f =>
  intro D' H1 r hD k1 S1 hz
  refine⟨_,rfl,_,rfl,_,rfl,_,rfl,_,rfl,_,rfl,_,rfl,st,w0,sc,k,steps,y,size,_,l,o,rfl,S1,by lia,hW.kp S0 k1,hSc.kp S0 k1,hne,hs0,hz,hrk,hln,hkn,fun H2 p b k2 S2 hb hz hd hbb=>?_⟩
  rw[hD]
  exact q _ p b (k1.trans k2) (S2.mono (by lia)) hb (by lia) (by lia) hbb
 case r =>
  intro H1 r k1 S1 hs
  have rk1:rk (steps-1) size<=n:=by
   unfold rk at hrk ⊢
   lia
  obtain⟨⟨tl,dl,tt,ds,hw,htl1,hdl,hTt,hTd⟩,wok⟩:=hW.kp S0 k1
  refine⟨_,rfl,_,rfl,w0,o.z,o.b,_,k,rfl,hw,wok.z,?_⟩
  generalize hy:nm o.z o.b k=x
  refine⟨_,rfl,rfl,_,rfl,?_⟩
  refine ite2 (fun _=>?_) (fun _=>?_)
  ·refine⟨_,rfl,_,rfl,_,rfl,_,rfl,sN2,fun t1 h3=>⟨sN1,fun pl h4=>?_⟩⟩
   have k3:=k1.new (o:=.tup [.str x,.int 0]) h3
   have k4:=k3.new (o:=.lst [.ref t1]) h4
   refine⟨sc,pl,_,_,rfl,rfl,k4.k _ _ (S0.neR hsc) hsc,upd_same,by rw[ua];show _+1<=_;lia,fun pm h5=>?_⟩
   have em:ts.map V.ref++[V.ref t1]=(ts++[t1]).map V.ref:=by rw[ut];rfl
   rw[em]
   have k5:=k4.new (o:=.lst ((ts++[t1]).map V.ref)) h5
   have S5:=((S1.new h3 (.tup [.str x,.int 0])).new h4 (.lst [.ref t1])).new h5 (.lst ((ts++[t1]).map V.ref))
   have ht1:=old (o:=.lst ((ts++[t1]).map V.ref)) h5 (old (o:=.lst [.ref t1]) h4 (upd_same (H:=H1) (a:=t1) (o:=.tup [.str x,.int 0])))
   have hpm:=upd_same (H:=upd (upd H1 t1 (.tup [.str x,.int 0])) pl (.lst [.ref t1])) (a:=pm) (o:=.lst ((ts++[t1]).map V.ref))
   generalize upd (upd (upd H1 t1 (.tup [.str x,.int 0])) pl (.lst [.ref t1])) pm (.lst ((ts++[t1]).map V.ref))=H5 at *
   have sc5:Sc H5 (l++[(x,0)]) pm:=by
    refine⟨⟨ts++[t1],hpm,(hT.keep (k5.tups S0)).app (.cons ht1 .nil)⟩,?_,fun x hx=>?_⟩
    ·rw[uf,uZ]
     lia
    ·rcases uE.mp hx with hx|hx
     ·exact scs x hx
     ·rw[uj.mp hx]
      exact⟨Int.le_refl _,by show(0:Int)<=13;decide⟩
   refine⟨_,rfl,_,_,rfl,rfl,_,rfl,_,_,rfl,rfl,_,rfl,_,rfl,st,w0,pm,k+1,steps-1,y,size,_,l++[(x,0)],o,rfl,S5,by lia,hW.kp S0 k5,sc5,?_,by lia,rk1,?_,by lia,fun H6 pb b k6 S6 hb hbz hbd hbb=>?_⟩
   ·obtain⟨p,a,b⟩:=hne
    exact⟨p,uB _ a,b⟩
   ·rw[uf,uZ]
    lia
   refine⟨_,rfl,_,rfl,st,9,_,rfl,S6,by lia,by decide,fun H7 r7 k7 S7 r70 r71=>⟨sN2,fun t2 h7=>⟨_,rfl,sN4,fun t3 h8=>?_⟩⟩⟩
   exact q _ t3 (.lt x (.num r7) b) (((k5.trans k6).trans k7).new h7 |>.new h8) (((S7.mono (by lia)).new h7 _).new h8 _) (.lt upd_same (.num (old h8 upd_same)) (((hb.keep (k7.tups S6)).keep (.of (zn h7 _))).keep (.of (zn h8 _)))) (by rw[Bd.sz];lia) (by rw[Bd.dp];lia) (by rw[Bd.binds];exact fun z hz=>(um.mp hz).elim (fun e=>⟨k,ud _,by lia,by rw[e,hy]⟩) (hbb.mono (tj _) z))
  ·refine⟨_,rfl,_,rfl,_,rfl,_,rfl,_,rfl,_,_,rfl,rfl,_,rfl,_,rfl,st,w0,sc,k,steps-1,y,size,_,l,o,rfl,S1,by lia,hW.kp S0 k1,hSc.kp S0 k1,hne,by lia,rk1,by lia,by lia,fun H2 pb b k2 S2 hb hbz hbd hbb=>?_⟩
   have k02:=k1.trans k2
   refine⟨_,rfl,_,rfl,_,rfl,_,rfl,st,sc,y,_,l,rfl,S2,by lia,hSc.kp S0 k02,hne,fun H3 z k3 S3 hz=>⟨sN2,fun tg htg=>⟨sN2,fun pl hpl=>?_⟩⟩⟩
   have s4:Same H3 (upd (upd H3 tg (.tup [.str "give",.str z])) pl (.lst [.ref pb,.ref tg])):=(zn htg _).new hpl
   have htg4:=old (o:=.lst [.ref pb,.ref tg]) hpl (upd_same (H:=H3) (a:=tg) (o:=.tup [.str "give",.str z]))
   have hpl4:=upd_same (H:=upd H3 tg (.tup [.str "give",.str z])) (a:=pl) (o:=.lst [.ref pb,.ref tg])
   have S4:=S3.same s4
   have k04:=(k02.trans k3).trans (.of s4)
   have hb4:=(hb.keep (k3.tups S2)).keep (.of s4)
   generalize upd (upd H3 tg (.tup [.str "give",.str z])) pl (.lst [.ref pb,.ref tg])=H4 at *
   refine⟨_,rfl,st,2,_,rfl,S4,by lia,by decide,fun H5 r5 k5 S5 r50 r51=>?_⟩
   have k05:=k04.trans k5
   have hsc5:=k05.k _ _ (S0.neR hsc) hsc
   refine⟨_,rfl,_,rfl,_,rfl,_,_,rfl,.inl (SqL.of hsc5),st,_,_,rfl,S5,by lia,(by rw[ua];lia),fun H6 r6 k6 S6 r60 r61=>?_⟩
   rw[ua]at r61
   have k06:=k05.trans k6
   obtain⟨t,ht⟩:∃t,ts[r6.toNat]?=some t:=⟨_,ui (by lia)⟩
   obtain⟨a,g,e1,e2⟩:=(hT.keep (k06.tups S0)).get ht
   have npl:pl≠st:=S4.neR (ts:=[pb,tg]) hpl4
   have hpl6:=k6.k _ _ npl (k5.k _ _ npl hpl4)
   have htg6:=k6.tups S5 _ _ (k5.tups S4 _ _ htg4)
   have hb6:=(hb4.keep (k5.tups S4)).keep (k6.tups S5)
   refine⟨sc,_,_,_,rfl,rfl,SqL.of (k06.k _ _ (S0.neR hsc) hsc),xw r60 ht,t,_,_,_,rfl,rfl,SqT.of e2,aI0,?_⟩
   have r5c:r5=0\/r5=1:=by lia
   rcases r5c with rfl|rfl
   ·refine⟨_,rfl,_,rfl,pl,_,_,_,rfl,rfl,SqL.of hpl6,aI0,_,rfl,_,rfl,_,_,rfl,rfl,pl,_,_,_,rfl,rfl,SqL.of hpl6,aI1,sN4,fun t3 h8=>?_⟩
    exact q _ t3 (.iff a b (.give z)) (k06.new h8) ((S6.mono (by lia)).new h8 _) (.iff upd_same (hb6.keep (.of (zn h8 _))) (.give (old h8 htg6))) (by rw[Bd.sz,Bd.sz];lia) (by rw[Bd.dp,Bd.dp];lia) (by rw[Bd.binds,Bd.binds,ux];exact hbb)
   ·refine⟨_,rfl,_,rfl,pl,_,_,_,rfl,rfl,SqL.of hpl6,aI1,_,rfl,_,rfl,_,_,rfl,rfl,pl,_,_,_,rfl,rfl,SqL.of hpl6,aI0,sN4,fun t3 h8=>?_⟩
    exact q _ t3 (.iff a (.give z) b) (k06.new h8) ((S6.mono (by lia)).new h8 _) (.iff upd_same (.give (old h8 htg6)) (hb6.keep (.of (zn h8 _)))) (by rw[Bd.sz,Bd.sz];lia) (by rw[Bd.dp,Bd.dp];lia) (by rw[Bd.binds,Bd.binds,List.nil_append];exact hbb)
theorem scFork:FnScope ["_law_state","_law_world_here","_law_scope","_law_k","_law_steps","_law_x","_law_size","_law_name_here","_law_sort","_law_tags","_law_at","_law_arms","_law_j","_law_one","_law_names","_law_inner","_law_left","_law_now"] lS0 (zo VM):=.ok
theorem zcP:(["_law_state","_law_world_here","_law_scope","_law_k","_law_steps","_law_x","_law_size","_law_name_here","_law_sort","_law_tags","_law_at","_law_arms","_law_j","_law_one","_law_names","_law_inner","_law_left","_law_now","_law_i"]:List Str).Nodup:=by decide +kernel
theorem zaM{n:Nat}(F:Fun K "_law_fork" "_law_fork" VM f fd)(GD:Ca P w K mg base CX0 1 "_law_draw" lS2 (yz K))(GN':Ca P w K mg base CX0 1 "_law_name" lS4 spNm)(GO:Ca P w K mg base CX0 2 "_law_other" lS11 (vi K))(GL:Ca P w K mg base CX0 (3+2*n) "_law_laid" lS0 (wP K n))(m_len:mg "len"=none)(m_range:mg "range"=none)(m_zip:mg "zip"=none)(m_list:mg "list"=none)(m_tuple:mg "tuple"=none)(m_enumerate:mg "enumerate"=none):FnOk P w K mg base CX0 (4+2*n) f fd lS0 (JY K n):=by
 rw[show 4+2*n=(3+2*n)+1 by lia]
 refine F.by scFork (fun vs H Q E h=>?_) (fun cdv A outer s H vs Q E hr h=>?_)
 ·obtain⟨st,w,sc,k,steps,y,size,B,l,o,rfl,_⟩:=h
  rfl
 obtain⟨st,w0,sc,k,steps,y,size,B,l,o,rfl,S0,hB,hW,hSc,hne,hs0,hsz,hrk,hln,hkn,q⟩:=h
 have hr1:Room 1 _:=hr.mono (by lia)
 have hr2:Room 2 _:=hr.mono (by lia)
 refine⟨_,
  (zg (sE 7 scFork.nd (jv 5))
  (zg (zy (tN jo (jv 4) zj)
   (zh (sE 7 scFork.nd (zP zZ (xX zI (jv 2) (cA GD hr1 (jA2 (jv 0) (jL m_len (jv 2))))) zj (fun _ _=>rfl))))  zt)
  (zg (sE 8 scFork.nd (zx zU zj (zx xc (cA GD hr1 (jA2 (jv 0) zj)) zj)))
  (zg (ZG [13] [] (i:=9) scFork.nd rfl (Or.inl rfl) rfl (zG (xL 1)) (fun _ _ _ _ _=>(gN 13 scFork.nd)) (fun _ _ _ _ _=>(yL (tN zA (zP (z9 K) (jv 13) zj (fun _ _=>rfl)) (jv 8)))) (fun _ _ _ _ _=>(jv 13)))
  (zg (sE 10 scFork.nd (cA GD hr1 (jA2 (jv 0) (jL m_len (jv 9)))))
  (zg (sE 11 scFork.nd (zB zE))
  (zg (zK PassesOwn.never rfl (QC rfl m_enumerate (jA1 (jv 9))) (yi rfl (zv (gN 12 scFork.nd) (zv (gN 13 scFork.nd) zM)))
   (zg (yq ["_law_i"] (i:=14) scFork.nd rfl (Or.inl rfl) rfl (zV rfl m_range (jA1 (jL m_len (xT 13)))) (fun _ _ _ _ _=>(gN 18 zcP)) (fun _ _ _ _ _=>zT) (fun _ _ _ _ _=>(cA GN' hr1 (jA2 (jv 1) (zx zU (jv 3) (jv 18))))))
   (zg (sE 15 scFork.nd (zu (jA2 zp (cA GO hr2 (jA3 (jv 0) (jv 2) (jv 5))))))
   (zg (zy (tN zA (jv 12) (jv 10))
    (zg (JX (i:=16) (j:=17) rfl scFork.nd rfl rfl (by decide) (jA2 (zx yr (jv 4) zj) (jv 6)))
    (zg (zy (tN zA (jv 4) zj)
     (zh (JX (i:=16) (j:=17) rfl scFork.nd rfl rfl (by decide) (jA2 (cA GD hr1 (jA2 (jv 0) zj)) (jL m_len (jv 14)))))  zt)
    (zh (sE 15 scFork.nd (cA GL hr (jA7 (jv 0) (jv 1) (zx yP (jv 2) (w5 rfl rfl m_list rfl m_zip (jA2 (jv 14) (xT 13)))) (zx zU (jv 3) (jL m_len (jv 14))) (jv 16) (jv 5) (jv 17)))))))  zt)
   (zh (zD (yu uz uI uJ zH (jv 11) (jA1 (zu (jA3 (xT 13) (yy zR rfl m_tuple uY (jA1 (jv 14))) (jv 15)))))))))))
  (zh (zq (zu (jA3 zp (jv 7) (yy zR rfl m_tuple uY (jA1 (jv 11)))))))))))))),?_⟩
 have sl:=zF
 have LM:LIM=4611686018427387904:=rfl
 have hl0:l≠[]:=fun e=>by obtain⟨p,h,_⟩:=hne;rw[e]at h;cases h
 obtain⟨⟨ts,hsc,hTs⟩,scn,scs⟩:=id hSc
 have htl2:=hTs.len
 have hn0:0 < ts.length:=by rw[<- htl2];exact UQ.mpr hl0
 refine(show ∀(u:TS)(D:Ends),(∀(H1:Hp)(x:Str),Kp st H H1->Sta K H1 st (B+1)->u D [some (.ref st),some (.ref w0),some (.ref sc),some (.int (k:Nat)),some (.int steps),some (.str y),some (.int size),some (.str x),none,none,none,none,none,none,none,none,none,none] H1)->(tSeq _ (tSeq _ u):TS) D _ H from ?key) _ _ ?rest
 case key =>
  intro u D tail
  refine⟨_,rfl,?_⟩
  refine⟨_,rfl,_,_,rfl,rfl,_,rfl,?_⟩
  refine ite2 (fun _=>?_) (fun _=>tail _ _ Kp.refl (S0.mono (by lia)))
  refine⟨_,rfl,_,rfl,_,rfl,_,_,rfl,.inl (SqL.of hsc),st,_,_,rfl,S0,by lia,(by rw[ua];lia),fun H6 r6 k6 S6 r60 r61=>?_⟩
  rw[ua]at r61
  obtain⟨t,ht⟩:∃t,ts[r6.toNat]?=some t:=⟨_,ui (by lia)⟩
  obtain⟨a,g,e1,e2⟩:=(hTs.keep (k6.tups S0)).get ht
  exact⟨sc,_,_,_,rfl,rfl,SqL.of (k6.k _ _ (S0.neR hsc) hsc),xw r60 ht,ixT e2 aI0 (tail _ _ k6 S6)⟩
 case rest =>
 intro H0 x k0 SS
 refine cut4 fun r1_ hr1_=>?_
 refine⟨_,rfl,st,3,_,rfl,SS,by lia,by decide,fun H1 r k1 S1 r0 r1=>⟨_,_,rfl,rfl,⟨by decide,by decide⟩,_,_,rfl,rfl,?_⟩⟩
 have hsort:1+r / 2=1\/1+r / 2=2:=by lia
 show(tSeq _ _:TS) _ [some (.ref st),some (.ref w0),some (.ref sc),some (.int (k:Nat)),some (.int steps),some (.str y),some (.int size),some (.str x),some (.int (1+r / 2)),none,none,none,none,none,none,none,none,none] H1
 generalize 1+r / 2=so at *
 replace k1:=k0.trans k1
 obtain⟨⟨tl,dl,tt,ds,hw0,htl0,hdl0,hTt,hTd⟩,wok⟩:=id hW
 have hw:=k1.k _ _ (S0.neW hw0) hw0
 have htl:=k1.k _ _ (S0.neR htl0) htl0
 have tlen:=wok.tlen
 have htt:=hTt.len
 refine⟨_,rfl,ixL hw aI2 ⟨tl,rfl,⟨_,SqL.of htl⟩,zY (xs:=tt.map V.ref) (fun j τ ys H'=>H1=H'/\(∃v,τ=[some (.ref st),some (.ref w0),some (.ref sc),some (.int (k:Nat)),some (.int steps),some (.str y),some (.int size),some (.str x),some (.int so),none,none,none,none,v,none,none,none,none])/\∃fs:List Addr,ys=fs.map V.ref/\fs.length<=j/\Tri H ((o.tags.take j).filter fun p=>decide (V.int p.2.2=V.int so)) fs) ⟨rfl,⟨none,rfl⟩,[],rfl,uW _,.nil⟩ (fun j τ ys H' _ h=>by rw[<- h.1];exact SqL.of htl) ?_ ?_⟩⟩
 ·rintro j v τ ys H4 hv ⟨rfl,⟨v',rfl⟩,fs,rfl,hj,hf⟩
  rw[ue]at hv
  obtain⟨t,ht,rfl⟩:=uh.mp hv
  obtain⟨z,ss,g,sq,e1,e2,e3⟩:=hTt.get ht
  have hjl:j < o.tags.length:=(uc.mp e1).1
  have tf:=xu (fun p:Str×List Int×Int=>decide (V.int p.2.2=V.int so)) e1
  refine⟨_,rfl,ixT (k1.tups S0 _ _ e2) aI2 ⟨_,rfl,rfl,_,rfl,?_⟩⟩
  refine ite2 (fun c=>?_) (fun c=>?_)
  ·refine⟨_,rfl,by rw[ua];lia,rfl,⟨_,rfl⟩,fs++[t],by simp,by simp;lia,?_⟩
   rw[tf,if_pos c]
   exact hf.app (.cons e2 e3 .nil)
  ·refine⟨rfl,⟨_,rfl⟩,fs,rfl,by lia,?_⟩
   rw[tf,if_neg c,ux]
   exact hf
 rintro τ ys H4 ⟨rfl,_,fs,rfl,_,hf⟩ pt h4
 rw[ua,<- htt,uk (ud _)]at hf
 obtain⟨fl1,fl2⟩:=jt wok hsort
 have ftl:∀p∈o.tags.filter (fun p=>decide (V.int p.2.2=V.int so)),p.2.1.length<=9/\So p.2.1:=fun p hp=>wok.ts p (UW.mp hp).1
 generalize o.tags.filter (fun p=>decide (V.int p.2.2=V.int so))=fl at *
 have hfl:=hf.len
 have S4:=S1.new h4 (.lst (fs.map V.ref))
 have k4:=k1.new (o:=.lst (fs.map V.ref)) h4
 have hpt:=upd_same (H:=H1) (a:=pt) (o:=.lst (fs.map V.ref))
 generalize upd H1 pt (.lst (fs.map V.ref))=H4 at *
 refine⟨_,rfl,_,rfl,_,_,rfl,.inl (SqL.of hpt),st,_,_,rfl,S4,by lia,(by rw[ua];lia),fun H5 at' k5 S5 at0 at1=>?_⟩
 refine⟨sN0,fun pa h3=>?_⟩
 have npt':=S4.neR hpt
 replace hpt:=k5.k _ _ npt' hpt
 replace k5:=k4.trans k5
 have k3:=k5.new (o:=.lst []) h3
 have S3:=S5.new h3 (.lst [])
 have npa:=S5.ne h3
 have fpa:H pa=none:=k5.free npa h3
 have hpa:=upd_same (H:=H5) (a:=pa) (o:=.lst [])
 have npt:pt≠pa:=zk hpt h3
 replace hpt:=old (o:=.lst []) h3 hpt
 generalize upd H5 pa (.lst [])=H6 at *
 clear hw htl k4 S4 S5 k5
 let Fx:Hp->Prop:=fun H'=>(∀b u,b≠st->b≠pa->H6 b=some u->H' b=some u)
 have Fx.kp:∀{H1 H2:Hp},Fx H1->Kp st H1 H2->Fx H2:=fun f k b u n1 n2 h=>k.k _ _ n1 (f b u n1 n2 h)
 have Fx.pa:∀{H1:Hp}{o:HO},Fx H1->Fx (upd H1 pa o):=fun f b u n1 n2 h=>by rw[zi n2];exact f b u n1 n2 h
 subst hr1_
 refine⟨_,rfl,_,rfl,⟨_,SqL.of hpt⟩,JW (xs:=fs.map V.ref) (fun i σ H'=>Fx H'/\Kp st H H'/\Sta K H' st (B+3+i*2+(if at' < i then 60*n+1 else 0))/\(∃(as:List Addr)(ar:Arms),H' pa=some (.lst (as.map V.ref))/\as.length=i/\IsA H' ar as/\ar.sz<=i*11+(if at' < i then 45*n else 0)/\ar.dp<=n+2/\Bnm o k 900 ar.binds)/\∃v1 v2 v3 v4 v5 v6,σ=[some (.ref st),some (.ref w0),some (.ref sc),some (.int (k:Nat)),some (.int steps),some (.str y),some (.int size),some (.str x),some (.int so),some (.ref pt),some (.int at'),some (.ref pa),v1,v2,v3,v4,v5,v6])
  ⟨fun b u _ _ h=>h,k3,(S3.mono (by lia)),⟨[],.nil,hpa,rfl,.nil,by rw[Arms.sz];lia,by rw[Arms.dp];lia,by rw[Arms.binds];exact Bnm.nil⟩,none,none,none,none,none,none,rfl⟩ (fun i σ H' _ h=>SqL.of (h.1 _ _ npt' npt hpt)) ?_ ?_⟩
 ·rintro i v T σ H1 hv hT ⟨fx,kp,S1,⟨as,ar,hpa1,hal,hA,hz,hdp,hbn⟩,v1,v2,v3,v4,v5,v6,rfl⟩
  rw[ue]at hv
  obtain⟨t,ht,rfl⟩:=uh.mp hv
  have hi:i < fs.length:=(uc.mp ht).1
  refine⟨_,_,rfl,SqT.of upd_same,rfl,_,_,rfl,_,_,rfl,rfl,?_⟩
  refine cutD (fun D' fin=>?_) (fun _ _ h=>h)
  refine cut2 fun rest hrest=>?_
  replace fx:=Fx.kp fx (Kp.refl.new (o:=.tup [.int (i:Nat),.ref t]) hT)
  replace kp:=kp.new (o:=.tup [.int (i:Nat),.ref t]) hT
  replace S1:=S1.new hT (.tup [.int (i:Nat),.ref t])
  replace hpa1:=old (o:=.tup [.int (i:Nat),.ref t]) hT hpa1
  replace hA:=hA.keep (.of (zn hT (.tup [.int (i:Nat),.ref t])))
  generalize upd H1 T (.tup [.int (i:Nat),.ref t])=H6 at *
  obtain⟨z,ss,g,sq,e1,e2,e3⟩:=(hf.kp S0 kp).get ht
  have hss:ss.length<=9/\So ss:=ftl _ (uq e1)
  have hw6:=kp.k _ _ (S0.neW hw0) hw0
  refine⟨_,rfl,ixT e2 aI1 ⟨_,_,rfl,.inl (SqL.of e3),_,rfl,by rw[ua];lia,by rw[ua];lia,yx (n:=(ss.map V.int).length) (fun j τ ys H'=>H6=H'/\(∃v,τ=[some (.ref st),some (.ref w0),some (.ref sc),some (.int (k:Nat)),some (.int steps),some (.str y),some (.int size),some (.str x),some (.int so),some (.ref pt),some (.int at'),some (.ref pa),some (.int (i:Nat)),some (.ref t),v3,v4,v5,v6,v])/\ys=((uC j).map fun i=>nm o.z o.b (k+i)).map V.str) ⟨rfl,⟨none,rfl⟩,rfl⟩ ?_ ?_⟩⟩
  ·rintro j τ ys H7 hj ⟨rfl,⟨v,rfl⟩,rfl⟩
   rw[ua]at hj
   have ek:((k:Nat):Int)+(0+(j:Nat))=((k+j:Nat):Int):=by lia
   refine⟨_,rfl,_,rfl,_,rfl,_,_,rfl,rfl,w0,o.z,o.b,_,k+j,(by show[V.ref w0,V.int (((k:Nat):Int)+(0+(j:Nat)))]=_;rw[ek]),hw6,wok.z,by rw[ua,ua,Uw];lia,rfl,⟨_,rfl⟩,?_⟩
   rw[UR,ut,ut]
   rfl
  rintro τ ys H7 ⟨rfl,_,rfl⟩ pn hpn
  rw[ua]
  have nl:((uC ss.length).map fun i=>nm o.z o.b (k+i)).length=ss.length:=by rw[ua,Uw]
  have nb:Bnm o k 900 ((uC ss.length).map fun i=>nm o.z o.b (k+i)):=fun x hx=>by
   obtain⟨j,hj,rfl⟩:=uy.mp hx
   have:=Us.mp hj
   exact⟨k+j,UB _ _,by lia,rfl⟩
  generalize (uC ss.length).map (fun i=>nm o.z o.b (k+i))=NS at *
  replace fx:=Fx.kp fx (Kp.refl.new (o:=.lst (NS.map V.str)) hpn)
  have kp7:=kp.new (o:=.lst (NS.map V.str)) hpn
  replace S1:=S1.new hpn (.lst (NS.map V.str))
  replace hpa1:=old (o:=.lst (NS.map V.str)) hpn hpa1
  replace hA:=hA.keep (.of (zn hpn (.lst (NS.map V.str))))
  replace e2:=old (o:=.lst (NS.map V.str)) hpn e2
  replace e3:=old (o:=.lst (NS.map V.str)) hpn e3
  have hpn7:=upd_same (H:=H6) (a:=pn) (o:=.lst (NS.map V.str))
  generalize upd H6 pn (.lst (NS.map V.str))=H7 at *
  have npn:=S1.neS hpn7
  dsimp only[List.set,L2.start]
  have hB1:B+3+i*2+(if at' < (i:Int)then 60*n+1 else 0)+2<=B+3+3*2+(60*n+1):=by split<;>lia
  refine⟨_,rfl,_,rfl,_,rfl,st,sc,y,_,l,rfl,S1,by lia,hSc.kp S0 kp7,hne,fun H8 xo k8 S8 hxo=>⟨sN2,fun tg htg=>?_⟩⟩
  have k9:=k8.new (o:=.tup [.str "give",.str xo]) htg
  have S9:=S8.new htg (.tup [.str "give",.str xo])
  have htg9:=upd_same (H:=H8) (a:=tg) (o:=.tup [.str "give",.str xo])
  generalize upd H8 tg (.tup [.str "give",.str xo])=H9 at *
  replace fx:=Fx.kp fx k9
  have kp9:=kp7.trans k9
  replace hpa1:=k9.k _ _ npa hpa1
  replace hA:=hA.keep (k9.tups S1)
  replace e2:=k9.tups S1 _ _ e2
  replace e3:=k9.k _ _ (S1.neI e3) e3
  replace hpn7:=k9.k _ _ npn hpn7
  clear S1 S8 k8 k9
  unfold xl
  dsimp only[List.set]
  subst hrest
  refine(show ∀(u:TS)(D:Ends),(∀(H':Hp)(pb:Addr)(b:Bd)(va vb:Option V),Kp st H9 H'->Sta K H' st (B+3+(i+1)*2+(if at' < ((i+1:Nat):Int)then 60*n+1 else 0))->IsB H' b pb->b.sz<=1+(if(i:Int)=at' then 45*n else 0)->b.dp<=n+2->Bnm o k 900 b.binds->u D [some (.ref st),some (.ref w0),some (.ref sc),some (.int (k:Nat)),some (.int steps),some (.str y),some (.int size),some (.str x),some (.int so),some (.ref pt),some (.int at'),some (.ref pa),some (.int (i:Nat)),some (.ref t),some (.ref pn),some (.ref pb),va,vb] H')->(tSeq _ u:TS) D [some (.ref st),some (.ref w0),some (.ref sc),some (.int (k:Nat)),some (.int steps),some (.str y),some (.int size),some (.str x),some (.int so),some (.ref pt),some (.int at'),some (.ref pa),some (.int (i:Nat)),some (.ref t),some (.ref pn),some (.ref tg),v5,v6] H9 from ?key2) _ _ ?rest2
  case key2 =>
   intro u D tail
   refine⟨_,rfl,_,rfl,rfl,_,rfl,?_⟩
   refine ite2 (fun c=>?_) (fun c=>?_)
   ·have hia:(i:Int)=at':=by
     have:=of_decide_eq_true c
     exact V.int.inj this
    have eb:B+3+(i+1)*2+(if at' < ((i+1:Nat):Int)then 60*n+1 else 0)=B+3+i*2+2+60*n+1:=by
     rw[if_pos (by lia)]
     lia
    have eb0:B+3+i*2+(if at' < (i:Int)then 60*n+1 else 0)+2=B+3+i*2+2:=by rw[if_neg (by lia)]
    rw[eb0]at S9
    rw[eb]at tail
    rw[if_pos hia]at tail
    refine⟨_,rfl,_,_,rfl,rfl,_,rfl,_,_,rfl,?_⟩
    dsimp only[List.set]
    refine(show ∀(u:TS)(D:Ends),(∀(H':Hp)(left now:Int),Kp st H9 H'->Sta K H' st (B+3+i*2+2+1)->0<=left->rk left now<=n->u D [some (.ref st),some (.ref w0),some (.ref sc),some (.int (k:Nat)),some (.int steps),some (.str y),some (.int size),some (.str x),some (.int so),some (.ref pt),some (.int at'),some (.ref pa),some (.int (i:Nat)),some (.ref t),some (.ref pn),some (.ref tg),some (.int left),some (.int now)] H')->(tSeq _ u:TS) D [some (.ref st),some (.ref w0),some (.ref sc),some (.int (k:Nat)),some (.int steps),some (.str y),some (.int size),some (.str x),some (.int so),some (.ref pt),some (.int at'),some (.ref pa),some (.int (i:Nat)),some (.ref t),some (.ref pn),some (.ref tg),some (.int (steps-1)),some (.int size)] H9 from ?key3) _ _ ?rest3
    case key3 =>
     intro u D tail
     refine⟨_,rfl,rfl,_,rfl,?_⟩
     refine ite2 (fun c=>?_) (fun c=>?_)
     ·have hs:steps=0:=V.int.inj (of_decide_eq_true c)
      refine⟨_,rfl,st,4,_,rfl,S9,by lia,by decide,fun H10 r k10 S10 r0 r1=>⟨_,rfl,_,_,rfl,.inl (SqL.of (k10.k _ _ (S9.neS hpn7) hpn7)),_,_,rfl,tail _ _ _ k10 S10 r0 ?_⟩⟩
      have h5:=hsz hs
      unfold rk at hrk ⊢
      rw[if_pos h5]at hrk
      rw[if_neg (by lia)]
      lia
     ·have hs:steps≠0:=fun e=>c (decide_eq_true (by rw[e]))
      refine tail _ _ _ Kp.refl (S9.mono (by lia)) (by lia) ?_
      unfold rk at hrk ⊢
      lia
    case rest3 =>
     intro H10 left now k10 S10 hl1 hrk1
     have kp10:=kp9.trans k10
     have e210:=k10.tups S9 _ _ e2
     have e310:=k10.k _ _ (S9.neI e3) e3
     have hpn10:=k10.k _ _ (S9.neS hpn7) hpn7
     refine⟨_,rfl,_,rfl,_,rfl,_,rfl,_,rfl,ixT e210 aI1 ⟨pn,sq,_,_,rfl,.inl (SqL.of hpn10),.inl (SqL.of e310),fun H11 pz zs s8 f8 hpz hzl _ _ hpair=>?_⟩⟩
     have tz:=wb hzl hpair
     have hzl2:zs.length=ss.length:=by rw[hzl,ua,ua];lia
     have kp11:=kp10.trans (.of s8)
     refine⟨sc,pz,_,_,rfl,rfl,kp11.k _ _ (S0.neR hsc) hsc,hpz,by rw[ua,ua];lia,fun pm h12=>?_⟩
     rw[<- ut]
     have kp12:=kp11.new (o:=.lst ((ts++zs).map V.ref)) h12
     have s12:Same H10 (upd H11 pm (.lst ((ts++zs).map V.ref))):=s8.new h12
     have hpm:=upd_same (H:=H11) (a:=pm) (o:=.lst ((ts++zs).map V.ref))
     have tz9:=tz.keep (.of (zn h12 (.lst ((ts++zs).map V.ref))))
     have sc9:Sc (upd H11 pm (.lst ((ts++zs).map V.ref))) (l++NS.zip ss) pm:=by
      refine⟨⟨ts++zs,hpm,(hTs.keep (kp12.tups S0)).app tz9⟩,?_,fun p hp=>?_⟩
      ·rw[uf,UY]
       lia
      ·rcases uE.mp hp with hp|hp
       ·exact scs p hp
       ·have:=hss.2 p.2 (UI hp).2
        lia
     have S12:=S10.same s12
     have hpn12:=s12 _ _ hpn10
     generalize upd H11 pm (.lst ((ts++zs).map V.ref))=H12 at *
     refine⟨_,rfl,_,rfl,_,_,rfl,.inl (SqL.of hpn12),_,_,rfl,rfl,_,rfl,_,rfl,_,rfl,st,w0,pm,k+(NS.map V.str).length,left,y,now,_,l++NS.zip ss,o,rfl,S12,by lia,hW.kp S0 kp12,sc9,?_,hl1,hrk1,?_,by rw[ua];lia,fun H13 pb b k13 S13 hb hbz hbd hbb=>?_⟩
     ·obtain⟨p,a,b⟩:=hne
      exact⟨p,uB _ a,b⟩
     ·rw[uf,UY]
      lia
     exact tail _ pb b _ _ ((k10.trans (.of s12)).trans k13) (S13.mono (by lia)) hb (by lia) hbd (hbb.mono (UB _ _))
   ·have hia:¬ (i:Int)=at':=fun e=>c (decide_eq_true (by rw[e]))
    refine tail _ tg (.give xo) _ _ Kp.refl (S9.mono ?_) (.give htg9) (by rw[Bd.sz];lia) (by rw[Bd.dp];lia) (by rw[Bd.binds];exact Bnm.nil)
    by_cases h:at' < (i:Int)
    ·rw[if_pos h,if_pos (by lia)]
     lia
    ·rw[if_neg h,if_neg (by lia)]
     lia
  case rest2 =>
   intro H10 pb b va vb k10 S10 hb hbz hbd hbb
   have fx10:=Fx.kp fx k10
   have kp10:=kp9.trans k10
   have hpa10:=k10.k _ _ npa hpa1
   have hA10:=hA.keep (k10.tups S9)
   have e210:=k10.tups S9 _ _ e2
   have hpn10:=k10.k _ _ (S9.neS hpn7) hpn7
   refine⟨_,rfl,.inl ⟨rfl,_,SqL.of hpa10⟩,_,rfl,ixT e210 aI0 ⟨_,rfl,pn,_,rfl,.inl ⟨SqL.of hpn10,fun pu h11=>⟨_,rfl,sN3,fun tt h12=>?_⟩⟩⟩⟩
   have hpu:=upd_same (H:=H10) (a:=pu) (o:=.tup (NS.map V.str))
   have hpa11:=old (o:=.tup (NS.map V.str)) h11 hpa10
   have k11:=kp10.new (o:=.tup (NS.map V.str)) h11
   have S11:=S10.new h11 (.tup (NS.map V.str))
   have tu11:Tups H10 (upd H10 pu (.tup (NS.map V.str))):=.of (zn h11 _)
   replace fx10:=Fx.kp fx10 (Kp.refl.new (o:=.tup (NS.map V.str)) h11)
   generalize upd H10 pu (.tup (NS.map V.str))=H11 at *
   have tp:Tups H11 (upd (upd H11 tt (.tup [.str z,.ref pu,.ref pb])) pa (.lst (as.map V.ref++[.ref tt]))):=fun p xs g=>by
    rw[zi (yN g hpa11 (by intro e;cases e))]
    exact old h12 g
   have kp12:=k11.new (o:=.tup [.str z,.ref pu,.ref pb]) h12
   refine⟨pa,_,_,rfl,rfl,old h12 hpa11,by rw[ua];lia,fin _ _ ⟨Fx.pa (Fx.kp fx10 (Kp.refl.new h12)),kp12.put fpa,Sta.put S0 fpa kp12 (S11.new h12 _),⟨as++[tt],Arms.app ar (.cons z NS b .nil),by rw[upd_same];simp,by simp[hal],?_,?_,by rw[Arms.dp_app,Arms.dp,Arms.dp];lia,by rw[Arms.binds_app,Arms.binds,Arms.binds,ux];exact hbn.app (nb.app hbb)⟩,_,_,_,_,_,_,rfl⟩⟩
   ·refine IsA.app (.cons ?_ (tp _ _ hpu) ((hb.keep tu11).keep tp) .nil) ((hA10.keep tu11).keep tp)
    rw[zi (zk hpa11 h12).symm]
    exact upd_same
   ·rw[Arms.sz_app,Arms.sz,Arms.sz]
    by_cases h:at' < (i:Int)
    ·rw[if_pos h]at hz
     rw[if_neg (by lia)]at hbz
     rw[if_pos (by lia)]
     lia
    ·rw[if_neg h]at hz
     by_cases h2:(i:Int)=at'
     ·rw[if_pos h2]at hbz
      rw[if_pos (by lia)]
      lia
     ·rw[if_neg h2]at hbz
      rw[if_neg (by lia)]
      lia
 rintro σ H7 ⟨fx,kp,S7,⟨as,ar,hpa7,hal,hA,hz,hdp,hbn⟩,v1,v2,v3,v4,v5,v6,rfl⟩
 rw[ua]at hal S7 hz
 refine⟨_,rfl,_,rfl,pa,_,rfl,.inl ⟨SqL.of hpa7,fun p9 h9=>⟨sN3,fun t h10=>?_⟩⟩⟩
 refine q _ t (.case x ar) ((kp.new h9).new h10) (((S7.mono ?_).new h9 _).new h10 _) (.case upd_same (old h10 upd_same) (by lia) ((hA.keep (.of (zn h9 _))).keep (.of (zn h10 _)))) ?_ ?_ (by rw[Bd.binds];exact hbn)
 ·split<;>lia
 ·rw[Bd.sz]
  split at hz<;>lia
 ·rw[Bd.dp]
  lia
structure PrN(o:Wo)(z n:Nat)(dfs:List Df):Prop where
 len:dfs.length=3
 nms:dfs.map (·.z)=(uC 3).map (fun k=>nm o.z o.b (2-k))
 dd:∀d∈dfs,d.ns.length<=3/\d.b.sz<=z/\d.b.dp<=n/\FNm o d
theorem nms3(z:Str)(b:Bool):((uC 3).map fun k=>nm z b (2-k)).Nodup:=by
 unfold List.Nodup
 rw[List.pairwise_map]
 refine List.Pairwise.imp_of_mem (fun{a c} ha hc h e=>h ?_) (List.nodup_range (n:=3))
 have h1:=Us.mp ha
 have h2:=Us.mp hc
 have:=wc (by lia) (by lia) e
 lia
theorem Y7{α:Type}(f:α->Nat)(c:Nat):∀l:List α,(∀x∈l,f x<=c)->(l.map f).sum<=l.length*c
 |[],_=>uW _
 |x::l,h=>by
  have a:=h x uK
  have b:=Y7 f c l fun y hy=>h y (uD _ hy)
  rw[uH,Uu,ul,Nat.succ_mul]
  lia
theorem J0(dfs:List Df)(c:Nat)(h:∀d∈dfs,d.ns.length<=c):(cand dfs).length<=dfs.length*c:=by
 unfold cand
 rw[List.length_flatMap]
 refine Y7 _ c dfs fun d hd=>?_
 rw[ua,Uw]
 exact h d hd
theorem PrN.prb{o:Wo}{z n:Nat}{dfs:List Df}(h:PrN o z n dfs)(hz:z<=20000):PrB dfs:=by
 have l:=h.len
 refine⟨fun d hd=>?_,?_,?_,by lia⟩
 ·obtain⟨a,b,c,_⟩:=h.dd d hd
  exact⟨by lia,by lia⟩
 ·have:=Y7 (fun d:Df=>d.b.all.length) 20000 dfs fun d hd=>by
   obtain⟨a,b,c,_⟩:=h.dd d hd
   have:=Bd.all_len d.b
   lia
  unfold cntB
  rw[l]at this
  lia
 ·have:=J0 dfs 3 fun d hd=>(h.dd d hd).1
  rw[l]at this
  lia
theorem FNm.nd{o:Wo}{d:Df}(h:FNm o d)(l:d.ns.length<=3):d.ns.Nodup/\∀x∈d.ns,x∉d.b.binds:=by
 refine⟨?_,fun x hx hb=>?_⟩
 ·rw[h.n]
  unfold List.Nodup
  rw[List.pairwise_map]
  refine List.Pairwise.imp_of_mem (fun{a c} ha hc h' e=>h' ?_) (List.nodup_range (n:=d.ns.length))
  have h1:=Us.mp ha
  have h2:=Us.mp hc
  exact wc (by lia) (by lia) e
 ·rw[h.n]at hx
  obtain⟨i,hi,rfl⟩:=uy.mp hx
  have:=Us.mp hi
  obtain⟨j,a,b,c⟩:=h.b _ hb
  have:=wc (by lia) (by lia) c
  lia
theorem PrN.prr{o:Wo}{z n:Nat}{dfs:List Df}(h:PrN o z n dfs)(hz:z<=20000):PrR n dfs :=
 ⟨h.prb hz,fun d hd=>by obtain⟨a,b,c,_⟩:=h.dd d hd;exact⟨c,by lia⟩,fun d hd=>by obtain⟨a,b,c,e⟩:=h.dd d hd;exact e.nd a⟩
theorem PrN.nd{o:Wo}{z n:Nat}{dfs:List Df}(h:PrN o z n dfs):(dfs.map (·.z)).Nodup:=by rw[h.nms];exact nms3 _ _
def J1(K:ub):Sp:=fun vs H Q _=>∃(st w p pk pd:Addr)(ds:List Addr)(B:Nat)(o:Wo)(dfs:List Df),vs=[.ref st,.ref w,.ref p]/\Sta K H st B/\B+500 < LIM/\IsW H o w/\H p=some (.tup [.ref pk,.ref pd])/\H pd=some (.tup (ds.map V.ref))/\IsFs H dfs ds/\PrN o 14560 11 dfs/\∀(H':Hp)(p':Addr)(dfs':List Df),Kp st H H'->Sta K H' st (B+500)->PrOk H' p' dfs'->PrN o 14560 11 dfs'->Q (.ref p') H'
theorem scWith:FnScope ["_law_state","_law_world_here","_law_program_here","_law_name_here","_law_params","_law_body_here","_law_number","_law_scope","_law_x"] lS13 (zo wI):=.ok
theorem zaN(F:Fun K "_law_with_laid" "_law_with_laid" wI f fd)(GD:Ca P w K mg base CX0 1 "_law_draw" lS2 (yz K))(GN':Ca P w K mg base CX0 1 "_law_name" lS4 spNm)(GL:Ca P w K mg base CX0 (3+2*8) "_law_laid" lS0 (wP K 8))(m_len:mg "len"=none)(m_zip:mg "zip"=none)(m_list:mg "list"=none):FnOk P w K mg base CX0 20 f fd lS13 (J1 K):=by
 refine F.by scWith (fun vs H Q E h=>?_) (fun cdv A outer s H vs Q E hr h=>?_)
 ·obtain⟨st,w,p,pk,pd,ds,B,o,dfs,rfl,_⟩:=h
  rfl
 obtain⟨st,w0,p,pk,pd,ds,B,o,dfs,rfl,S0,hB,hW,hp,hpd,hF,hN,q⟩:=h
 have hr1:Room 1 _:=hr.mono (by decide)
 refine⟨_,
  (zg (yV (zP zZ (xT 2) zj (fun _ _=>rfl)) (yi rfl (zv (gN 3 scWith.nd) (zv (gN 4 scWith.nd) (zv (gN 5 scWith.nd) zM)))))
  (zg (zy (jW.pt (xk (tN (zaG hr1) (jv 4) (zu zE)) (xb (tN zA (cA GD hr1 (jA2 (jv 0) zj)) zj))))
   (zh (zq (jv 2)))  zt)
  (zg (sE 6 scWith.nd (cA GN' hr1 (jA2 (jv 1) (jL m_len (jv 4)))))
  (zg (sE 7 scWith.nd (zx yP (w5 rfl rfl m_list rfl m_zip (jA2 (jv 4) (zP zZ (zP zI (xL 1) zj (fun _ _=>rfl)) zj (fun _ _=>rfl)))) (zB (jA1 (zu (jA2 (jv 6) zj))))))
  (zg (sE 8 scWith.nd (xX zZ (jv 4) (cA GD hr1 (jA2 (jv 0) (jL m_len (jv 4))))))
  (zg (sE 5 scWith.nd (cA GL hr (jA7 (jv 0) (jv 1) (jv 7) (jL m_len (jv 7)) (cA GD hr1 (jA2 (jv 0) zj)) (jv 8) (xK zj))))
  (zh (zq (zu (jA2 (xT 2) (zx Xq (zu (jA1 (zu (jA3 (jv 3) (jv 4) (zu (jA4 zp (jv 6) (zu (jA2 zp zj)) (jv 5))))))) (yo xC (xT 2) (yF zj) yE)))))))))))),?_⟩
 have sl:=zF
 have LM:LIM=4611686018427387904:=rfl
 have dl3:=hN.len
 have dsl:=hF.len
 obtain⟨d,dr,rfl⟩:∃d dr,dfs=d::dr:=by
  cases dfs with
  |nil=>cases dl3
  |cons d dr=>exact⟨d,dr,rfl⟩
 obtain⟨t0,tr,rfl⟩:∃t tr,ds=t::tr:=by
  cases ds with
  |nil=>cases hF
  |cons d dr=>exact⟨d,dr,rfl⟩
 obtain⟨hFd,hFr⟩:IsF H d t0/\IsFs H dr tr:=by
  cases hF with
  |cons a b=>exact⟨a,b⟩
 obtain⟨qn,pb,g1,g2,g3⟩:=hFd.ex
 obtain⟨nl,dz,ddp,hfn⟩:=hN.dd d uK
 have trl:tr.length=2:=by rw[ul,ul]at dsl;rw[ul]at dl3;lia
 refine cut5 fun r1_ hr1_=>?_
 refine⟨_,rfl,ixT hp aI1 (ixT hpd aI0 ⟨_,_,rfl,SqT.of g1,rfl,_,_,rfl,_,_,rfl,_,_,rfl,rfl,?_⟩)⟩
 refine⟨_,rfl,sN0,fun te hte=>?_⟩
 have s1:=zn (o:=.tup []) hte
 have hte1:=upd_same (H:=H) (a:=te) (o:=.tup [])
 generalize upd H te (.tup [])=H1 at *
 have give:∀{H':Hp}{C:Nat},Kp st H H'->Sta K H' st C->C<=B+500->Q (.ref p) H':=fun{H' C} k S c=>q _ p (d::dr) k (S.mono c) ⟨pk,pd,t0::tr,k.tups S0 _ _ hp,k.tups S0 _ _ hpd,hF.keep (k.tups S0)⟩ hN
 refine⟨qn,te,_,rfl,rfl,SqT.of (s1 _ _ g2),SqT.of hte1,_,rfl,?_⟩
 show if(d.ns.map V.str).isEmpty=true then _ else _
 have S1:=S0.same s1
 have k1:Kp st H H1:=.of s1
 by_cases he:d.ns=[]
 ·rw[he]
  exact iteT ⟨_,rfl,give k1 S1 (by lia)⟩
 have h0:0 < d.ns.length:=UQ.mpr he
 have e0:(d.ns.map V.str).isEmpty=false:=by
  cases hh:d.ns with
  |nil=>exact absurd hh he
  |cons _ _=>rfl
 rw[e0]
 refine iteF ?_
 refine⟨_,rfl,st,2,_,rfl,S1,by lia,by decide,fun H2 r2 k2 S2 r20 r21=>⟨rfl,_,rfl,?_⟩⟩
 have k02:=k1.trans k2
 refine ite2 (fun _=>⟨_,rfl,give k02 S2 (by lia)⟩) (fun _=>?_)
 obtain⟨⟨tl,dl,tt,dss,hw,htl1,hdl,hTt,hTd⟩,wok⟩:=hW.kp S0 k02
 have dlen:=wok.dlen
 have hdl2:=hTd.len
 obtain⟨t,ht⟩:∃t,dss[0]?=some t:=⟨_,ui (by lia)⟩
 obtain⟨z,ss,g,sq,e1,e2,e3⟩:=hTd.get ht
 have wd:ss.length<=3/\So ss/\0<=g/\g<=2:=wok.ds _ (uq e1)
 have htr:(dss.map V.ref)[0]?=some (.ref t):=by rw[ue,ht];rfl
 have ssl:ss.length=d.ns.length:=by
  obtain⟨s',hs',hz',hl'⟩:=hfn.s
  obtain⟨i,hi⟩:=Uv.mp hs'
  have il:i < 3:=by
   have:=(uc.mp hi).1
   lia
  have h1:(o.defs.map (·.1))[i]?=some s'.1:=by rw[ue,hi];rfl
  rw[wok.dn,ue,tH il]at h1
  have h2:((d::dr).map (·.z))[0]?=some d.z:=rfl
  rw[hN.nms]at h2
  have h3:nm o.z o.b (2-i)=nm o.z o.b 2:=(uO.inj h1).trans (hz'.trans (uO.inj h2).symm)
  have h4:=wc (by lia) (by lia) h3
  have:i=0:=by lia
  subst this
  rw[e1]at hi
  cases hi
  exact hl'
 have g12:=k02.tups S0 _ _ g1
 have g22:=k02.tups S0 _ _ g2
 refine⟨_,rfl,_,rfl,_,_,rfl,.inr (SqT.of g22),w0,o.z,o.b,_,(d.ns.map V.str).length,rfl,hw,wok.z,?_⟩
 rw[ua]
 generalize hy:nm o.z o.b d.ns.length=num
 refine⟨_,rfl,_,rfl,ixL hw aI3 ⟨dl,_,_,_,rfl,rfl,SqL.of hdl,zN (j:=0) htr,ixT e2 aI1 ⟨qn,sq,_,_,rfl,.inr (SqT.of g22),.inl (SqL.of e3),fun H3 pz zs s3 f3 hpz hzl _ _ hpair=>?_⟩⟩⟩
 have tz:=wb hzl hpair
 have hzl2:zs.length=ss.length:=by rw[hzl,ua,ua];lia
 refine⟨_,rfl,sN2,fun t1 h4=>⟨sN1,fun pl h5=>?_⟩⟩
 have s5:=(s3.new (o:=.tup [.str num,.int 0]) h4).new (o:=.lst [.ref t1]) h5
 have z5:Same H3 _:=(zn (o:=.tup [.str num,.int 0]) h4).new (o:=.lst [.ref t1]) h5
 have ht1:=old (o:=.lst [.ref t1]) h5 (upd_same (H:=H3) (a:=t1) (o:=.tup [.str num,.int 0]))
 have hpl:=upd_same (H:=upd H3 t1 (.tup [.str num,.int 0])) (a:=pl) (o:=.lst [.ref t1])
 generalize upd (upd H3 t1 (.tup [.str num,.int 0])) pl (.lst [.ref t1])=H5 at *
 refine⟨pz,pl,_,_,rfl,rfl,z5 _ _ hpz,hpl,by rw[ua];show _+1<=_;lia,fun pm h6=>?_⟩
 have em:zs.map V.ref++[V.ref t1]=(zs++[t1]).map V.ref:=by rw[ut];rfl
 rw[em]
 have s6:=s5.new (o:=.lst ((zs++[t1]).map V.ref)) h6
 have x6:=zn (o:=.lst ((zs++[t1]).map V.ref)) h6
 have hpm:=upd_same (H:=H5) (a:=pm) (o:=.lst ((zs++[t1]).map V.ref))
 generalize upd H5 pm (.lst ((zs++[t1]).map V.ref))=H6 at *
 have sc6:Sc H6 (d.ns.zip ss++[(num,0)]) pm:=by
  refine⟨⟨zs++[t1],hpm,((tz.keep (.of z5)).keep (.of x6)).app (.cons (x6 _ _ ht1) .nil)⟩,?_,fun x hx=>?_⟩
  ·rw[uf,UY,uZ]
   lia
  ·rcases uE.mp hx with hx|hx
   ·have:=wd.2.1 x.2 (UI hx).2
    lia
   ·rw[uj.mp hx]
    exact⟨Int.le_refl _,by show(0:Int)<=13;decide⟩
 have k06:=k02.trans (.of s6)
 have S6:=S2.same s6
 have g26:=s6 _ _ g22
 refine⟨_,rfl,_,rfl,_,rfl,_,_,rfl,.inr (SqT.of g26),st,_,_,rfl,S6,by lia,(by rw[ua];lia),fun H7 r7 k7 S7 r70 r71=>?_⟩
 rw[ua]at r71
 have k07:=k06.trans k7
 obtain⟨x,hx⟩:∃x,d.ns[r7.toNat]?=some x:=⟨_,ui (by lia)⟩
 refine⟨qn,_,_,_,rfl,rfl,SqT.of (k7.tups S6 _ _ g26),xw r70 hx,?_⟩
 have hpm7:=k7.k _ _ (S6.neR hpm) hpm
 subst hr1_
 refine⟨_,rfl,_,rfl,_,rfl,_,rfl,_,_,rfl,.inl (SqL.of hpm7),_,rfl,st,4,_,rfl,S7,by lia,by decide,fun H8 r8 k8 S8 r80 r81=>?_⟩
 have k08:=k07.trans k8
 have hxn:x≠num:=fun e=>by
  have hxm:=uq hx
  rw[hfn.n]at hxm
  obtain⟨i,hi,hix⟩:=uy.mp hxm
  have:=Us.mp hi
  have:=wc (by lia) (by lia) (hix.trans (e.trans hy.symm))
  lia
 have rk8:rk r8 (-1)<=8:=by
  unfold rk
  rw[if_pos (by decide)]
  lia
 have sll:(d.ns.zip ss++[(num,(0:Int))]).length=d.ns.length+1:=by
  rw[uf,UY,uZ]
  lia
 have zsl:(zs++[t1]).length=d.ns.length+1:=by rw[uf,uZ];lia
 refine⟨_,rfl,_,rfl,st,w0,pm,((zs++[t1]).map V.ref).length,r8,x,-1,_,d.ns.zip ss++[(num,0)],o,rfl,S8,by lia,hW.kp S0 k08,sc6.kp S6 (k7.trans k8),⟨(num,0),uo _ (uj.mpr rfl),hxn.symm⟩,r80,rk8,by lia,by rw[ua];lia,fun H9 pb' b k9 S9 hb hbz hbd hbb=>?_⟩
 rw[ua,zsl]at hbb
 have k09:=k08.trans k9
 have hp9:=k09.tups S0 _ _ hp
 have hpd9:=k09.tups S0 _ _ hpd
 have g29:=k09.tups S0 _ _ g2
 have hFr9:=hFr.keep (k09.tups S0)
 refine⟨_,rfl,ixT hp9 aI0 ⟨_,rfl,_,rfl,_,rfl,sN2,fun tn htn=>⟨_,rfl,sN4,fun tb htb=>⟨sN3,fun tf htf=>⟨sN1,fun tw htw=>?_⟩⟩⟩⟩⟩
 have s10:Same H9 _:=(((zn htn (.tup [.str "num",.int 3])).new (o:=.tup [.str "let",.str num,.ref tn,.ref pb']) htb).new (o:=.tup [.str d.z,.ref qn,.ref tb]) htf).new (o:=.tup [.ref tf]) htw
 have hd10:IsF (upd (upd (upd (upd H9 tn (.tup [.str "num",.int 3])) tb (.tup [.str "let",.str num,.ref tn,.ref pb'])) tf (.tup [.str d.z,.ref qn,.ref tb])) tw (.tup [.ref tf])) ⟨d.z,d.ns,.lt num (.num 3) b⟩ tf:=⟨qn,tb,old htw upd_same,s10 _ _ g29,.lt (old htw (old htf upd_same)) (.num (old htw (old htf (old htb upd_same)))) (hb.keep (.of s10))⟩
 have htw10:=upd_same (H:=upd (upd (upd H9 tn (.tup [.str "num",.int 3])) tb (.tup [.str "let",.str num,.ref tn,.ref pb'])) tf (.tup [.str d.z,.ref qn,.ref tb])) (a:=tw) (o:=.tup [.ref tf])
 generalize upd (upd (upd (upd H9 tn (.tup [.str "num",.int 3])) tb (.tup [.str "let",.str num,.ref tn,.ref pb'])) tf (.tup [.str d.z,.ref qn,.ref tb])) tw (.tup [.ref tf])=H10 at *
 refine⟨_,rfl,ixT (s10 _ _ hp9) aI1 ⟨_,rfl,pd,_,rfl,s10 _ _ hpd9,fun pc H11 s11 hpc=>?_⟩⟩
 rw[ZY (by decide)]at hpc
 have s911:Same H9 H11:=fun b u e=>s11 b u (s10 b u e)
 refine⟨tw,pc,_,_,rfl,rfl,SqT.of (s11 _ _ htw10),SqT.of hpc,by simp,?_,fun e=>?_,fun _ pm2 h12=>?_⟩
 ·rw[ua]
  show 1+tr.length<=_
  lia
 ·have e:tr.map V.ref=[]:=e
  have:=congrArg Tb e
  rw[ua,trl]at this
  cases this
 ·refine⟨sN2,fun pp h13=>?_⟩
  have s13:Same H11 _:=(zn h12 (.tup ([V.ref tf]++tr.map V.ref))).new (o:=.tup [.ref pk,.ref pm2]) h13
  have s913:=s911.trans s13
  refine q _ pp (⟨d.z,d.ns,.lt num (.num 3) b⟩ :: dr) (k09.trans (.of s913)) ((S9.same s913).mono (by lia)) ⟨pk,pm2,tf::tr,upd_same,old h13 upd_same,.cons ((hd10.keep (.of s11)).keep (.of s13)) (hFr9.keep (.of s913))⟩ ⟨dl3,hN.nms,fun d' hd'=>?_⟩
  rcases um.mp hd' with e|e
  ·subst e
   refine⟨nl,?_,?_,hfn.n,?_,hfn.s⟩
   ·show(Bd.lt num (.num 3) b).sz<=_
    rw[Bd.sz]
    lia
   ·show(Bd.lt num (.num 3) b).dp<=_
    rw[Bd.dp]
    lia
   ·show Bnm o d.ns.length 900 (Bd.lt num (.num 3) b).binds
    rw[Bd.binds]
    exact fun x hx=>(um.mp hx).elim (fun e=>⟨d.ns.length,ud _,by lia,by rw[e,hy]⟩) (hbb.mono (tj _) x)
  ·exact hN.dd d' (uD _ e)
end
theorem v7:∀{l:List Str}{k:Nat}{x:Str},pixR l x=some k->l.reverse[k]?=some x
 |[],k,x,h=>by cases h
 |y::r,k,x,h=>by
  unfold pixR at h
  rw[tD]
  split at h
  ·rename_i e
   have:r.length=k:=uO.inj h
   subst this
   rw[Ug (by rw[Uj];exact ud _),Uj,Nat.sub_self,e]
   rfl
  ·have ih:=v7 h
   have:=(uc.mp ih).1
   rw[uX this]
   exact ih
theorem jP{ns:List Str}{k:Nat}{x:Str}(h:pix ns x=some k):ns[k]?=some x:=by
 have:=v7 h
 rwa [List.reverse_reverse]at this
theorem v9{c:Bool}{s:Str}(h:c=true):s∈opt c s:=opt_mem.mpr ⟨h,rfl⟩
theorem Y8:∀{dfs:List Df}{d d':Df},(dfs.map (·.z)).Nodup->d∈dfs->d'∈dfs->d'.z=d.z->d'=d
 |e::l,d,d',n,h,h',hz=>by
  rw[uH,Ub]at n
  rcases um.mp h with a|a<;>rcases um.mp h' with b|b
  ·rw[a,b]
  ·exact absurd (uy.mpr ⟨d',b,by rw[hz,a]⟩) n.1
  ·exact absurd (uy.mpr ⟨d,a,by rw[<- hz,b]⟩) n.1
  ·exact Y8 n.2 a b hz
theorem Y9{α:Type}{l:List α}{i:Nat}{x:α}(h:l.Nodup)(e:l[i]?=some x):x∉l.take i:=fun hm=>by
 obtain⟨j,hj⟩:=Uv.mp hm
 rw[List.getElem?_take]at hj
 split at hj
 ·rename_i c
  obtain⟨h1,e1⟩:=uc.mp hj
  obtain⟨h2,e2⟩:=uc.mp e
  have:=(List.pairwise_iff_getElem.mp h) j i h1 h2 c
  exact this (e1.trans e2.symm)
 ·cases hj
section
variable{dfs:List Df}
theorem zaO(hn:(dfs.map (·.z)).Nodup)(hb:∀d∈dfs,d.ns.Nodup/\∀x∈d.ns,x∉d.b.binds){r:Rw}(h:r∈ownR (yd dfs) dfs):∃d∈dfs,∃x s,r.z=d.z/\d.ns[r.k]?=some x/\r.y=.own s/\s∈yQ dfs d x:=by
 have A:=Ye dfs
 unfold ownR ownD at h
 obtain⟨d,hd,h⟩:=Uq.mp h
 obtain⟨k,hk,h⟩:=Uq.mp h
 have hk:=Us.mp hk
 unfold own1 at h
 split at h
 ·rename_i ne
  have:=uj.mp h
  subst this
  refine⟨d,hd,d.ns[k],_,rfl,ui hk,rfl,?_⟩
  have hx:d.ns[k]?=some d.ns[k]:=ui hk
  generalize d.ns[k]=x at hx
  show rsn (yd dfs) d.z k∈_
  unfold rsn at ne ⊢
  split
  ·rename_i hh
   have hf:byF d.z dfs=true:=by
    rcases(A.hd _).mp hh with h|h
    ·cases h
    ·exact byF_iff.mpr h
   unfold yQ
   exact uB _ (uo _ (v9 hf))
  ·rename_i hh
   rw[if_neg hh]at ne
   cases e:(yd dfs).F d.z k with
   |none=>rw[e]at ne;exact absurd rfl ne
   |some s =>
    show s∈yQ dfs d x
    rcases A.f1 _ _ _ e with h'|⟨d',hd',hz',b,hb',hr⟩
    ·cases h'
    have:=Y8 hn hd hd' hz'
    subst this
    have eq:∀{y:Str},pix d'.ns y=some k->y=x:=fun{y} hy=>by
     have:=jP hy
     rw[hx]at this
     exact(uO.inj this).symm
    unfold yQ
    cases b with
    |give y =>
     obtain⟨h1,rfl⟩:=hr
     refine uB _ (uB _ (uB _ (v9 (Ua.mpr ⟨_,hb',?_⟩))))
     show decide (y=x)=true
     exact decide_eq_true (eq h1)
    |iff y a b=>exact hr.elim
    |case y as =>
     obtain⟨h1,h2,rfl⟩:=hr
     have:=eq h2
     subst this
     refine uo _ (v9 (Ua.mpr ⟨_,hb',?_⟩))
     have nb:=Bd.all_binds d'.b hb' ((hb d' hd').2 y (uq hx))
     rw[Bd.binds]at nb
     show(decide (y=y) && as.ways.any (larm y))=true
     rw[decide_eq_true rfl,tG,<- zaH nb]
     exact h1
    |lt y de e' =>
     cases de with
     |num i=>exact hr.elim
     |op w a b=>exact hr.elim
     |app w f xs =>
      refine uB _ (uB _ (uo _ (Uq.mpr ⟨_,des_mem.mpr ⟨y,e',hb'⟩,?_⟩)))
      show s∈opt (decide (w="make"\/w="func"\/w="ask") && decide (x∈xs)) "put" ++ opt (decide (w="ask") && decide (f=x)) "asked"
      rcases hr with⟨h1,⟨x',h2,h3⟩,rfl⟩|⟨h1,h2,rfl⟩
      ·have:=eq h3
       subst this
       exact uB _ (v9 (by rw[decide_eq_true h1,decide_eq_true h2];rfl))
      ·exact uo _ (v9 (by rw[decide_eq_true h1,decide_eq_true (eq h2)];rfl))
 ·cases h
theorem Xa{r:Rw}{g:Str}{j:Nat}(h:r.key∈(yd dfs).C g j):∃d∈dfs,∃x,r.z=d.z/\d.ns[r.k]?=some x/\(g,j)∈xH d x:=by
 rcases((Ye dfs).c _ _ _).mp h with h|⟨d,hd,b,hb,k,hc,e⟩
 ·cases h
 have e1:r.z=d.z:=congrArg (·.1) e
 have e2:r.k=k:=congrArg (·.2) e
 cases b with
 |lt y de e' =>
  cases de with
  |app w f xs =>
   obtain⟨h1,h2,x,h3,h4⟩:=hc
   refine⟨d,hd,x,e1,by rw[e2];exact jP h4,?_⟩
   unfold xH
   refine Uq.mpr ⟨_,des_mem.mpr ⟨y,e',hb⟩,?_⟩
   show(g,j)∈(if w="call"then(uC xs.length).flatMap (yT f x xs)else[])
   rw[if_pos h1]
   exact Uq.mpr ⟨j,Us.mpr (uc.mp h3).1,call1_mem.mpr ⟨h3,by rw[h2]⟩⟩
  |num i=>exact hc.elim
  |op w a b=>exact hc.elim
 |give y=>exact hc.elim
 |iff y a b=>exact hc.elim
 |case y as=>exact hc.elim
theorem ja(g:Str)(j:Nat):∀(l:List (Str×Nat))(rows:List Rw),∃more,l.foldl (zO g j) rows=rows++more/\∀r∈more,r.y=.called g j/\r.key∈l
 |[],rows=>⟨[],(ux _).symm,fun r h=>by cases h⟩
 |c::l,rows=>by
  obtain⟨m2,e2,h2⟩:=ja g j l (zO g j rows c)
  have:∃m1,zO g j rows c=rows++m1/\∀r∈m1,r.y=.called g j/\r.key=c:=by
   unfold zO
   split
   ·exact⟨[],(ux _).symm,fun r h=>by cases h⟩
   ·exact⟨_,rfl,fun r h=>by rw[uj.mp h];exact⟨rfl,rfl⟩⟩
  obtain⟨m1,e1,h1⟩:=this
  refine⟨m1++m2,by rw[Ul,e2,e1,Ur],fun r h=>?_⟩
  rcases uE.mp h with h|h
  ·exact⟨(h1 r h).1,by rw[(h1 r h).2];exact uK⟩
  ·exact⟨(h2 r h).1,uD _ (h2 r h).2⟩
theorem Yj{st:US}(Z:Rw->Prop):∀(f a:Nat)(rows:List Rw),(∀i r,rows[i]?=some r->Z r\/∃(i':Nat)(s:Rw),i' < i/\rows[i']?=some s/\r.y=.called s.z s.k/\r.key∈st.C s.z s.k)->∀i r,(runR st f a rows)[i]?=some r->Z r\/∃(i':Nat)(s:Rw),i' < i/\(runR st f a rows)[i']?=some s/\r.y=.called s.z s.k/\r.key∈st.C s.z s.k
 |0,a,rows,h=>h
 |f+1,a,rows,h=>by
  unfold runR
  cases e:rows[a]? with
  |none=>exact h
  |some ra =>
   refine Yj Z f (a+1) (vU st rows ra) fun i r hr=>?_
   obtain⟨more,em,hm⟩:=ja ra.z ra.k (st.C ra.z ra.k) rows
   have ha:=(uc.mp e).1
   unfold vU at hr ⊢
   rw[em]at hr ⊢
   by_cases c:i < rows.length
   ·rw[uX c]at hr
    rcases h i r hr with h|⟨i',s,h1,h2,h3⟩
    ·exact .inl h
    ·exact .inr ⟨i',s,h1,by rw[uX (by lia)];exact h2,h3⟩
   ·rw[Ug (by lia)]at hr
    obtain⟨h1,h2⟩:=hm r (uq hr)
    exact .inr ⟨a,ra,by lia,by rw[uX ha];exact e,h1,h2⟩
theorem zaP(hn:(dfs.map (·.z)).Nodup)(hb:∀d∈dfs,d.ns.Nodup/\∀x∈d.ns,x∉d.b.binds){i:Nat}{r:Rw}(h:(yj dfs)[i]?=some r):r.key∉((yj dfs).take i).map Rw.key/\∃d∈dfs,∃x,r.z=d.z/\d.ns[r.k]?=some x/\((∃s,r.y=.own s/\s∈yQ dfs d x)\/∃g j,r.y=.called g j/\(g,j)∈xH d x/\(g,j)∈((yj dfs).take i).map Rw.key):=by
 refine⟨?_,?_⟩
 ·have nd:=Y3 hn
  have:((yj dfs).map Rw.key)[i]?=some r.key:=by rw[ue,h];rfl
  have:=Y9 nd this
  rwa [<- List.map_take]at this
 ·have hi:=(uc.mp h).1
  rcases Yj (st:=yd dfs) (·∈ownR (yd dfs) dfs) _ 0 _ (fun i r hr=>.inl (uq hr)) i r h with h|⟨i',s,h1,h2,h3,h4⟩
  ·obtain⟨d,hd,x,s,a,b,c,e⟩:=zaO hn hb h
   exact⟨d,hd,x,a,b,.inl ⟨s,c,e⟩⟩
  ·obtain⟨d,hd,x,a,b,c⟩:=Xa h4
   refine⟨d,hd,x,a,b,.inr ⟨s.z,s.k,h3,c,?_⟩⟩
   refine uy.mpr ⟨s,Uv.mpr ⟨i',?_⟩,rfl⟩
   rw[List.getElem?_take,if_pos h1]
   exact h2
end
def J2(n:Nat):Sp:=fun vs H Q _=>∃(p t lb:Addr)(dfs:List Df)(i:Nat)(r:Rw)(q:Addr)(ts:List Addr),vs=[.ref p,.ref t,.ref lb]/\PrOk H p dfs/\PrR n dfs/\(dfs.map (·.z)).Nodup/\(yj dfs)[i]?=some r/\H t=some (.tup [.str r.z,.int ((r.k:Nat):Int),.ref q])/\YAt H q r.y/\H lb=some (.lst (ts.map V.ref))/\RkAt H ((yj dfs).take i) ts/\∀H',Same H H'->Q (.bl true) H'
theorem zaQ(a b:Str):eqVs [.str a] [.str b]=decide (a=b):=by
 show(((a == b) && true) && true)=_
 rw[t8,t8]
 rfl
theorem zaR(a g:Str)(j:Int):eqVs [.str a] [.str "called",.str g,.int j]=false:=by
 show(((a == ("called":Str)) && true) && false)=false
 rw[Bool.and_false]
theorem WN(g:Str)(j:Int):eqVs [.str "called",.str g,.int j] [.str "called",.str g,.int j]=true:=xF rfl
section
variable{P:Program}{w:World}{K:ub}{mg:Str->Option Value}{base:Heap}{f:Addr}{fd:FuncData}
theorem scGood:FnScope ["_law_program_here","_law_row","_law_before","_law_one","_law_name_here"] lS18 (zo vJ):=.ok
theorem zaS{n:Nat}(F:Fun K "_law_row_good" "_law_row_good" vJ f fd)(GD:Ca P w K mg base CX0 ((1+n)+1+1+1) "_law_direct" lS15 (Yg n))(GC:Ca P w K mg base CX0 ((1+n)+1+1) "_law_calls" lS24 (X0 n))(m_len:mg "len"=none)(m_tuple:mg "tuple"=none)(m_int:mg "int"=none)(m_bool:mg "bool"=none)(m_isinstance:mg "isinstance"=none):FnOk P w K mg base CX0 ((1+n)+1+1+1+1) f fd lS18 (J2 n):=by
 refine F.by scGood (fun vs H Q E h=>?_) (fun cdv A outer s H vs Q E hr h=>?_)
 ·obtain⟨p,t,lb,dfs,i,r,q,ts,rfl,_⟩:=h
  rfl
 obtain⟨p,t,lb,dfs,i,r,qy,ts,rfl,hp,hR,hN,hr_,ht,hy,hlb,hk,q⟩:=h
 have hr1:Room 1 _:=hr.mono (by lia)
 have hrC:Room ((1+n)+1+1) _:=hr.mono (by lia)
 refine⟨_,
  (zg (zy (jW.pt (xk (wA (yI (yJ yZ rfl m_isinstance UJ (jA2 (jv 1) (xW (v:=.ty "tuple") rfl m_tuple uY rfl))))) (xk (tN ZH (jL m_len (jv 1)) zj) (xb (wA (yI (yJ yZ rfl m_isinstance UJ (jA2 (xT 1) (xW (v:=.ty "tuple") rfl m_tuple uY rfl)))))))))
   (zh (zq yt))  zt)
  (zg (zy (jW.pt (xk (wA (yI (yJ yZ rfl m_isinstance UJ (jA2 (xT 1) (xW (v:=.ty "int") rfl m_int PyProof.Rows.boot_int rfl))))) (xk (yI (yJ yZ rfl m_isinstance UJ (jA2 (xT 1) (xW (v:=.ty "bool") rfl m_bool PyProof.Rows.boot_bool rfl)))) (xb (yk (JR hr1) (yo xC (jv 1) yE (yF zj)) (jv 2) (by with_unfolding_all rfl))))))
   (zh (zq yt))  zt)
  (zg (zK PassesOwn.never rfl (yW (xT 0)) (gN 3 scGood.nd)
   (zh (zy (jW.pt (ya (tN zA (xT 3) (xT 1)) (yc (Ve Vi wU zj (xT 1) (jL m_len (xT 3))))))
    (zg (sE 4 scGood.nd (xX zZ (xT 3) (xT 1)))
    (zg (zy (yk (JQ hr1) (xT 1) (cA GD hr (jA3 (jv 0) (jv 3) (jv 4))) (by with_unfolding_all rfl))
     (zh (zq yt))  zt)
    (zh (zq (Yz (xa (JQ hr1) (xT 1) (cA GC hrC (jA2 (jv 3) (jv 4))) (by with_unfolding_all rfl)) (Vf (xa (JR hr1) (yo xC (xT 1) (yF zj) yE) (jv 2) (by with_unfolding_all rfl))))))))  zt)))
  (zh (zq yt))))),?_⟩
 have sl:=zF
 obtain⟨nk,d,dm,x,hz,hx,hwhy⟩:=zaP hN hR.n hr_
 have nk:(r.z,r.k)∉((yj dfs).take i).map Rw.key:=nk
 have ht2:∃xs,H qy=some (.tup xs):=by
  cases hc:r.y with
  |own s=>rw[hc]at hy;exact⟨_,hy⟩
  |called g j=>rw[hc]at hy;exact⟨_,hy⟩
 obtain⟨ys,hys⟩:=ht2
 refine cut1 fun r1_ hr1_=>?_
 refine⟨_,rfl,_,_,_,_,rfl,.tup ht,rfl,_,rfl,iteF ?_⟩
 refine⟨_,rfl,_,_,rfl,.inr (SqT.of ht),rfl,_,rfl,ite2 (fun c=>absurd c (by simp)) (fun _=>?_)⟩
 refine⟨_,rfl,ixT ht aI2 ⟨_,_,_,_,rfl,.tup hys,rfl,_,rfl,iteF ?_⟩⟩
 refine nxtC ?_
 dsimp only
 subst hr1_
 refine cut1 fun r2_ hr2_=>?_
 refine⟨_,rfl,ixT ht aI1 ⟨_,_,_,_,rfl,.int _,rfl,_,rfl,iteF ?_⟩⟩
 refine⟨_,rfl,ixT ht aI1 ⟨_,_,_,_,rfl,.int _,rfl,_,rfl,iteF ?_⟩⟩
 refine⟨_,rfl,_,rfl,t,_,rfl,ht,fun p3 H3 s3 hp3=>?_⟩
 have s3:Same H H3:=s3
 rw[show cutV [V.str r.z,V.int ((r.k:Nat):Int),V.ref qy] none (some 2)=[V.str r.z,V.int ((r.k:Nat):Int)]from rfl]at hp3
 have prs:∀{H':Hp},Same H H'->∀(m:Nat)(t:Addr),ts[m]?=some t->∃c,(((yj dfs).take i).map keyI)[m]?=some c/\H' t=some (.tup [.str c.1,.int c.2]):=fun{H'} s' m t h'=>by
  obtain⟨c,c1,c2⟩:=All2.get hk h'
  exact⟨keyI c,by rw[ue,c1];rfl,s' _ _ c2⟩
 have klen:(((yj dfs).take i).map keyI).length=ts.length:=by rw[ua];exact All2.len hk
 refine⟨_,rfl,p3,lb,r.z,_,((yj dfs).take i).map keyI,ts,rfl,rfl,hp3,s3 _ _ hlb,prs s3,klen,_,rfl,?_⟩
 rw[Yh,decide_eq_false nk]
 refine iteF ?_
 refine nxtC ?_
 dsimp only
 subst hr2_
 have DB:DpB n dfs:=⟨fun d hd=>⟨(hR.d d hd).1,Uc (hR.d d hd).2 (by decide)⟩⟩
 obtain⟨pk,pd,ds,e1,e2,hF⟩:=(hp.keep (.of s3)).ex
 have ht3:=s3 _ _ ht
 have hkl:=(uc.mp hx).1
 refine⟨_,rfl,ixT e1 aI1 ⟨pd,rfl,⟨_,SqT.of e2⟩,yS (xs:=ds.map V.ref) (fun m σ H'=>H3=H'/\(∀(j:Nat) d',j < m->dfs[j]?=some d'->d'.z≠r.z)/\∃v3 v4,σ=[some (.ref p),some (.ref t),some (.ref lb),v3,v4]) ⟨rfl,fun j _ h=>absurd h (t9 _),_,_,rfl⟩ (fun m σ H' _ h=>by rw[<- h.1];exact SqT.of e2) ?_ ?_⟩⟩
 ·rintro m v σ H4 hv ⟨rfl,hno,v3,v4,rfl⟩
  rw[ue]at hv
  obtain⟨t',ht',rfl⟩:=uh.mp hv
  obtain⟨d',hd',hFd⟩:=hF.get ht'
  obtain⟨qn,pb,g1,g2,g3⟩:=hFd.ex
  refine cutR (fun D_ ert fin=>?_) (fun _ _ h=>h)
  refine⟨_,rfl,ixT g1 aI0 ⟨_,rfl,ixT ht3 aI0 ⟨rfl,_,rfl,ite2 (fun c=>?_) (fun c=>?_)⟩⟩⟩
  ·have ez:d'.z=r.z:=V.str.inj (of_decide_eq_true c)
   have:=Y8 hN dm (uq hd') (ez.trans hz)
   subst this
   have hat:atI (d'.ns.map V.str) ((r.k:Nat):Int)=some (.str x):=zN (by rw[ue,hx];rfl)
   refine⟨_,rfl,ixT ht3 aI1 ⟨_,_,rfl,rfl,_,rfl,ite2 (fun _=>?_) (fun c=>absurd (decide_eq_true (by lia)) c)⟩⟩
   refine⟨_,rfl,ixT g1 aI1 ⟨_,_,rfl,.inr (SqT.of g2),_,_,rfl,rfl,_,rfl,ite2 (fun _=>?_) (fun c=>absurd (decide_eq_true (by rw[ua];lia)) c)⟩⟩
   refine⟨_,rfl,ixT g1 aI1 ⟨_,rfl,ixT ht3 aI1 ⟨qn,_,_,_,rfl,rfl,SqT.of g2,hat,?_⟩⟩⟩
   refine⟨_,rfl,ixT ht3 aI2 ⟨_,rfl,_,rfl,_,rfl,p,t',x,dfs,d',rfl,hp.keep (.of s3),DB,hFd,dm,fun H5 rd s5 hFo=>?_⟩⟩
   obtain⟨ps,f1,f2⟩:=hFo
   have s35:=s3.trans s5
   have fo:∀(m:Nat)(t:Addr),ps[m]?=some t->∃c,((yQ dfs d' x).map fun a=>[V.str a])[m]?=some c/\H5 t=some (.tup c)/\c.all yh=true:=fun m t h'=>by
    obtain⟨c,c1,c2⟩:=All2.get f2 h'
    exact⟨[V.str c],by rw[ue,c1];rfl,c2,rfl⟩
   have fl:((yQ dfs d' x).map fun a=>[V.str a]).length=ps.length:=by rw[ua];exact All2.len f2
   rcases hwhy with⟨s,hs,hm⟩|⟨g,j,hs,hm,hm2⟩
   ·rw[hs]at hy
    have hy:H qy=some (.tup [.str s]):=hy
    refine⟨qy,rd,_,_,ps,rfl,rfl,s35 _ _ hy,rfl,f1,fo,fl,_,rfl,?_⟩
    rw[show(((yQ dfs d' x).map fun a=>[V.str a]).any fun c=>eqVs c [V.str s])=true from Ua.mpr ⟨_,uy.mpr ⟨s,hm,rfl⟩,by rw[zaQ];exact decide_eq_true rfl⟩]
    exact iteT (ert ▸ q _ s35)
   ·rw[hs]at hy
    have hy:H qy=some (.tup [.str "called",.str g,.int ((j:Nat):Int)]):=hy
    refine⟨qy,rd,_,_,ps,rfl,rfl,s35 _ _ hy,rfl,f1,fo,fl,_,rfl,?_⟩
    rw[show(((yQ dfs d' x).map fun a=>[V.str a]).any fun c=>eqVs c [V.str "called",V.str g,V.int ((j:Nat):Int)])=false from List.any_eq_false.mpr fun c hc=>by
     obtain⟨a,_,rfl⟩:=uy.mp hc
     rw[zaR]
     exact uu]
    refine iteF ?_
    refine⟨_,rfl,ixT (s5 _ _ ht3) aI2 ⟨_,rfl,_,rfl,t',x,d',rfl,hFd.keep (.of s5),(hR.d d' dm).1,(hR.d d' dm).2,fun H6 rc cps s6 hrc hCo=>?_⟩⟩
    have s36:=s35.trans s6
    refine⟨qy,rc,_,(xH d' x).map fun a=>[V.str "called",V.str a.1,V.int ((a.2:Nat):Int)],cps,rfl,rfl,s36 _ _ hy,rfl,hrc,fun m t h'=>?_,by rw[ua];exact All2.len hCo,_,rfl,?_⟩
    ·obtain⟨c,c1,c2⟩:=All2.get hCo h'
     exact⟨_,by rw[ue,c1];rfl,c2,rfl⟩
    rw[show(((xH d' x).map fun a=>[V.str "called",V.str a.1,V.int ((a.2:Nat):Int)]).any fun c=>eqVs c [V.str "called",V.str g,V.int ((j:Nat):Int)])=true from Ua.mpr ⟨_,uy.mpr ⟨_,hm,rfl⟩,WN _ _⟩]
    refine iteT ?_
    refine⟨_,rfl,ixT (s36 _ _ ht) aI2 ⟨_,rfl,qy,_,rfl,s36 _ _ hy,fun p7 H7 s7 hp7=>?_⟩⟩
    rw[show cutV [V.str "called",V.str g,V.int ((j:Nat):Int)] (some 1) none=[V.str g,V.int ((j:Nat):Int)]from rfl]at hp7
    have s37:Same H H7:=fun b u e=>s7 _ _ (s36 _ _ e)
    refine⟨_,rfl,p7,lb,g,_,((yj dfs).take i).map keyI,ts,rfl,rfl,hp7,s37 _ _ hlb,prs s37,klen,?_⟩
    rw[Yh,decide_eq_true hm2]
    exact ert ▸ q _ s37
  ·refine fin _ _ ⟨rfl,fun j d2 hj hd2=>?_,_,_,rfl⟩
   by_cases e:j=m
   ·subst e
    rw[hd']at hd2
    cases hd2
    exact fun e=>c (decide_eq_true (by rw[e]))
   ·exact hno j d2 (by lia) hd2
 ·rintro σ H4 ⟨rfl,hno,v3,v4,rfl⟩
  obtain⟨m,hm⟩:=Uv.mp dm
  have:=(uc.mp hm).1
  exact absurd hz.symm (hno m d (by rw[ua,<- hF.len];exact this) hm)
end
end GN
namespace L2
open PySem PySem.Spec PyProof.Rows
theorem Xb{P:Program}{w:World}{K:ub}{mg mb:Str->Option Value}{CX:CXT}{k:Nat}{fa a:Addr}{Ts:List Addr}{fd:FuncData}{x:Str}{sp:Sp}{s₁:Shared}{vs:List Value}{ns:List Int}
  (KX:K.In s₁.heap) (hT:∀T∈Ts,s₁.heap.get? T=some { cls:=.none,data:=.fields #[] }) (hTK:∀T∈Ts,K.lookup T=none) (hTc:∀T∈Ts,isCodeTable s₁.heap T) (hns:s₁.heap.Ns mainGlobals mg) (hb:s₁.heap.Ns builtinsNs mb) (hbb:∀x:Str,x≠"__name__"->mb x=bootBuiltins x) (hlim:s₁.heap.NoLimit) (hBM:BMn mg s₁.heap) (hg:s₁.gens=#[])
  (ha:s₁.heap.get? a=some { cls:=.type "list",data:=.seq vs.toArray }) (hi:IntsAre vs ns) (hl:ns.length<=sizeLine) (hr:Room k callerA)
  (F:∀base:Heap,K.In base->base.Ns mainGlobals mg->BMn mg base->FnOk P w K mg base CX k fa fd [x] sp) (hbind:∀(s:Shared)(u:Value),BindsTo s fd ⟨[u],[]⟩ [(x,u)])
  (hsp:∀H:Hp,(∀T∈Ts,H T=some (.tbl #[]))->SqL K H a (ns.map V.int)->sp [.ref a] H (fun v _=>v=.bl true) fun _ _ _=>False)
  (hCX:∀H e s',CX [] H s₁ (fun _ _ _=>False) e s'->False) :
  codeAny (model P w) callerA (.call (.ref fa) ⟨[.ref a],[]⟩) (fun r s'=>r=.ok (.ret (.bool true))/\OldK s₁.heap s'.heap/\s'.os=s₁.os/\AllBare s'.gens) s₁:=by
 have rv:=jl hi
 have lenV:=hi.length
 have nTa:a∉Ts:=fun e=>by rw[hT a e]at ha;cases ha
 have core:∀H:Hp,(∀b,H b=none\/(∃o xs,H b=some (.frz o (.lst xs)))\/(b∈Ts/\H b=some (.tbl #[])))->(∀T∈Ts,H T=some (.tbl #[]))->SqL K H a (ns.map V.int)->HOk P w H s₁.heap->(∀b,H b≠none->b=a\/b∈Ts)->(H a≠none->K.lookup a=none) ->
   codeAny (model P w) callerA (.call (.ref fa) ⟨[.ref a],[]⟩) (fun r s'=>r=.ok (.ret (.bool true))/\OldK s₁.heap s'.heap/\s'.os=s₁.os/\AllBare s'.gens) s₁:=by
  intro H hO hHT hS hok hA hK
  have base_of:∀{b:Addr}{o:Obj},s₁.heap.get? b=some o->H b=none->(hidT s₁.heap H).get? b=some o:=fun e n=>WO e n
  have noA:∀{b:Addr}{o:Obj}{es:Array DictEntry}{ep:Nat},s₁.heap.get? b=some o->o.data=.dict es ep->H b=none:=fun{b o es ep} e d=>by
   cases q:H b with
   |none=>rfl
   |some u =>
    rcases hA b (by rw[q];simp)with e'|e'
    ·subst e'
     rw[ha]at e;cases e
     have d':Data.seq vs.toArray _=Data.dict es ep:=d
     cases d'
    ·rw[hT b e']at e;cases e
     have d':Data.fields #[]=Data.dict es ep:=d
     cases d'
  have nsK:∀{b:Addr}{m:Str->Option Value},s₁.heap.Ns b m->(hidT s₁.heap H).Ns b m:=fun{b m}⟨o,es,ep,e,d,r⟩=>⟨o,es,ep,base_of e (noA e d),d,r⟩
  have hBb:BMn mg (hidT s₁.heap H):=by
   obtain⟨bm,ob,b1,b2,b3,b4,b5,b6⟩:=hBM
   refine⟨bm,ob,b1,b2,base_of b3 ?_,b4,b5,b6⟩
   cases q:H bm with
   |none=>rfl
   |some u =>
    rcases hA bm (by rw[q];simp)with e'|e'
    ·subst e'
     rw[ha]at b3;cases b3;cases b6
    ·rw[hT bm e']at b3;cases b3;cases b6
  have hKb:K.In (hidT s₁.heap H):=fun b o e=>base_of (KX b o e) (by
   cases q:H b with
   |none=>rfl
   |some u =>
    rcases hA b (by rw[q];simp)with e'|e'
    ·subst e'
     rw[hK (by rw[q];simp)]at e;cases e
    ·rw[hTK b e']at e;cases e)
  have hM:Mod K mg (hidT s₁.heap H):=⟨hKb,nsK hns,⟨mb,nsK hb,hbb⟩,let ⟨mc,h1,h2⟩:=hlim;⟨mc,nsK h1,h2⟩⟩
  have e0:Env0 P w K mg (hidT s₁.heap H) callerA [] s₁ H:=⟨rfl,hM,fun b o e=>J4 e,Nat.le_of_eq (X3 _ _),trivial,fun b hb=>absurd (show b∈([]:List Addr)from hb) (by simp),hok,.of_eq hg⟩
  refine codeAny_mono ((F _ hKb (nsK hns) hBb).run callerA [] s₁ H ⟨[.ref a],[]⟩ [.ref a] [.ref a] _ _ hr e0 (hbind s₁ (.ref a)) (.cons rfl .nil) (hsp H hHT hS)) fun r s' h=>?_
  cases r with
  |error e=>exact(hCX H e s' h).elim
  |ok fl =>
   cases fl with
   |next=>exact False.elim h
   |brk=>exact False.elim h
   |cont=>exact False.elim h
   |ret u =>
    obtain⟨v,H',os,bare,un,hok',r',q⟩:=h
    have q':v=.bl true:=q
    subst q'
    obtain rfl:u=Value.bool true:=r'
    refine⟨rfl,⟨fun b o e=>?_,fun b o e=>un.there b o e (by simp)⟩,os,bare⟩
    cases q:H b with
    |none=>exact .inl (un.keep b o e q (by intro z;exact absurd (show b∈([]:List Addr)from z) (by simp)) (by simp))
    |some u =>
     rcases hO b with z|⟨ob,xs,z⟩|⟨zm,z⟩
     ·rw[q]at z;cases z
     ·have z2:=un.frzs b ob _ z
      obtain⟨e1,_⟩:=hok b _ z
      obtain⟨e2,_⟩:=hok' b _ z2
      rw[e]at e1;cases e1
      exact .inl e2
     ·obtain⟨more,z2⟩:=un.tbls b _ z
      have e2:s'.heap.get? b=some { cls:=.none,data:=.fields (#[]++more) }:=hok' b _ z2
      rw[hT b zm]at e;cases e
      exact .inr (.inl ⟨hTc b zm,rfl,#[],more,rfl,e2⟩)
 cases hk:K.lookup a with
 |some o =>
  have e:=KX a o hk
  rw[ha]at e
  cases e
  refine core (fun b=>if b∈Ts then some (.tbl #[])else none) (fun b=>?_) (fun T hT=>if_pos hT) (.inr ⟨_,vs.toArray,_,hk,rfl,rfl,rfl,by rw[ur,lenV];exact hl,by simpa using rv⟩) (fun b u z=>?_) (fun b z=>?_) fun z=>absurd (if_neg nTa) z
  ·by_cases hb:b∈Ts
   ·exact .inr (.inr ⟨hb,if_pos hb⟩)
   ·exact .inl (if_neg hb)
  ·by_cases hb:b∈Ts
   ·have z':=(if_pos hb).symm.trans z
    cases z'
    exact hT b hb
   ·have z':=(if_neg hb).symm.trans z
    cases z'
  ·by_cases hb:b∈Ts
   ·exact .inr hb
   ·exact absurd (if_neg hb) z
 |none =>
  refine core (fun b=>if b∈Ts then some (.tbl #[])else if b=a then some (.frz { cls:=.type "list",data:=.seq vs.toArray } (.lst (ns.map V.int)))else none) (fun b=>?_) (fun T hT=>if_pos hT) (.inl (.inr ⟨{ cls:=.type "list",data:=.seq vs.toArray },(if_neg nTa).trans (if_pos rfl)⟩)) (fun b u z=>?_) (fun b z=>?_) fun _=>hk
  ·by_cases hb:b∈Ts
   ·exact .inr (.inr ⟨hb,if_pos hb⟩)
   ·by_cases hb2:b=a
    ·exact .inr (.inl ⟨_,_,(if_neg hb).trans (if_pos hb2)⟩)
    ·exact .inl ((if_neg hb).trans (if_neg hb2))
  ·by_cases hb:b∈Ts
   ·have z':=(if_pos hb).symm.trans z
    cases z'
    exact hT b hb
   ·by_cases hb2:b=a
    ·have z':some (HO.frz { cls:=.type "list",data:=.seq vs.toArray } (.lst (ns.map V.int)))=some u:=((if_neg hb).trans (if_pos hb2)).symm.trans z
     cases z'
     subst hb2
     exact⟨ha,by rw[ua];exact hl,vs,_,rv,ha⟩
    ·have z':none=some u:=((if_neg hb).trans (if_neg hb2)).symm.trans z
     cases z'
  ·by_cases hb:b∈Ts
   ·exact .inr hb
   ·by_cases hb2:b=a
    ·exact .inl hb2
    ·exact absurd ((if_neg hb).trans (if_neg hb2)) z
def ww(K:ub)(Ts:List Addr):Sp:=fun vs H Q _=>∃(a:Addr)(ns:List Int),vs=[.ref a]/\SqL K H a (ns.map V.int)/\ns.length<=63/\(∀T∈Ts,H T=some (.tbl #[]))/\∀H',Q (.bl true) H'
theorem J3{l:PySem.W.OpenLaw}{w:World}{K:ub}{h:Heap}{mg:Str->Option Value}{fa:Addr}{Ts:List Addr}{st:Stmt}{k:Nat}(d:DfIn K "law" st)(X:K.In h)(G:h.Ns mainGlobals mg)(hfa:mg "law"=some (.ref fa))
  (hb:∀(kV doc pm:Value)(an:Option Addr)(cdv ct:Value)(s:Shared)(u:Value),BindsTo s (Ui "law" "law" (zX st) (zL st) (zo st) .none kV doc pm an cdv ct) ⟨[u],[]⟩ [("_law_script",u)])
  (ok:∀(base:Heap)(fd:FuncData),BMn mg base->Fun K "law" "law" st fa fd->FnOk l.prog w K mg base CX0 k fa fd ["_law_script"] (ww K Ts)) :
  ∃fd:FuncData,(∀(s:Shared)(u:Value),BindsTo s fd ⟨[u],[]⟩ [("_law_script",u)])/\∀base:Heap,K.In base->base.Ns mainGlobals mg->BMn mg base->FnOk l.prog w K mg base CX0 k fa fd ["_law_script"] (ww K Ts):=by
 obtain⟨fl,al,oc,od,kV,doc,pm,an,cdv,ct,osl,lk,cc,kk⟩:=d
 have e:fl=fa:=by
  have:=tY X G al
  rw[hfa]at this
  injection this with this
  injection this with this
  exact this.symm
 subst e
 exact⟨_,fun s v=>hb _ _ _ _ _ _ s v,fun base _ _ B=>ok base _ B (W9 (st:=st) lk cc kk)⟩
theorem walkTs{l:PySem.W.OpenLaw}{q:Program}{loose:List Str}{XP:(Str->Option Value)->Heap->Prop}{d:DefRec}{K:Params->ub}{as:List Addr}{e:∀p,as=(K p).map (·.1)}{Ts:List Addr}{k:Nat}(hn:l.most=some 63)(hr:Room k callerA)(hdf:d.params.defaults=[])(hnm:d.name="law")
  (hc:∀p,∀T∈Ts,∃c,U7 (K p) c T=true) (hTK:∀p,∀T∈Ts,(K p).lookup T=none)
  (F:∀(w:World)(mg:Str->Option Value)(fa:Addr)(h:Heap),(K w.params).In h->h.Ns mainGlobals mg->mg "law"=some (.ref fa)->∃fd:FuncData,(∀(s:Shared)(u:Value),BindsTo s fd ⟨[u],[]⟩ [("_law_script",u)])/\∀base:Heap,(K w.params).In base->base.Ns mainGlobals mg->BMn mg base->FnOk l.prog w (K w.params) mg base CX0 k fa fd ["_law_script"] (ww (K w.params) Ts)) :
  PySem.W.WalkO q loose XP (PySem.W.kmHook K as e Ts).says l.row.toRowW d [] (fun f vs=>PySem.call f vs):=by
 refine Att.attach_call hn hdf fun w s₀ s₁ mg mb fa o pm cd doc a vs ns G Y ho hd hcd hmg hobj hints hlen hg=>?_
 have KX:=PySem.W.km_in_of Y
 have hT:∀T∈Ts,_:=fun T hm=>PySem.W.km_tabs_of Y T hm
 obtain⟨fd,hb,hF⟩:=F w mg fa _ KX G.T.g (by rw[hnm]at hmg;exact hmg)
 have hTc:∀T∈Ts,isCodeTable s₁.heap T:=fun T hm=>by
  obtain⟨c,hc⟩:=hc w.params T hm
  obtain⟨o1,vs1,_,_,_,_,_,_,_,c1,c2,c3,c4,_⟩:=PySem.W.codeHd_of_K KX hc
  exact⟨c,o1,vs1,c1,c2,c3,c4⟩
 exact Xb KX hT (hTK w.params) hTc G.T.g G.T.b G.T.builtins G.T.nolimit G.T.bmain hg hobj hints (Uc hlen (by decide)) hr hF hb (fun H hO hS=>⟨a,ns,rfl,hS,hlen,hO,fun _=>rfl⟩) fun _ _ _ z=>z
end L2
namespace GN
open PySem L2 K11
theorem Tbs.nl{T1 T2:Addr}{H H':Hp}(h:Tbs T1 T2 H)(n:∀{b:Addr}{u:HO},H b=some u->(∀xs,u≠.lst xs)->H' b=some u):Tbs T1 T2 H' :=
 ⟨h.t1.keep (fun ps e=>n e (by intro _ z;cases z)) fun c q e=>n e (by intro _ z;unfold CodO at z;cases z),h.t2.keep (fun ps e=>n e (by intro _ z;cases z)) fun c q e=>n e (by intro _ z;unfold CodO at z;cases z)⟩
theorem Tbs.kp{T1 T2 st B:Addr}{K:ub}{H H':Hp}(h:Tbs T1 T2 H)(S:Sta K H st B)(k:Kp st H H'):Tbs T1 T2 H':=by
 obtain⟨a,ns,i,hst,_⟩:=S
 exact h.nl fun{b u} e n=>k.k b u (fun z=>by rw[z,hst]at e;exact n _ (uO.inj e).symm) e
theorem Xc{H:Hp}{a b:Addr}{rows:List Rw}{ps ps':List Addr}(ha:H a=some (.lst (ps.map V.ref)))(hb:H b=some (.lst (ps'.map V.ref)))(h:RowsAt H rows ps)(h':RowsAt H rows ps'):Sme 4 H (.ref a) (.ref b):=by
 refine .inr ⟨a,b,_,_,rfl,rfl,.inl ⟨ha,hb⟩,?_,fun i u v hu hv=>?_⟩
 ·rw[ua,ua,<- All2.len h,<- All2.len h']
 rw[ue]at hu hv
 obtain⟨t,ht,rfl⟩:=uh.mp hu
 obtain⟨t',ht',rfl⟩:=uh.mp hv
 obtain⟨r,h1,q,h2,h3⟩:=All2.get h ht
 obtain⟨r',h1',q',h2',h3'⟩:=All2.get h' ht'
 rw[h1]at h1'
 cases h1'
 refine .inr ⟨t,t',_,_,rfl,rfl,.inr ⟨h2,h2'⟩,rfl,fun j u v hu hv=>?_⟩
 match j,hu,hv with
 |0,hu,hv=>cases hu;cases hv;exact .inl ⟨rfl,rfl⟩
 |1,hu,hv=>cases hu;cases hv;exact .inl ⟨rfl,rfl⟩
 |2,hu,hv =>
  cases hu
  cases hv
  have fl:∀{xs:List V},xs.all yh=true->∀(i:Nat) u v,xs[i]?=some u->xs[i]?=some v->Sme 1 H u v:=fun{xs} hf i u v hu hv=>by
   rw[hu]at hv
   cases hv
   exact .inl ⟨Uf.mp hf _ (uq hu),rfl⟩
  cases hy:r.y with
  |own s =>
   rw[hy]at h3 h3'
   exact .inr ⟨q,q',_,_,rfl,rfl,.inr ⟨h3,h3'⟩,rfl,fl rfl⟩
  |called g k =>
   rw[hy]at h3 h3'
   exact .inr ⟨q,q',_,_,rfl,rfl,.inr ⟨h3,h3'⟩,rfl,fl rfl⟩
section
variable{P:Program}{w:World}{K:ub}{mg:Str->Option Value}{base:Heap}{f:Addr}{fd:FuncData}
theorem scLaw:FnScope ["_law_script","_law_state","_law_world_here","_law_program_here","_law_rows","_law_before","_law_row","_law_copied"] ["_law_script"] (zo sLaw):=.ok
theorem zcQ{T1 T2:Addr}(F:Fun K "law" "law" sLaw f fd)(GW:Ca P w K mg base CX0 3 "_law_world" ["_law_state"] (XD K))(GP:Ca P w K mg base CX0 (8+2*6) "_law_program" lS9 (ju K 6))(GI:Ca P w K mg base CX0 20 "_law_with_laid" lS13 (J1 K))(GR:Ca P w K mg base CX0 12 "reasons" ["program"] (jH T1 T2))(GG:Ca P w K mg base CX0 ((1+11)+1+1+1+1) "_law_row_good" lS18 (J2 11))(m_list:mg "list"=none)(m_isinstance:mg "isinstance"=none):FnOk P w K mg base CX0 21 f fd ["_law_script"] (ww K [T2,T1]):=by
 refine F.by scLaw (fun vs H Q E h=>?_) (fun cdv A outer s H vs Q E hr h=>?_)
 ·obtain⟨a,ns,rfl,_⟩:=h
  rfl
 obtain⟨a,ns,rfl,hS,h63,hTs,q⟩:=h
 have hr1:Room 1 _:=hr.mono (by decide)
 have hr3:Room 3 _:=hr.mono (by decide)
 have hr12:Room 12 _:=hr.mono (by decide)
 have hrG:Room ((1+11)+1+1+1+1) _:=hr.mono (by decide)
 have hr22:Room (8+2*6) _:=hr.mono (by decide)
 refine⟨_,
  (zg (sE 1 scLaw.nd (zB (jA2 (jv 0) zj)))
  (zg (sE 2 scLaw.nd (cA GW hr3 (jA1 (jv 1))))
  (zg (sE 3 scLaw.nd (cA GI hr (jA3 (jv 1) (jv 2) (cA GP hr22 (jA3 (jv 1) (jv 2) zj)))))
  (zg (sE 4 scLaw.nd (cA GR hr12 (jA1 (jv 3))))
  (zg (zy (wA (yI (yJ yZ rfl m_isinstance UJ (jA2 (jv 4) (xW (v:=.ty "list") rfl m_list Tf rfl)))))
   (zh (zq yt))  zt)
  (zg (sE 5 scLaw.nd (zB zE))
  (zg (zK PassesOwn.never rfl (zG (jv 4)) (gN 6 scLaw.nd)
   (zg (zy (wA (yI (cA GG hrG (jA3 (jv 3) (jv 6) (jv 5)))))
    (zh (zq yt))  zt)
   (zh (zD (yu uz uI uJ zH (jv 5) (jA1 (yo xC (jv 6) yE (yF zj))))))))
  (zg (sE 7 scLaw.nd (yy YC rfl m_list Tf (jA1 (jv 4))))
  (zg (zD (yu uz uI uJ zH (jv 4) (jA1 (yo w4 (jv 4) yE (yF zj)))))
  (zh (zq (xa (zcH (n:=4) (by decide) hr1) (cA GR hr12 (jA1 (jv 3))) (jv 7) (wy _))))))))))))),?_⟩
 have sl:=zF
 have LM:LIM=4611686018427387904:=rfl
 have cb:CB 6=109200:=rfl
 have sz6:SZ 6=14560:=rfl
 refine cut4 fun r1_ hr1_=>?_
 refine⟨_,rfl,sN2,fun st h1=>?_⟩
 have S1:Sta K (upd H st (.lst [.ref a,.int ((0:Nat):Int)])) st 0:=by
  refine⟨a,ns,0,upd_same,fun e=>?_,(zn h1 _).seq hS,ud _⟩
  rcases hS with(h|⟨o,h⟩)|h
  ·exact absurd e (zk h h1)
  ·exact absurd e (zk h h1)
  ·exact fun _=>.inr h
 have T1':Tbs T1 T2 (upd H st (.lst [.ref a,.int ((0:Nat):Int)])):=⟨.empty (old h1 (hTs T1 (.tail _ (.head _)))),.empty (old h1 (hTs T2 (.head _)))⟩
 show(tSeq _ _:TS) _ _ (upd H st (.lst [.ref a,.int ((0:Nat):Int)]))
 generalize upd H st (.lst [.ref a,.int ((0:Nat):Int)])=H1 at *
 refine⟨_,rfl,st,0,rfl,S1,by lia,fun H2 w0 o k2 S2 hW=>?_⟩
 refine⟨_,rfl,_,rfl,_,rfl,_,rfl,st,w0,_,4,o,rfl,S2,by lia,hW,by decide,by decide,fun H3 p0 pk pd p1 p2 t1 t2 ds dfs0 k3 S3 hp _ _ _ _ _ hpd hFs hdl hok hnm=>?_⟩
 have T3:=(T1'.kp S1 k2).kp S2 k3
 refine⟨st,w0,p0,pk,pd,ds,_,o,dfs0,rfl,S3,by lia,hW.kp S2 k3,hp,hpd,hFs,⟨hFs.len.trans hdl,hnm,fun d hd=>by
  obtain⟨⟨a,b,c⟩,e⟩:=hok d hd
  exact⟨a,by lia,by lia,e⟩⟩,fun H4 p dfs k4 S4 P4 N4=>?_⟩
 have T4:=T3.kp S3 k4
 have hR:=N4.prr (by decide)
 have hN:=N4.nd
 clear k2 S1 S2 hW T1' T3 k3 S3 hp hpd hFs hdl hok hnm hTs hS k4 S4 N4
 refine⟨_,rfl,p,dfs,rfl,P4,hR.b,T4,fun H5 r ps k5 T5 hr5 hR5=>?_⟩
 have P5:=P4.keep (T4.tups k5)
 have rl:=All2.len hR5
 have rb:=WM dfs
 have bl:=hR.b.l
 subst hr1_
 dsimp only
 refine cut3 fun r2_ hr2_=>?_
 refine⟨_,rfl,_,_,_,_,rfl,.lst hr5,rfl,_,rfl,iteF ?_⟩
 refine⟨sN0,fun lb hlb=>?_⟩
 have s6:=zn (o:=.lst []) hlb
 have hlb6:=upd_same (H:=H5) (a:=lb) (o:=.lst [])
 have nr:r≠lb:=zk hr5 hlb
 generalize upd H5 lb (.lst [])=H6 at *
 have hr6:=s6 _ _ hr5
 have hR6:=hR5.keep (.of s6)
 have P6:=P5.keep (.of s6)
 have T6:=T5.same s6
 have nlb:∀{b:Addr}{u:HO},H6 b=some u->(∀xs,u≠.lst xs)->b≠lb:=fun{b u} e n z=>by rw[z,hlb6]at e;exact n _ (uO.inj e).symm
 refine⟨_,rfl,r,rfl,⟨_,SqL.of hr6⟩,ym (xs:=ps.map V.ref) (fun i σ H'=>(∀b u,b≠lb->H6 b=some u->H' b=some u)/\(∃ts:List Addr,H' lb=some (.lst (ts.map V.ref))/\RkAt H' ((yj dfs).take i) ts)/\∃v6,σ=[some (.ref a),some (.ref st),some (.ref w0),some (.ref p),some (.ref r),some (.ref lb),v6,none]) ⟨fun _ _ _ h=>h,⟨[],hlb6,.nil⟩,_,rfl⟩ (fun i σ H' _ h=>SqL.of (h.1 _ _ nr hr6)) ?_ ?_⟩
 ·rintro i v σ H7 hv ⟨fx,⟨ts,hlb7,hk⟩,v6,rfl⟩
  rw[ue]at hv
  obtain⟨t,ht,rfl⟩:=uh.mp hv
  obtain⟨rr,hrr,qy,h1,h2⟩:=All2.get hR6 ht
  have tu:Tups H6 H7:=fun b xs e=>fx b _ (nlb e (by intro _ z;cases z)) e
  have hi:=(uc.mp hrr).1
  have kl:=All2.len hk
  rw[uN]at kl
  show(tSeq _ _:TS) _ _ _
  refine cutD (fun D_ fin=>?_) (fun _ _ h=>h)
  refine⟨_,rfl,_,rfl,_,rfl,p,t,lb,dfs,i,rr,qy,ts,rfl,P6.keep tu,hR,hN,hrr,tu _ _ h1,h2.keep tu,hlb7,hk,fun H8 s8=>⟨_,rfl,iteF ?_⟩⟩
  have hlb8:=s8 _ _ hlb7
  refine⟨_,rfl,.inl ⟨rfl,_,SqL.of hlb8⟩,_,rfl,_,rfl,t,_,rfl,s8 _ _ (tu _ _ h1),fun p9 H9 s9 hp9=>?_⟩
  have s9:Same H8 H9:=s9
  rw[show cutV [V.str rr.z,V.int ((rr.k:Nat):Int),V.ref qy] none (some 2)=[V.str rr.z,V.int ((rr.k:Nat):Int)]from rfl]at hp9
  have hlb9:=s9 _ _ hlb8
  have tu9:Tups H9 (upd H9 lb (.lst (ts.map V.ref++[.ref p9]))):=fun b xs e=>by rw[zi (yN e hlb9 (by intro z;cases z))];exact e
  refine⟨lb,_,_,rfl,rfl,hlb9,by rw[ua];lia,fin _ _ ⟨fun b u n e=>by rw[zi n];exact s9 _ _ (s8 _ _ (fx b u n e)),⟨ts++[p9],by rw[upd_same,ut];rfl,?_⟩,_,rfl⟩⟩
  rw[uw,hrr]
  exact All2.app (((hk.keep (.of s8)).keep (.of s9)).keep tu9) (.cons (tu9 _ _ hp9) .nil)
 rintro σ H7 ⟨fx,-,v6,rfl⟩
 have tu:Tups H6 H7:=fun b xs e=>fx b _ (nlb e (by intro _ z;cases z)) e
 have T7:Tbs T1 T2 H7:=T6.nl fun{b u} e n=>fx b u (nlb e n) e
 have hr7:=fx _ _ nr hr6
 subst hr2_
 dsimp only
 refine⟨_,rfl,r,_,rfl,.inl (SqL.of hr7),fun lc hlc=>?_⟩
 have s8:=zn (o:=.lst (ps.map V.ref)) hlc
 have hlc8:=upd_same (H:=H7) (a:=lc) (o:=.lst (ps.map V.ref))
 have nc:lc≠r:=(zk hr7 hlc).symm
 generalize upd H7 lc (.lst (ps.map V.ref))=H8 at *
 have hr8:=s8 _ _ hr7
 refine⟨_,rfl,.inl ⟨rfl,_,SqL.of hr8⟩,_,rfl,_,rfl,_,_,rfl,SqL.of hr8,fun pc hpc=>?_⟩
 have s9:=zn (o:=.lst (cutV (ps.map V.ref) none (some 1))) hpc
 generalize upd H8 pc (.lst (cutV (ps.map V.ref) none (some 1)))=H9 at *
 have hr9:=s9 _ _ hr8
 refine⟨r,_,_,rfl,rfl,hr9,by rw[ua];lia,?_⟩
 have nfr:∀{b:Addr}{u:HO},H9 b=some u->(∀xs,u≠.lst xs)->upd H9 r (.lst (ps.map V.ref++[.ref pc])) b=some u:=fun{b u} e n=>by
  rw[zi (fun z=>by rw[z,hr9]at e;exact n _ (uO.inj e).symm)]
  exact e
 have T10:Tbs T1 T2 (upd H9 r (.lst (ps.map V.ref++[.ref pc]))):=((T7.same s8).same s9).nl nfr
 have tu10:Tups H9 (upd H9 r (.lst (ps.map V.ref++[.ref pc]))):=fun b xs e=>nfr e (by intro _ z;cases z)
 have hlc10:upd H9 r (.lst (ps.map V.ref++[.ref pc])) lc=some (.lst (ps.map V.ref)):=by rw[zi nc];exact s9 _ _ hlc8
 have tu610:Tups H6 (upd H9 r (.lst (ps.map V.ref++[.ref pc]))):=((tu.trans (.of s8)).trans (.of s9)).trans tu10
 have P10:=P6.keep tu610
 have hR10:=hR6.keep tu610
 generalize upd H9 r (.lst (ps.map V.ref++[.ref pc]))=H10 at *
 refine⟨_,rfl,p,dfs,rfl,P10,hR.b,T10,fun H11 r2 ps2 k11 T11 hr11 hR11=>?_⟩
 exact⟨_,rfl,r2,lc,rfl,rfl,Xc hr11 (T10.lst k11 hlc10) hR11 (hR10.keep (T10.tups k11)),q _⟩
end
structure TopK(K:ub)(cB cU:Addr):Prop where
 q6:OwnIn K "Begun" cB
 qk:u9 K (.ref cB) "within"=some none
 ql:u9 K (.ref cB) "finish"=some none
 qe:u9 K (.ref cB) "results"=some none
 qac:OwnIn K "Uses" cU
 qo:u9 K (.ref cU) "handed"=some none
 qs:u9 K (.ref cU) "found"=some none
 qt:u9 K (.ref cU) "calls"=some none
 q7:DcIn K "noted" wC 93
 qu:DcIn K "begun_note" y8 98
 hc1:U7 K 93 89=true
 hc2:U7 K 98 96=true
 q2:DfIn K "ways_on" VE
 qb:MeIn K cB "__init__" "Begun.__init__" YD
 qV:DfIn K "only_one" VF
 qv:DfIn K "worked_out" j8
 q3:DfIn K "bits_of" VG
 qW:DfIn K "together" sTog
 qX:DfIn K "names_of" vC
 qw:DfIn K "names_used" xN
 q4:DfIn K "note_of" j9
 q8:DfIn K "ahead" YE
 qf:DfIn K "bodies_within" yX
 qG:DfIn K "bodies_in" wD
 q9:DfIn K "makes" YG
 qg:DfIn K "arm_uses_anew" vH
 qH:DfIn K "uses_anew" wG
 qh:MeIn K cU "__init__" "Uses.__init__" YF
 qa:MeIn K cU "add_reason" "Uses.add_reason" xO
 qi:MeIn K cU "add_call" "Uses.add_call" vF
 qI:DfIn K "note_deed" wF
 qJ:DfIn K "note_body" wE
 qY:DfIn K "all_uses" vG
 qZ:DfIn K "own_rows" vE
 q5:DfIn K "reasons" vD
 qK:DfIn K "_law_draw" VH
 qL:DfIn K "_law_name" sNm
 qx:DfIn K "_law_sorts" YH
 qy:DfIn K "_law_world" YI
 qz:DfIn K "_law_kinds" YJ
 qM:DfIn K "_law_pick" VI
 qA:DfIn K "_law_picks" YK
 qp:DfIn K "_law_handed" Za
 qN:DfIn K "_law_deed" VJ
 qB:DfIn K "_law_rooms" YL
 qO:DfIn K "_law_case" VL
 qP:DfIn K "_law_body" Xy
 q0:DfIn K "_law_def" sDef
 qm:DfIn K "_law_program" vI
 qC:DfIn K "_law_other" YM
 qc:DfIn K "_law_last_make" wH
 qQ:DfIn K "_law_fork" VM
 qR:DfIn K "_law_laid" Xz
 qd:DfIn K "_law_with_laid" wI
 qq:DfIn K "_law_pieces" w6
 qD:DfIn K "_law_deeds" YN
 qS:DfIn K "_law_says" VN
 qT:DfIn K "_law_anew" YO
 qn:DfIn K "_law_by_func" Zb
 qr:DfIn K "_law_direct" Zc
 qE:DfIn K "_law_calls" YQ
 qj:DfIn K "_law_row_good" vJ
 qaf:DfIn K "law" sLaw
 qag:Up K mainGlobals "len"=some none
 qaa:Up K mainGlobals "range"=some none
 qad:Up K mainGlobals "list"=some none
 qab:Up K mainGlobals "tuple"=some none
 qah:Up K mainGlobals "zip"=some none
 qai:Up K mainGlobals "max"=some none
 qaj:Up K mainGlobals "any"=some none
 q1:Up K mainGlobals "reversed"=some none
 qU:Up K mainGlobals "enumerate"=some none
 qF:Up K mainGlobals "isinstance"=some none
 qak:Up K mainGlobals "int"=some none
 qae:Up K mainGlobals "bool"=some none
theorem top_ok{l:PySem.W.OpenLaw}{w:World}{K:ub}{h:Heap}{mg:Str->Option Value}{fa cB cU:Addr}(T:TopK K cB cU)(X:K.In h)(G:h.Ns mainGlobals mg)(hfa:mg "law"=some (.ref fa)):
  ∃fd:FuncData,(∀(s:Shared)(u:Value),BindsTo s fd ⟨[u],[]⟩ [("_law_script",u)])/\∀base:Heap,K.In base->base.Ns mainGlobals mg->BMn mg base->FnOk l.prog w K mg base CX0 21 fa fd ["_law_script"] (ww K [96,89]):=by
 refine J3 T.qaf X G hfa (fun _ _ _ _ _ _ s v=>.of_eq rfl) fun base fd hBM FL=>?_
 have qag:mg "len"=none:=Uh X G T.qag
 have qaa:mg "range"=none:=Uh X G T.qaa
 have qad:mg "list"=none:=Uh X G T.qad
 have qab:mg "tuple"=none:=Uh X G T.qab
 have qah:mg "zip"=none:=Uh X G T.qah
 have qai:mg "max"=none:=Uh X G T.qai
 have qaj:mg "any"=none:=Uh X G T.qaj
 have q1:mg "reversed"=none:=Uh X G T.q1
 have qU:mg "enumerate"=none:=Uh X G T.qU
 have qF:mg "isinstance"=none:=Uh X G T.qF
 have qak:mg "int"=none:=Uh X G T.qak
 have qae:mg "bool"=none:=Uh X G T.qae
 have n_Begun:mg "Begun"=some (.ref cB):=tY X G T.q6.n
 have n_Uses:mg "Uses"=some (.ref cU):=tY X G T.qac.n
 have BN:Bn K cB:=⟨T.q6.cls,T.qk,T.ql,T.qe⟩
 have UN:Un K cU:=⟨T.qac.cls,T.qo,T.qs,T.qt⟩
 have G1:=DfIn.ca (P:=l.prog) (w:=w) (base:=base) X G T.q2 (ps:=["body"]) (fun _ _ _ _ _ _=>us1 fun _=>rfl) fun f fd F=>QZ F
 have GB:=T.qb.ma (P:=l.prog) (w:=w) (mg:=mg) (base:=base) (x:="Begun") (ps:=lS22) (fun _ _ _ _ _ _=>us3 fun _ _ _=>rfl) T.q6.mks T.q6.kp n_Begun fun f fd F=>V9 F BN
 have GO:=DfIn.ca (P:=l.prog) (w:=w) (base:=base) X G T.qV (ps:=["results"]) (fun _ _ _ _ _ _=>us1 fun _=>rfl) fun f fd F=>Q9 F
 obtain⟨fo,fdo,GO1,GO2,GO3,GO4⟩:=GO.ex
 have GW:=DfIn.ca (P:=l.prog) (w:=w) (base:=base) X G T.qv (ps:=["task","begin"]) (fun _ _ _ _ _ _=>us2 fun _ _=>rfl) fun f fd F=>Wu (k:=4) F BN GB GO1 GO2 GO3 GO4 qag (by decide)
 have GBi:=DfIn.ca (P:=l.prog) (w:=w) (base:=base) X G T.q3 (ps:=["names"]) (fun _ _ _ _ _ _=>us1 fun _=>rfl) fun f fd F=>zad F
 have GT:=DfIn.ca (P:=l.prog) (w:=w) (base:=base) X G T.qW (ps:=["names","bits"]) (fun _ _ _ _ _ _=>us2 fun _ _=>rfl) fun f fd F=>zcq F
 have GNo:=DfIn.ca (P:=l.prog) (w:=w) (base:=base) X G T.qX (ps:=["deed"]) (fun _ _ _ _ _ _=>us1 fun _=>rfl) fun f fd F=>YX F
 have GU:=DfIn.ca X G T.qw (ps:=["body"]) (fun _ _ _ _ _ _=>us1 fun _=>rfl) fun f fd F=>zae F GNo
 have GNt:=DfIn.ca X G T.q4 (ps:=lS17) (fun _ _ _ _ _ _=>us4 fun _ _ _ _=>rfl) fun f fd F=>Wz F GT GU qah
 have GBn:=DcIn.ca (P:=l.prog) (w:=w) (base:=base) X G T.qu (ps:=lS20) (fun _ _ _ _ _=>us2 fun _ _=>rfl) fun f fd F=>YY F hBM T.hc2 G1
 have GNd:=DcIn.ca (P:=l.prog) (w:=w) (base:=base) X G T.q7 (ps:=lS20) (fun _ _ _ _ _=>us2 fun _ _=>rfl) fun f fd F=>Jm F hBM T.hc1 (by decide) GBn GNt GW
 have GA:=DfIn.ca X G T.q8 (ps:=["body","names"]) (fun _ _ _ _ _ _=>us2 fun _ _=>rfl) fun f fd F=>Jn F GNd GBi
 have HW:=DfIn.ca X G T.qf (ps:=["body"]) (fun _ _ _ _ _ _=>us1 fun _=>rfl) fun f fd F=>Y0 F G1
 have HI:=DfIn.ca X G T.qG (ps:=["body"]) (fun _ _ _ _ _ _=>us1 fun _=>rfl) fun f fd F=>zcw F HW qag q1
 have HM:=DfIn.ca (P:=l.prog) (w:=w) (base:=base) X G T.q9 (ps:=["body","many"]) (fun _ _ _ _ _ _=>us2 fun _ _=>rfl) fun f fd F=>Ju F qag
 have HA:=DfIn.ca X G T.qg (ps:=["name","arm"]) (fun _ _ _ _ _ _=>us2 fun _ _=>rfl) fun f fd F=>zam F GA HI HM qag qaj
 have HN:=DfIn.ca X G T.qH (ps:=["body"]) (fun _ _ _ _ _ _=>us1 fun _=>rfl) fun f fd F=>zan F HA qaj
 have HU:=T.qh.ma (P:=l.prog) (w:=w) (mg:=mg) (base:=base) (x:="Uses") (ps:=["self"]) (fun _ _ _ _ _ _=>us1 fun _=>rfl) T.qac.mks T.qac.kp n_Uses fun f fd F=>JA F UN
 have HR:=T.qa.me (P:=l.prog) (w:=w) (mg:=mg) (base:=base) (ps:=lS12) (fun _ _ _ _ _ _=>us4 fun _ _ _ _=>rfl) fun f fd F=>zaq (T1:=89) (T2:=96) F UN
 have HC:=T.qi.me (P:=l.prog) (w:=w) (mg:=mg) (base:=base) (ps:=lS25) (fun _ _ _ _ _ _=>us3 fun _ _ _=>rfl) fun f fd F=>zar (T1:=89) (T2:=96) F UN qU
 have HD:=DfIn.ca (P:=l.prog) (w:=w) (base:=base) X G T.qI (ps:=lS26) (fun _ _ _ _ _ _=>us3 fun _ _ _=>rfl) fun f fd F=>JB F UN HR HC
 have HB:=DfIn.ca X G T.qJ (ps:=lS23) (fun _ _ _ _ _ _=>us3 fun _ _ _=>rfl) fun f fd F=>JD F UN HR HD HN
 have HL:=DfIn.ca X G T.qY (ps:=["program"]) (fun _ _ _ _ _ _=>us1 fun _=>rfl) fun f fd F=>zau F UN HU HI HB qU
 have HO:=DfIn.ca (P:=l.prog) (w:=w) (base:=base) X G T.qZ (ps:=["program","uses"]) (fun _ _ _ _ _ _=>us2 fun _ _=>rfl) fun f fd F=>zcC (T1:=89) (T2:=96) F UN qaa qag
 have HS:=DfIn.ca X G T.q5 (ps:=["program"]) (fun _ _ _ _ _ _=>us1 fun _=>rfl) fun f fd F=>Y6 F UN HL HO qag
 have LD:=DfIn.ca (P:=l.prog) (w:=w) (base:=base) X G T.qK (ps:=lS2) (fun _ _ _ _ _ _=>us2 fun _ _=>rfl) fun f fd F=>QP F qag
 have LN:=DfIn.ca (P:=l.prog) (w:=w) (base:=base) X G T.qL (ps:=lS4) (fun _ _ _ _ _ _=>us2 fun _ _=>rfl) fun f fd F=>zc9 F
 have LS:=DfIn.ca X G T.qx (ps:=lS14) (fun _ _ _ _ _ _=>us3 fun _ _ _=>rfl) fun f fd F=>VP F LD qaa
 have LW:=DfIn.ca X G T.qy (ps:=["_law_state"]) (fun _ _ _ _ _ _=>us1 fun _=>rfl) fun f fd F=>VR F LD LN LS qaa
 have LK:=DfIn.ca (P:=l.prog) (w:=w) (base:=base) X G T.qz (ps:=["_law_world_here"]) (fun _ _ _ _ _ _=>us1 fun _=>rfl) fun f fd F=>VY F qag qab
 have LP:=DfIn.ca X G T.qM (ps:=lS6) (fun _ _ _ _ _ _=>us3 fun _ _ _=>rfl) fun f fd F=>QS F LD qag
 have LQ:=DfIn.ca X G T.qA (ps:=lS7) (fun _ _ _ _ _ _=>us3 fun _ _ _=>rfl) fun f fd F=>VS F LP qab
 have LH:=DfIn.ca X G T.qp (ps:=lS19) (fun _ _ _ _ _ _=>us3 fun _ _ _=>rfl) fun f fd F=>Wp F LD LQ qag qaa qai
 have LE:=DfIn.ca X G T.qN (ps:=lS8) (fun _ _ _ _ _ _=>us4 fun _ _ _ _=>rfl) fun f fd F=>QV F LD LP LQ LH
 have LR:=DfIn.ca X G T.qB (ps:=lS16) (fun _ _ _ _ _ _=>us3 fun _ _ _=>rfl) fun f fd F=>VW F LD qaa
 have LB:∀n:Nat,Ca l.prog w K mg base CX0 (6+2*n) "_law_body" lS1 (wJ K n):=by
  intro n
  induction n with
  |zero=>exact DfIn.ca (P:=l.prog) (w:=w) (base:=base) X G T.qP (ps:=lS1) (fun _ _ _ _ _ _=>us6 fun _ _ _ _ _ _=>rfl) fun f fd F=>VX F
  |succ n ih =>
   have LC:=DfIn.ca (P:=l.prog) (w:=w) (base:=base) X G T.qO (ps:=lS1) (fun _ _ _ _ _ _=>us6 fun _ _ _ _ _ _=>rfl) fun f fd F=>QX (n:=n) F LD LN LP LR ih qag qaa qah qad qab
   exact DfIn.ca (P:=l.prog) (w:=w) (base:=base) X G T.qP (ps:=lS1) (fun _ _ _ _ _ _=>us6 fun _ _ _ _ _ _=>rfl) fun f fd F=>QY F LD LN LP LR LE LC ih
 have LF:=DfIn.ca X G T.q0 (ps:=lS10) (fun _ _ _ _ _ _=>us4 fun _ _ _ _=>rfl) fun f fd F=>zcf F LN (LB 6) qag qaa qah qad qab
 have LG:=DfIn.ca X G T.qm (ps:=lS9) (fun _ _ _ _ _ _=>us3 fun _ _ _=>rfl) fun f fd F=>YT F LK LF qaa qab
 have LOt:=DfIn.ca X G T.qC (ps:=lS11) (fun _ _ _ _ _ _=>us3 fun _ _ _=>rfl) fun f fd F=>JV F LD qag
 have LLm:=DfIn.ca X G T.qc (ps:=lS3) (fun _ _ _ _ _ _=>us6 fun _ _ _ _ _ _=>rfl) fun f fd F=>Yi F LD LN LOt qag qab
 have LLa:∀n:Nat,Ca l.prog w K mg base CX0 (3+2*n) "_law_laid" lS0 (wP K n):=by
  intro n
  induction n with
  |zero=>exact DfIn.ca (P:=l.prog) (w:=w) (base:=base) X G T.qR (ps:=lS0) (fun _ _ _ _ _ _=>us7 fun _ _ _ _ _ _ _=>rfl) fun f fd F=>JZ F
  |succ n ih =>
   have LFk:=DfIn.ca (P:=l.prog) (w:=w) (base:=base) X G T.qQ (ps:=lS0) (fun _ _ _ _ _ _=>us7 fun _ _ _ _ _ _ _=>rfl) fun f fd F=>zaM (n:=n) F LD LN LOt ih qag qaa qah qad qab qU
   exact DfIn.ca (P:=l.prog) (w:=w) (base:=base) X G T.qR (ps:=lS0) (fun _ _ _ _ _ _=>us7 fun _ _ _ _ _ _ _=>rfl) fun f fd F=>zaL F LD LN LOt LLm LFk ih qag
 have LWl:=DfIn.ca X G T.qd (ps:=lS13) (fun _ _ _ _ _ _=>us3 fun _ _ _=>rfl) fun f fd F=>zaN F LD LN (LLa 8) qag qah qad
 have LPc:∀n:Nat,Ca l.prog w K mg base CX0 (1+n) "_law_pieces" ["_law_body_here"] (yH n):=by
  intro n
  induction n with
  |zero=>exact DfIn.ca (P:=l.prog) (w:=w) (base:=base) X G T.qq (ps:=["_law_body_here"]) (fun _ _ _ _ _ _=>us1 fun _=>rfl) fun f fd F=>Y5 F
  |succ n ih=>exact DfIn.ca (P:=l.prog) (w:=w) (base:=base) X G T.qq (ps:=["_law_body_here"]) (fun _ _ _ _ _ _=>us1 fun _=>rfl) fun f fd F=>WI F ih
 have LDs:=DfIn.ca (P:=l.prog) (w:=w) (base:=base) X G T.qD (ps:=["_law_body_here"]) (fun _ _ _ _ _ _=>us1 fun _=>rfl) fun f fd F=>JL F (LPc 11)
 have LSy:=DfIn.ca (P:=l.prog) (w:=w) (base:=base) X G T.qS (ps:=lS5) (fun _ _ _ _ _ _=>us2 fun _ _=>rfl) fun f fd F=>zaC F (LPc 11)
 have LAn:=DfIn.ca X G T.qT (ps:=lS5) (fun _ _ _ _ _ _=>us2 fun _ _=>rfl) fun f fd F=>JN F (LPc 11) LDs LSy qag
 have LBf:=DfIn.ca X G T.qn (ps:=lS21) (fun _ _ _ _ _ _=>us2 fun _ _=>rfl) fun f fd F=>zcN F LDs
 have LDi:=DfIn.ca X G T.qr (ps:=lS15) (fun _ _ _ _ _ _=>us3 fun _ _ _=>rfl) fun f fd F=>WL F (LPc 11) LDs LBf LAn
 have LCa:=DfIn.ca X G T.qE (ps:=lS24) (fun _ _ _ _ _ _=>us2 fun _ _=>rfl) fun f fd F=>JU F LDs qaa qag
 have LGo:=DfIn.ca X G T.qj (ps:=lS18) (fun _ _ _ _ _ _=>us3 fun _ _ _=>rfl) fun f fd F=>zaS (n:=11) F LDi LCa qag qab qak qae qF
 exact zcQ FL LW LG LWl HS LGo qad qF
end GN
namespace PySem.W.Fast
def tw14175707612427693446:=()
def tw9900390425422450261:=()
def tw9073360443051263691:=()
def tw7460497686745293732:=()
def tw14860964194673138485:=()
def tw14445986076172784363:=()
def tw1941665366943208698:=()
def tw11765811468701597797:=()
def tw17810555869545756548:=()
def tw13566009060321209133:=()
def tw15599762579731537299:=()
def tw14216163348360839697:=()
def tw4410625559223053785:=()
def tw14594594872452616222:=()
def tw6908403114187786733:=()
def tw17605311908440309678:=()
def tw11192838675499068729:=()
def tw6445053975154989331:=()
def tw16031062142992029639:=()
def tw4940106882443861765:=()
def tw5820703247887506715:=()
def tw16055992593302147148:=()
def tw13746889980522228508:=()
def tw14412558920895588136:=()
def tw311666573001827629:=()
def tw10127301539695032378:=()
def tw7060217822591920322:=()
def tw7723773228710428102:=()
def tw5392655198046240906:=()
def tw9317145539318649263:=()
def tw10427539727118759686:=()
def tw9047476450880234959:=()
def tw17507590598429374506:=()
def tw5904031686900037734:=()
def tw15149050512533581819:=()
def tw9324682198780302539:=()
def tw3691032821033562399:=()
def tw4695980887380440685:=()
def tw15701844820927576277:=()
def tw2782390621893426361:=()
def tw2346981885732283973:=()
def tw15948672458847574277:=()
def tw15339597126588784684:=()
def tw11495327313295815597:=()
def tw11508640434249532995:=()
def tw7988174495423327055:=()
def tw9613158561636570892:=()
def tw9600981777216512131:=()
def tw3294405902251731045:=()
def tw11178058006967658221:=()
def tw9341840123247024792:=()
def tw680747223776330821:=()
def tw16676922556184199506:=()
def tw3042679166883031545:=()
def tw12002883098013560416:=()
def tw10995318615814717878:=()
def tw186414664356627012:=()
def tw7130226765528811528:=()
def tw5005804927848938084:=()
def tw4526020910448540249:=()
def tw3676110896504107321:=()
def tw5626007358166277101:=()
def tw4497303379053756844:=()
def tw4971650658155630748:=()
def tw3585541971639028297:=()
def tw11632643971536544985:=()
def tw9872817292437856172:=()
def tw16410678634927523664:=()
def tw8985475295558938710:=()
def tw15403301878555802297:=()
def tw15655597339738005388:=()
def tw5283846859971373360:=()
def tw9701691834551220068:=()
def tw236563432278486686:=()
def tw4467220532716057533:=()
def tw9646153785261890663:=()
def tw13231665711817297874:=()
def tw5772767599030433246:=()
def tw9139564666380312530:=()
def tw3700895263677119117:=()
def tw8811542007059488178:=()
def tw15174036371586183320:=()
def tw12144171675864932708:=()
def tw6044316213604906769:=()
def tw16916710367998636092:=()
def tw17396376410528389832:=()
def tw18276342815935164430:=()
def tw15082550608226726247:=()
def tw8503240396229497644:=()
def tw12886690430080793007:=()
def tw15355404147653936386:=()
def tw4750808332316109703:=()
def tw15008295721799835241:=()
def tw890184128975376182:=()
def tw14063725687986432062:=()
def tw12765196491860953906:=()
def tw3565412262674915835:=()
def tw9308011738612134024:=()
def tw10589627965090239776:=()
def tw13832439048741973577:=()
def tw4099190794517160651:=()
def tw9282783525760352549:=()
def tw11207468075160741230:=()
def tw2158994564010776599:=()
def tw584545143206456097:=()
def tw14517195736222007628:=()
def tw1781652235161622488:=()
def tw894588367017423830:=()
def tw10814649366720210958:=()
def tw6238404135074148321:=()
def tw17690983015423427752:=()
def tw565396311304910885:=()
def tw2779774239900280327:=()
def tw5560252210099177909:=()
def tw17836421927692753263:=()
def tw11140769793883185501:=()
def tw4826321996742500510:=()
def tw9310390445281914159:=()
def tw3004246132472618148:=()
def tw3898648337103220553:=()
def tw6056701992732195107:=()
def tw13422999839325144765:=()
def tw4259983846771529960:=()
def tw17731990430577479867:=()
def tw6027256499408653802:=()
def tw17004695207502180870:=()
def tw11507752995111607222:=()
def tw17162847241506055085:=()
def tw3470866191481249593:=()
def tw7462191139842453496:=()
def tw17923288444159983177:=()
def tw16067321786002315673:=()
def tw11588497733397018012:=()
def tw2056717167753741268:=()
def tw18399156844513891418:=()
def tw10423933403158338762:=()
def tw75785314517476687:=()
def tw1971823470162678218:=()
def tw11533855625127325423:=()
def tw7548919048573336083:=()
def tw2882542805719645546:=()
def tw4970426847983963031:=()
def tw13192796498561656018:=()
def tw2791557010516412783:=()
def tw5078845588628258023:=()
def tw7955623959167383526:=()
def tw7495659808285536748:=()
def tw10550000689003006087:=()
def tw2142631857369767882:=()
def tw3033273350313021379:=()
def tw14022178995571848773:=()
def tw15660350782663752276:=()
def tw123426876237679539:=()
def tw17439687882401441523:=()
def tw6030625420449265840:=()
def tw14557462254690132075:=()
def tw14230333237410200365:=()
def tw11706801937552537179:=()
def tw4398431221537279773:=()
def tw16304161951692545722:=()
def tw8761286269644410171:=()
def tw18177897999678099838:=()
def tw9071432705044326175:=()
def tw5660582195946933322:=()
def tw11919109787597153475:=()
def tw7082641050617824582:=()
def tw12198918242853856872:=()
def tw8311735835580366317:=()
def tw17910743301031849314:=()
def tw13265373954844223952:=()
def tw13037121419754133504:=()
def tw5415409359818976891:=()
def tw5516422564458265183:=()
def tw5013737095628594208:=()
def tw7295811613095043451:=()
def tw6560173350356746977:=()
def tw11592018538247224595:=()
def tw15333736969821890454:=()
def tw554067660508701976:=()
def tw13262920487794205698:=()
def tw2851227201620536379:=()
def tw13868933424314842919:=()
def tw15047363823647113827:=()
def tw1169071109989373980:=()
def tw8210307529253017988:=()
def tw7480479819805405125:=()
def tw1451542664176608776:=()
def tw2965699061803396201:=()
def tw16381420863257480658:=()
def tw16294064903065673507:=()
def tw11462653143355814754:=()
def tw851343666085949485:=()
def tw6368423400616114433:=()
def tw2134435411126717979:=()
def tw9236418509053729457:=()
def tw14495481566104656057:=()
def tw10710759379474720666:=()
def tw11294629796096017984:=()
def tw17180563601856994964:=()
def tw15849093655962865607:=()
def tw4171485894839848571:=()
def tw12682521664430608903:=()
def tw7026091269471863387:=()
def tw9523402390098150856:=()
def tw10830635834885590905:=()
def tw875127220879583079:=()
def tw2393035115124522119:=()
def tw7417798897116518803:=()
def tw16209665809279802228:=()
def tw13041681675885511650:=()
def tw405460923816204964:=()
def tw2051305243925242910:=()
def tw4296683874467583272:=()
def tw7285789895785314301:=()
def tw408231547878310673:=()
def tw4914482558685229085:=()
def tw610261146347062520:=()
def tw17316467660281805550:=()
def tw2077047338586189847:=()
def tw4523153486553415840:=()
def tw11165718636682408122:=()
def tw3707473439274419488:=()
def tw15321089680517906147:=()
def tw2357918865879776626:=()
def tw3251976750374019560:=()
def tw15802401556668208340:=()
def tw8938616398150114202:=()
def tw13451330351064146788:=()
def tw10717343029795664774:=()
def tw939310056447351804:=()
def tw8074054510777321554:=()
def tw1852716539917081672:=()
def tw15972517666078357262:=()
def tw7750550297811052615:=()
def tw1515251321249718644:=()
def tw8777587779986647488:=()
def tw6810609919204911728:=()
def tw9685884279258448343:=()
end PySem.W.Fast
open PySem PySem.W PyProof.Rows
set_option maxRecDepth 100000 in
set_option maxHeartbeats 0 in
theorem PySem.Challenge.cw_reusewise_k51_reasons_that_are_so_holds : PySem.Challenge.rw_reusewise_k51_reasons_that_are_so.Holds := by
 w_on;o_law;k_head;(case hw=>w_witness2)
 k_fill
 refine L2.walkTs (l:=PySem.Challenge.rw_reusewise_k51_reasons_that_are_so) (k:=21) (Ts:=[96,89]) rfl ⟨rfl,by decide,by decide⟩ rfl rfl (fun p T hT=>by
  simp only[um,UL,or_false]at hT
  rcases hT with rfl|rfl
  ·exact⟨98,rfl⟩
  ·exact⟨93,rfl⟩
  ) (fun p T hT=>by
  simp only[um,UL,or_false]at hT
  rcases hT with rfl|rfl
  ·exact rfl
  ·exact rfl
  ) ?F
 case F =>
  intro w mg fa h KX G hm
  refine' GN.top_ok (GN.TopK.mk ?q6 ?qk ?ql ?qe ?qac ?qo ?qs ?qt ?q7 ?qu ?hc1 ?hc2 ?q2 ?qb ?qV ?qv ?q3 ?qW ?qX ?qw ?q4 ?q8 ?qf ?qG ?q9 ?qg ?qH ?qh ?qa ?qi ?qI ?qJ ?qY ?qZ ?q5 ?qK ?qL ?qx ?qy ?qz ?qM ?qA ?qp ?qN ?qB ?qO ?qP ?q0 ?qm ?qC ?qc ?qQ ?qR ?qd ?qq ?qD ?qS ?qT ?qn ?qr ?qE ?qj ?qaf ?qag ?qaa ?qad ?qab ?qah ?qai ?qaj ?q1 ?qU ?qF ?qak ?qae) KX G hm
  (case q6|qac=>(refine' L2.OwnIn.mk ?n ?pg ?hd ?po ?sa ?mks ?kp;(case n=>k_is);(case pg=>k_is);(case hd=>k_is);(case po=>k_is);(case sa=>k_is);(case mks=>k_is);(case kp=>k_is)))
  (case qk|ql|qe|qo|qs|qt|qag|qaa|qad|qab|qah|qai|qaj|q1|qU|qF|qak|qae=>k_is)
  (case q7|qu=>(refine' L2.DcIn.mk ?a ?l ?c ?k;(case a=>k_is);(case l=>k_is);(case c=>k_is);(case k=>k_is)))
  (case hc1|hc2=>(exact rfl))
  (case q2|qV|qv|q3|qW|qX|qw|q4|q8|qf|qG|q9|qg|qH|qI|qJ|qY|qZ|q5|qK|qL|qx|qy|qz|qM|qA|qp|qN|qB|qO|qP|q0|qm|qC|qc|qQ|qR|qd|qq|qD|qS|qT|qn|qr|qE|qj|qaf=>(refine' L2.DfIn.mk ?a ?l ?c ?k;(case a=>k_is);(case l=>k_is);(case c=>k_is);(case k=>k_is)))
  (case qb|qh|qa|qi=>(refine' L2.MeIn.mk ?a ?l ?c ?k ?n;(case a=>k_is);(case l=>k_is);(case c=>k_is);(case k=>k_is);(case n=>k_is)))
#print axioms PySem.Challenge.cw_reusewise_k51_reasons_that_are_so_holds
