import PyProof.Rows.All
import Wide.All
import OpenK.AllK
import Wide.FinOn
import Lean
import PyProof.EqAt
import PyProof.EqKinds
import PyProof.TupleCall
import PyProof.PassesOwn
import PyProof.StationsW
import OpenK.KCls
import PyProof.ExcAttrAll.ValueError
import PyProof.ExcClass3
import PyProof.WalksEnum
import PyProof.EnumMake
import PyProof.EnumFor
import PyProof.EnumStmt
import PyProof.MeetsStr
import PyProof.StrLawsTight
import PyProof.NeKinds
import PyProof.Rows.SumAny
import PyProof.SeqI3
import PyProof.ZipIter
import PyProof.WalksMore
import PyProof.ListNew
import KE.KRevIter
import PyProof.AutoSeq1
import PyProof.FactsAll.list
import PyProof.IsRules
import KE.KItemsList
import PyProof.StrBlockL
import PyProof.StrBlockI
import PyProof.StrBlock2
import PyProof.StrLawsIn
import PyProof.StrLawsChain
import PyProof.Rows.StrLast
import PyProof.Rows.StrItems
import KE.IntTextText
import KE.KDictList
import PyProof.Rows.BitMore
import KE.KLam
import KE.KNestM
import KE.KIntText
import PyProof.IsiTupleOf
import KE.KDictSum
import PyProof.Rows.SortWalk
import PyProof.Draws
import PyProof.DictRoadsH
import PySem.Challenge.RW_reusewise_k52_lent_without_a_reason
set_option Elab.async false
set_option linter.all false
set_option maxRecDepth 100000
set_option maxHeartbeats 4000000
open List renaming length_map → ua, getElem?_eq_some_iff → uc, getElem?_map → ue, length_append → uf, mem_singleton → ui, take_of_length_le → uj, getElem?_eq_getElem → uk, length_cons → ul, mem_cons → um, mem_of_getElem? → uo, map_append → uq, mem_append_right → ur, size_toArray → ut, append_nil → uu, take_add_one → uv, mem_append → uz, mem_cons_of_mem → uB, mem_map → uC, length_take → uD, range → uE, map_cons → uH, mem_cons_self → uJ, mem_append_left → uK, replicate → uT, length_singleton → uU, getD_eq_getElem?_getD → uW, nodup_cons → Ub, getElem?_append_left → Uc, any_eq_true → Ue, flatMap_append → Ug, foldl_cons → Uh, append_assoc → Ui, length_reverse → Uk, getElem?_append_right → Ul, mem_flatMap → Um, flatMap_cons → Uo, all_eq_true → Uq, sum_cons → Ur, length_range → Us, length_eq_zero_iff → Ut, replicate_succ → Uz, length_replicate → UB, mem_iff_getElem? → UD, of_mem_zip → UG, lookup_cons → UH, not_mem_nil → UI, mem_range → UJ, length_pos_iff → UM, foldl_append → UQ, mem_filter → UT, mem_zipIdx_iff_getElem? → UU, range_succ → UV, length_zip → UW, lookup → UY, length_filter_le → U0, reverse_cons → U9, any_cons → tD, getElem?_range → tE, find?_cons → tI, flatten_cons → tK, map_map → tQ, getElem_mem → tR, any_append → tY, length → tZ
open PySem.W renaming Frag → ub, keepIn → uY, findIn → u6, fnOf → Uf, mg_none_of → Uv, nsIn → Uy, emptyDict → UA, codeIn → UK, instObj → UR, codeHdIn → UZ, callWith_K → tG, plainGet → tO, mg_of → tV, hasDictIn → t8, cellsFrom_some → t9, envX → Ta
open Nat renaming le_refl → ud, lt_of_lt_of_le → uI, ne_of_lt → uS, zero_le → uX, le_trans → Ua, le_add_right → Ux, lt_irrefl → UE, testBit_or → UP, le_succ → U8, mul_le_mul_right → tj, add_mul → tM, lt_succ_self → tP, testBit_succ → tS, not_lt_zero → tX
open PySem.Heap renaming get?_push_of_some → ug, lt_size → uw, get?_push_size → uy, size_push → Up, get?_update_self → UC, get?_update_other → UL
open Option renaming map_eq_some_iff → uh, some → uP, map_some → U7, isSome_iff_exists → tU
open Bool renaming false_ne_true → ux, and_eq_true → u9, false_and → Uu, or_eq_true → Uw, eq_iff_iff → UF, true_and → tJ, false_or → tW
open PySem.F renaming plainAttrs_list → uA, slot_list_append → uN, type_list_append → uO
open PySem.Builtin.SmallTypes renaming nextOf → uQ, ownedTupleIsFree → uV, ownedTupleHandOut → tT
open PySem renaming mem_of_lookup → uZ, sizeLine → tF
open PyProof.Rows renaming boot_tuple → u0, callWith_type1 → Ud, slot_tuple_getitem → Uj
open Int renaming toNat_of_nonneg → UX, zero_add → tH, toNat_natCast → tL
abbrev L2.lS0:List PySem.Str:=["_law_state","_law_world_here","_law_scope","_law_k","_law_steps","_law_x","_law_size"]
abbrev L2.lS1:List PySem.Str:=["_law_state","_law_scope","_law_k","_law_room","_law_world_here","_law_at"]
abbrev L2.lS2:List PySem.Str:=["_law_state","_law_many"]
abbrev L2.lS3:List PySem.Str:=["_law_world_here","_law_k"]
abbrev L2.lS4:List PySem.Str:=["_law_state","_law_world_here","_law_scope","_law_k","_law_x","_law_size"]
abbrev L2.lS5:List PySem.Str:=["_law_body_here","_law_name_here"]
abbrev L2.lS6:List PySem.Str:=["_law_state","_law_scope","_law_sort"]
abbrev L2.lS7:List PySem.Str:=["_law_state","_law_scope","_law_sorts_here"]
abbrev L2.lS8:List PySem.Str:=["_law_state","_law_scope","_law_world_here","_law_at"]
abbrev L2.lS9:List PySem.Str:=["_law_state","_law_world_here","_law_room"]
abbrev L2.lS10:List PySem.Str:=["_law_state","_law_world_here","_law_at","_law_room"]
abbrev L2.lS11:List PySem.Str:=["_law_state","_law_scope","_law_x"]
abbrev L2.lS12:List PySem.Str:=["self","params","name","reason"]
abbrev L2.lS13:List PySem.Str:=["_law_state","_law_world_here","_law_program_here"]
abbrev L2.lS14:List PySem.Str:=["_law_state","_law_least","_law_most"]
abbrev L2.lS15:List PySem.Str:=["_law_program_here","_law_one","_law_name_here"]
abbrev L2.lS16:List PySem.Str:=["_law_state","_law_room","_law_many"]
abbrev L2.lS17:List PySem.Str:=["body","ways","notes","bits"]
abbrev L2.lS18:List PySem.Str:=["_law_state","_law_scope","_law_world_here"]
abbrev L2.lS19:List PySem.Str:=["_law_state","_law_world_here","_law_one"]
abbrev L2.lS20:List PySem.Str:=["body","bits"]
abbrev L2.lS21:List PySem.Str:=["_law_program_here","_law_def_name"]
abbrev L2.lS22:List PySem.Str:=["self","within","finish"]
abbrev L2.lS23:List PySem.Str:=["uses","params","body"]
abbrev L2.lS24:List PySem.Str:=["_law_one","_law_name_here"]
abbrev L2.lS25:List PySem.Str:=["self","params","deed"]
abbrev L2.lS26:List PySem.Str:=["uses","params","deed"]
theorem L2.sN0:0<=tF:=by decide
theorem L2.sN1:1<=tF:=by decide
theorem L2.sN2:2<=tF:=by decide
theorem L2.sN3:3<=tF:=by decide
theorem L2.sN4:4<=tF:=by decide
theorem L2.sN5:5<=tF:=by decide
theorem L2.sN7:7<=tF:=by decide
namespace L2
open PySem PySem.Spec PyProof.Rows
abbrev Key:=Sum Int Str
def vX:Key->Value->Bool
 |.inl k,v=>Value.isInt k v
 |.inr x,v=>Value.isStrOf x v
def keyH(w:World):Key->Int
 |.inl k=>hashInt k
 |.inr x=>hashStr w x
theorem zZ:∀{k:Key}{v:Value},vX k v=true->(∃i t,k=Sum.inl i/\v=Value.int i t)\/(∃x t,k=Sum.inr x/\v=Value.str x t)
 |.inl i,v,h=>by
  obtain⟨t,e⟩:=Value.isInt_shape (k:=i) (v:=v) h
  exact .inl ⟨i,t,rfl,e⟩
 |.inr x,v,h=>by
  obtain⟨t,e⟩:=Value.isStrOf_shape (x:=x) (v:=v) h
  exact .inr ⟨x,t,rfl,e⟩
theorem XV(i:Int)(t:Tok):vX (.inl i) (.int i t)=true:=by simp[vX,Value.isInt]
theorem XW(x:Str)(t:Tok):vX (.inr x) (.str x t)=true:=by simp[vX,Value.isStrOf]
theorem zbb(a b:Int):decide ((Sum.inl a:Key)=Sum.inl b)=(a == b):=by
 by_cases e:a=b
 ·subst e;simp
 ·have h:¬ (Sum.inl a:Key)=Sum.inl b:=fun q=>e (Sum.inl.inj q)
  rw[decide_eq_false h]
  exact(beq_eq_false_iff_ne.mpr e).symm
theorem zbc(a b:Str):decide ((Sum.inr a:Key)=Sum.inr b)=decide (a=b):=by
 by_cases e:a=b
 ·subst e;simp
 ·have h:¬ (Sum.inr a:Key)=Sum.inr b:=fun q=>e (Sum.inr.inj q)
  rw[decide_eq_false h,decide_eq_false e]
theorem zbd(a:Int)(b:Str):decide ((Sum.inl a:Key)=Sum.inr b)=false:=decide_eq_false (fun q=>nomatch q)
theorem zbe(a:Str)(b:Int):decide ((Sum.inr a:Key)=Sum.inl b)=false:=decide_eq_false (fun q=>nomatch q)
def ya(prog:Program)(w:World):PySem.KeyKind prog w Key where
 is:=vX
 hash:=keyH w
 inj:=fun v a b ha hb=>by
  rcases zZ ha with⟨i,t,rfl,rfl⟩|⟨x,t,rfl,rfl⟩
  ·rcases zZ hb with⟨j,u,rfl,e⟩|⟨y,u,rfl,e⟩
   ·injection e with e1 _;rw[e1]
   ·exact nomatch e
  ·rcases zZ hb with⟨j,u,rfl,e⟩|⟨y,u,rfl,e⟩
   ·exact nomatch e
   ·injection e with e1 _;rw[e1]
 byValue:=fun k v h=>by
  rcases zZ h with⟨i,t,rfl,rfl⟩|⟨x,t,rfl,rfl⟩<;>rfl
 pyHash:=fun hv h=>by
  rcases zZ hv with⟨i,t,rfl,rfl⟩|⟨x,t,rfl,rfl⟩
  ·exact wpAny_pyHash_int h
  ·exact wpAny_pyHash_str h
 eqBool:=fun hu hv h=>by
  rcases zZ hu with⟨i,t,rfl,rfl⟩|⟨x,t,rfl,rfl⟩
  ·rcases zZ hv with⟨j,u,rfl,rfl⟩|⟨y,u,rfl,rfl⟩
   ·rw[zbb]at h;exact wpAny_eqBool_int h
   ·rw[zbd]at h;exact SeqAt.EqAt.int_str i t y u _ _ _ _ h
  ·rcases zZ hv with⟨j,u,rfl,rfl⟩|⟨y,u,rfl,rfl⟩
   ·rw[zbe]at h;exact SeqAt.EqAt.str_int x t j u _ _ _ _ h
   ·rw[zbc]at h;exact wpAny_eqBool_str h
 «strs»:=fun k x t v h=>by
  rcases zZ h with⟨i,u,rfl,e⟩|⟨y,u,rfl,e⟩
  ·exact nomatch e
  ·injection e with e1 _
   subst e1
   cases v<;>rfl
theorem Zp(prog:Program)(w:World)(i:Int)(t:Tok):(ya prog w).is (.inl i) (.int i t)=true:=XV i t
theorem Zq(prog:Program)(w:World)(x:Str)(t:Tok):(ya prog w).is (.inr x) (.str x t)=true:=XW x t
inductive V where
 |non|bl (b:Bool)|int (i:Int)|str (x:Str)|byt (b:Array UInt8)|flt (b:UInt64)|ref (a:Addr)|ty (n:String)
 deriving DecidableEq
def RelV:V->Value->Prop
 |.non,u=>u=Value.none
 |.bl b,u=>u=Value.bool b
 |.int i,u=>∃t,u=Value.int i t
 |.str x,u=>∃t,u=Value.str x t
 |.byt b,u=>∃t,u=Value.bytes b t
 |.flt b,u=>∃t,u=Value.float b t
 |.ref a,u=>u=Value.ref a
 |.ty n,u=>u=Value.type n
abbrev Vals:List V->List Value->Prop:=Paired RelV
theorem Vals.length{xs:List V}{us:List Value}(r:Vals xs us):xs.length=us.length:=Paired.length r
theorem Vals.get:∀{xs:List V}{us:List Value}{i:Nat}{x:V},Vals xs us->xs[i]?=some x->∃u,us[i]?=some u/\RelV x u
 |_,_,_,_,.nil,e=>by simp at e
 |_,_,0,_,.cons r _,e=>by simp at e;subst e;exact⟨_,rfl,r⟩
 |_,_,i+1,x,.cons _ t,e=>by
  obtain⟨u,h1,h2⟩:=Vals.get (i:=i) (x:=x) t (by simpa using e)
  exact⟨u,by simpa using h1,h2⟩
theorem Vals.set{x:V}{u:Value}(r:RelV x u):∀{xs:List V}{us:List Value}(i:Nat),Vals xs us->Vals (xs.set i x) (us.set i u)
 |_,_,_,.nil=>.nil
 |_,_,0,.cons _ t=>.cons r t
 |_,_,i+1,.cons q t=>.cons q (Vals.set r i t)
theorem Vals.append:∀{xs ys:List V}{us ws:List Value},Vals xs us->Vals ys ws->Vals (xs++ys) (us++ws)
 |_,_,_,_,.nil,s=>s
 |_,_,_,_,.cons r t,s=>.cons r (Vals.append t s)
theorem Vals.take:∀{xs:List V}{us:List Value}(n:Nat),Vals xs us->Vals (xs.take n) (us.take n)
 |_,_,0,_=>.nil
 |_,_,_+1,.nil=>.nil
 |_,_,n+1,.cons r t=>.cons r (Vals.take n t)
theorem Vals.drop:∀{xs:List V}{us:List Value}(n:Nat),Vals xs us->Vals (xs.drop n) (us.drop n)
 |_,_,0,r=>r
 |_,_,_+1,.nil=>.nil
 |_,_,n+1,.cons _ t=>Vals.drop n t
def RelO:Option V->Option Value->Prop
 |some v,some u=>RelV v u
 |none,none=>True
 |_,_=>False
def KV{κ:Type}:List (κ×V)->List (κ×Value)->Prop:=Paired fun(p:κ×V)(q:κ×Value)=>p.1=q.1/\RelV p.2 q.2
def kV:Key->V
 |.inl i=>.int i
 |.inr x=>.str x
inductive HO where
 |lst (xs:List V)
 |tup (xs:List V)
 |dK (kvs:List (Key×V))|dT (kvs:List (List Key×V))
 |set (S:Int->Bool) (n:Nat)
 |ins (C dx:Addr) (fs:List (Str×V))
 |own (x:Addr)
 |xd (fs:List (Str×V))
 |met (f x:Addr)
 |rng (lo hi:Int)
 |frz (o:Obj) (u:HO)
 |tbl (ps:Array Value)
 |ext (φ:Heap->Prop)
abbrev Hp:=Addr->Option HO
def upd(H:Hp)(a:Addr)(o:HO):Hp:=fun b=>if b=a then some o else H b
theorem upd_same{H:Hp}{a:Addr}{o:HO}:upd H a o a=some o:=by unfold upd;rw[if_pos rfl]
theorem zi{H:Hp}{a b:Addr}{o:HO}(h:b≠a):upd H a o b=H b:=by unfold upd;rw[if_neg h]
theorem yN{H:Hp}{a b:Addr}{o u:HO}(h:H a=some o)(h':H b=some u)(d:o≠u):a≠b:=by
 intro e;subst e;rw[h]at h';exact d (uP.inj h')
theorem zk{H:Hp}{a b:Addr}{o:HO}(h:H a=some o)(h':H b=none):a≠b:=by
 intro e;subst e;rw[h]at h';cases h'
def IsTupN(h:Heap)(a:Addr)(items:Array Value):Prop:=∃o,h.get? a=some o/\o.cls=.type "tuple"/\o.dict=none/\∃n,o.data=.seq items n
theorem IsTupN.is{h:Heap}{a:Addr}{items:Array Value}(x:IsTupN h a items):IsTup h a items:=let ⟨o,a,b,_,c⟩:=x;⟨o,a,b,c⟩
theorem IsTupN.new(h:Heap)(items:Array Value):IsTupN (h.push { cls:=.type "tuple",data:=.seq items }) h.objs.size items:=⟨_,uy _ rfl,rfl,rfl,_,rfl⟩
section
variable(P:Program)(w:World)
def ObjOk(H:Hp)(h:Heap)(a:Addr):HO->Prop
 |.lst xs=>xs.length<=sizeLine/\∃(its:List Value)(n:Nat),Vals xs its/\h.get? a=some { cls:=.type "list",data:=.seq its.toArray n }
 |.tup xs=>xs.length<=sizeLine/\∃its:List Value,Vals xs its/\IsTupN h a its.toArray
 |.dK kvs=>kvs.length<=sizeLine/\(a == sysModules)=false/\∃vs,KV kvs vs/\h.DictOf (ya P w) a vs
 |.dT kvs=>kvs.length<=sizeLine/\(a == sysModules)=false/\∃xs:List (List Key×Addr×Value),
   Paired (fun(p:List Key×V)(q:List Key×Addr×Value)=>p.1=q.1/\H q.2.1=some (.tup (p.1.map kV))/\RelV p.2 q.2.2) kvs xs /\
   ∃o es ep,h.get? a=some o/\o.ExactDict/\o.data=.dict es ep/\es.toList=xs.map (entryOfKey (tupleKind (ya P w)))/\(xs.map (·.1)).Nodup
 |.set S n=>h.SetOf (intKind P w) a S n
 |.ins C dx fs=>H dx=some (.own a)/\fs.length<=1000/\dx≠a/\h.get? a=some (UR C dx) /\
   ∃mA,h.Ns1 dx mA/\(∀f,RelO (fs.lookup f) (mA f))/\PySem.Within mA (fs.map (·.1))
 |.own _=>∃o,h.get? a=some o
 |.xd fs=>∃mA,h.Ns1 a mA/\∀f,RelO (fs.lookup f) (mA f)
 |.rng lo hi=>∃t u v,h.get? a=some { cls:=.type "range",data:=.fields #[.int lo t,.int hi u,.int 1 v] }
 |.frz o u=>h.get? a=some o/\ObjOk H h a u
 |.tbl ps=>h.get? a=some { cls:=.none,data:=.fields ps }
 |.met f x=>h.get? a=some (PySem.W.methodObj (.ref f) (.ref x))
 |.ext φ=>φ h/\(∃o,h.get? a=some o)/\∀h1 h2:Heap,φ h1->(∀o,h1.get? a=some o->h2.get? a=some o)->φ h2
def HOk(H:Hp)(h:Heap):Prop:=∀a o,H a=some o->ObjOk P w H h a o
end
section
variable{P:Program}{w:World}{H H':Hp}{h h':Heap}{a:Addr}{o:HO}
theorem ObjOk.lt(x:ObjOk P w H h a o):a < h.objs.size:=by
 cases o with
 |lst xs=>obtain⟨_,_,_,_,e⟩:=x;exact uw e
 |tup xs=>obtain⟨_,_,_,p⟩:=x;exact p.is.lt
 |dK kvs=>obtain⟨_,_,_,_,o,_,_,e,_⟩:=x;exact uw e
 |dT kvs=>obtain⟨_,_,_,_,o,_,_,e,_⟩:=x;exact uw e
 |set S n=>obtain⟨o,_,_,_,e,_⟩:=x;exact uw e
 |ins C dx fs=>obtain⟨_,_,_,e,_⟩:=x;exact uw e
 |own y=>obtain⟨_,e⟩:=x;exact uw e
 |xd fs=>obtain⟨_,⟨_,_,_,e,_⟩,_⟩:=x;exact uw e
 |rng lo hi=>obtain⟨_,_,_,e⟩:=x;exact uw e
 |frz ob u=>obtain⟨e,_⟩:=x;exact uw e
 |tbl ps=>exact uw (show h.get? a=some _ from x)
 |met f y=>exact uw (show h.get? a=some _ from x)
 |ext φ=>obtain⟨_,⟨_,e⟩,_⟩:=x;exact uw e
theorem Paired.mapP{α β:Type}{F G:α->β->Prop}:∀{l₁:List α}{l₂:List β},Paired F l₁ l₂->(∀a b,F a b->G a b)->Paired G l₁ l₂
 |_,_,.nil,_=>.nil
 |_,_,.cons r t,f=>.cons (f _ _ r) (Paired.mapP t f)
theorem ObjOk.stay(x:ObjOk P w H h a o)(k:∀b u,(b=a\/H b=some (.own a))->h.get? b=some u->h'.get? b=some u)
  (ho:∀b,H b=some (.own a)->H' b=some (.own a)) (ht:∀b xs,H b=some (.tup xs)->H' b=some (.tup xs)):ObjOk P w H' h' a o:=by
 induction o with
 |lst xs=>obtain⟨z,its,n,r,e⟩:=x;exact⟨z,its,n,r,k _ _ (.inl rfl) e⟩
 |tup xs=>obtain⟨z,its,r,ob,e,c⟩:=x;exact⟨z,its,r,ob,k _ _ (.inl rfl) e,c⟩
 |dK kvs=>obtain⟨z,y,vs,r,ob,es,ep,e,c⟩:=x;exact⟨z,y,vs,r,ob,es,ep,k _ _ (.inl rfl) e,c⟩
 |dT kvs =>
  obtain⟨z,y,xs,r,ob,es,ep,e,c⟩:=x
  exact⟨z,y,xs,Paired.mapP r fun p q z=>⟨z.1,ht _ _ z.2.1,z.2.2⟩,ob,es,ep,k _ _ (.inl rfl) e,c⟩
 |set S n=>obtain⟨ob,es,ep,t,e,c⟩:=x;exact⟨ob,es,ep,t,k _ _ (.inl rfl) e,c⟩
 |ins C dx fs =>
  obtain⟨d,z,ne,e,mA,⟨od,es,ep,e2,c⟩,r⟩:=x
  exact⟨ho _ d,z,ne,k _ _ (.inl rfl) e,mA,⟨od,es,ep,k _ _ (.inr d) e2,c⟩,r⟩
 |own y=>obtain⟨ob,e⟩:=x;exact⟨ob,k _ _ (.inl rfl) e⟩
 |xd fs=>obtain⟨mA,⟨od,es,ep,e,c⟩,r⟩:=x;exact⟨mA,⟨od,es,ep,k _ _ (.inl rfl) e,c⟩,r⟩
 |rng lo hi=>obtain⟨t,u,v,e⟩:=x;exact⟨t,u,v,k _ _ (.inl rfl) e⟩
 |frz ob u ih=>obtain⟨e,q⟩:=x;exact⟨k _ _ (.inl rfl) e,ih q⟩
 |tbl ps =>
  have e:h.get? a=some { cls:=.none,data:=.fields ps }:=x
  show h'.get? a=some { cls:=.none,data:=.fields ps }
  exact k a _ (.inl rfl) e
 |met f y =>
  have e:h.get? a=some (PySem.W.methodObj (.ref f) (.ref y)):=x
  show h'.get? a=some (PySem.W.methodObj (.ref f) (.ref y))
  exact k a _ (.inl rfl) e
 |ext φ=>obtain⟨p,⟨o,e⟩,st⟩:=x;exact⟨st _ _ p fun o q=>k _ _ (.inl rfl) q,⟨o,k _ _ (.inl rfl) e⟩,st⟩
theorem HOk.lt(x:HOk P w H h)(e:H a=some o):a < h.objs.size:=(x a o e).lt
theorem HOk.fresh(x:HOk P w H h)(e:h.objs.size<=a):H a=none:=by
 cases q:H a with
 |none=>rfl
 |some u=>exact absurd (uI (x.lt q) e) (UE _)
theorem HOk.kept(x:HOk P w H h)(k:∀b u,h.get? b=some u->h'.get? b=some u):HOk P w H h':=fun a o e =>
 (x a o e).stay (fun b u _ q=>k b u q) (fun _ q=>q) fun _ _ q=>q
theorem HOk.laid(x:HOk P w H h)(k:∀b u,h.get? b=some u->h'.get? b=some u)(hp:h.objs.size<=a)(new:ObjOk P w (upd H a o) h' a o):HOk P w (upd H a o) h':=fun b u e=>by
 have hn:=x.fresh hp
 by_cases hb:b=a
 ·subst hb;rw[upd_same]at e;cases e;exact new
 ·rw[zi hb]at e
  exact(x b u e).stay (fun c v _ q=>k c v q) (fun c q=>by rw[zi (zk q hn)];exact q) fun c xs q=>by rw[zi (zk q hn)];exact q
end
def Rd(H:Hp)(a:Addr)(u:HO):Prop:=H a=some u\/∃o,H a=some (.frz o u)
theorem Rd.of{H:Hp}{a:Addr}{u:HO}(h:H a=some u):Rd H a u:=.inl h
theorem Rd.ok{P:Program}{w:World}{H:Hp}{h:Heap}{a:Addr}{u:HO}(r:Rd H a u)(x:HOk P w H h):ObjOk P w H h a u:=by
 rcases r with r|⟨o,r⟩
 ·exact x a u r
 ·obtain⟨_,q⟩:=x a _ r
  exact q
def Mut:Option HO->Prop
 |some (.lst _)=>True
 |some (.dK _)=>True
 |some (.dT _)=>True
 |some (.set _ _)=>True
 |some (.ins _ _ _)=>True
 |some (.ext _)=>True
 |_=>False
section
variable{P:Program}{w:World}{H:Hp}{h h':Heap}{x e:Addr}{o':HO}
theorem HOk.write(ok:HOk P w H h)(mu:Mut (H x))(he:e=x\/H e=some (.own x))(k:∀b u,b≠e->h.get? b=some u->h'.get? b=some u)(heo:∃u,h'.get? e=some u)
  (new:ObjOk P w (upd H x o') h' x o'):HOk P w (upd H x o') h':=fun b u q=>by
 have nown:∀c y,H c=some (.own y)->c≠x:=fun c y r z=>by subst z;rw[r]at mu;exact mu
 have ntup:∀c xs,H c=some (.tup xs)->c≠x:=fun c xs r z=>by subst z;rw[r]at mu;exact mu
 by_cases hb:b=x
 ·subst hb;rw[upd_same]at q;cases q;exact new
 ·rw[zi hb]at q
  by_cases hbe:b=e
  ·have q':H b=some (.own x):=by
    rcases he with z|z
    ·exact absurd (hbe.trans z) hb
    ·rw[hbe];exact z
   rw[q]at q';cases q'
   obtain⟨v,hv⟩:=heo
   exact⟨v,by rw[hbe];exact hv⟩
  ·refine(ok b u q).stay (fun c v hc r=>k c v ?_ r) (fun c r=>by rw[zi (nown c b r)];exact r) fun c xs r=>by rw[zi (ntup c xs r)];exact r
   rcases hc with rfl|hc
   ·exact hbe
   ·rintro rfl
    rcases he with z|z
    ·exact nown c b hc z
    ·rw[hc]at z;cases z;exact hb rfl
end
structure Un(fs ex:List Addr)(H H':Hp)(h h':Heap):Prop where
 keep:∀b o,h.get? b=some o->H b=none->b∉fs->b∉ex->h'.get? b=some o
 slot:∀b o,h.get? b=some o->H b=none->b∈fs->b∉ex->∃sl,h'.get? b=some { o with slots:=sl }
 free:∀b o,h.get? b=some o->H b=none->b∉ex->H' b=none
 there:∀b o,h.get? b=some o->b∉ex->∃o',h'.get? b=some o'
 tups:∀b xs,H b=some (.tup xs)->H' b=some (.tup xs)
 frzs:∀b o u,H b=some (.frz o u)->H' b=some (.frz o u)
 tbls:∀b ps,H b=some (.tbl ps)->∃more,H' b=some (.tbl (ps++more))
section
variable{fs fs' ex ex':List Addr}{H H1 H2:Hp}{h h1 h2 h':Heap}{a x e:Addr}{o:HO}
theorem Un.any(u:Un fs ex H H1 h h1){b:Addr}{ob:Obj}(q:h.get? b=some ob)(n:H b=none)(hx:b∉ex):∃sl,h1.get? b=some { ob with slots:=sl }:=by
 by_cases hb:b∈fs
 ·exact u.slot b ob q n hb hx
 ·exact⟨ob.slots,u.keep b ob q n hb hx⟩
theorem Un.kept(k:∀b u,h.get? b=some u->h'.get? b=some u):Un fs ex H H h h' :=
 ⟨fun b ob q _ _ _=>k b ob q,fun b ob q _ _ _=>⟨ob.slots,k b ob q⟩,fun _ _ _ n _=>n,fun b ob q _=>⟨ob,k b ob q⟩,fun _ _ q=>q,fun _ _ _ q=>q,fun _ ps q=>⟨#[],by rw[q];simp⟩⟩
theorem Un.refl:Un fs ex H H h h:=Un.kept fun _ _ q=>q
theorem Un.laid(k:∀b u,h.get? b=some u->h'.get? b=some u)(hp:h.objs.size<=a)(hn:H a=none):Un fs ex H (upd H a o) h h' where
 keep:=fun b u q _ _ _=>k b u q
 slot:=fun b u q _ _ _=>⟨u.slots,k b u q⟩
 free:=fun b u q n _=>by rw[zi (uS (uI (uw q) hp))];exact n
 there:=fun b u q _=>⟨u,k b u q⟩
 tups:=fun b xs q=>by rw[zi (zk q hn)];exact q
 frzs:=fun b u xs q=>by rw[zi (zk q hn)];exact q
 tbls:=fun b ps q=>⟨#[],by rw[zi (zk q hn),q];simp⟩
theorem Un.write(mu:Mut (H x))(he:e=x\/H e=some (.own x))(k:∀b u,b≠e->h.get? b=some u->h'.get? b=some u)(heo:∃u,h'.get? e=some u):Un fs ex H (upd H x o) h h':=by
 have hx:∀b,H b=none->b≠x:=fun b n z=>by subst z;rw[n]at mu;exact mu
 have hb:∀b,H b=none->b≠e:=fun b n z=>by
  subst z
  rcases he with r|r
  ·exact hx b n r
  ·rw[n]at r;cases r
 have hm:∀b u,H b=some u->¬ Mut (some u)->b≠x:=fun b u q nm z=>by subst z;rw[q]at mu;exact nm mu
 refine⟨fun b u q n _ _=>k b u (hb b n) q,fun b u q n _ _=>⟨u.slots,k b u (hb b n) q⟩,fun b u q n _=>by rw[zi (hx b n)];exact n,fun b u q _=>?_,
  fun b xs q=>by rw[zi (hm b _ q fun z=>z)];exact q,fun b u xs q=>by rw[zi (hm b _ q fun z=>z)];exact q,fun b ps q=>⟨#[],by rw[zi (hm b _ q fun z=>z),q];simp⟩⟩
 by_cases hbe:b=e
 ·subst hbe;exact heo
 ·exact⟨u,k b u hbe q⟩
end
def trk(h:Heap)(H:Hp):List Addr:=(uE h.objs.size).filter fun a=>(H a).isSome
def hidT(h:Heap)(H:Hp):Heap:=PySem.W.hideAll h (trk h H)
theorem XX(h:Heap)(H:Hp):(hidT h H).objs.size=h.objs.size:=PySem.W.hideAll_size _ _
theorem WK{h:Heap}{H:Hp}{b:Addr}{o:Obj}(e:h.get? b=some o)(n:H b=none):(hidT h H).get? b=some o :=
 PySem.W.hideAll_get _ e fun hm=>by
  have q:(H b).isSome=true:=(UT.mp hm).2
  rw[n]at q;simp at q
theorem JX{h:Heap}{H:Hp}{b:Addr}{o:Obj}(e:(hidT h H).get? b=some o):h.get? b=some o/\H b=none:=by
 have e':h.get? b=some o:=PySem.W.of_hideAll (trk h H) e
 refine⟨e',?_⟩
 cases q:H b with
 |none=>rfl
 |some x =>
  have hm:b∈trk h H:=UT.mpr ⟨UJ.mpr (uw e'),by simp[q]⟩
  have z:(hidT h H).get? b=none:=PySem.W.hideAll_none (trk h H) hm
  rw[z]at e;cases e
def JY(g h:Heap)(L:Addr):List (Addr×Obj):=(uE h.objs.size).filterMap fun a=>if a=L\/(g.get? a).isSome=true then none else(h.get? a).map fun o=>(a,o)
def rest(g h:Heap)(L d:Addr):List (Addr×Obj):=(JY g h L).filter fun p=>decide (p.1≠d)
structure Mod(K:ub)(mg:Str->Option Value)(base:Heap):Prop where
 kin:K.In base
 glob:base.Ns mainGlobals mg
 blt:∃mb,base.Ns builtinsNs mb/\∀x:Str,x≠"__name__"->mb x=bootBuiltins x
 nolimit:base.NoLimit
structure Cx where
 prog:Program
 w:World
 K:ub
 mg:Str->Option Value
 base:Heap
 A:Around
 N:List Str
 s₀:Shared
 H₀:Hp
 env:Env
 outer:List Env
 stack:List Env
 ex:List Addr
 fn:Str->Bool
 calm:Bool
 pn:List (Addr×Obj)
 xe:Value->Shared->Prop
def frs(l:List Env):List Addr:=l.filterMap (·.frame)
abbrev Cx.fs(X:Cx):List Addr:=frs X.outer
def Vis(sc:Scope)(x:Str):Prop:=sc.names.lookup x=some .local\/sc.names.lookup x=some .cell\/sc.names.lookup x=some .free
def Loc(sc:Scope)(x:Str):Prop:=sc.names.lookup x=some .local\/sc.names.lookup x=some .cell
def Look(env:Env)(h:Heap)(m:Str->Option Value)(x:Str)(u:Value):Prop :=
 (env.kindOf x=some .local/\m x=some u)\/((env.kindOf x=some .cell\/env.kindOf x=some .free)/\∃c,env.cells.lookup x=some c/\h.IsCell c (some u))
structure Cx.Ok(X:Cx):Prop where
 mod:Mod X.K X.mg X.base
 kind:X.env.scope.kind=.function
 glob:X.env.globals=mainGlobals
 blt:X.env.builtins=builtinsNs
 above:X.s₀.heap.objs.size<=X.env.locals
 inj:∀x y c,X.env.cells.lookup x=some c->X.env.cells.lookup y=some c->x=y
 has:∀x,(X.env.kindOf x=some .cell\/X.env.kindOf x=some .free)->∃c,X.env.cells.lookup x=some c
 cab:∀x c,X.fn x=true->X.env.cells.lookup x=some c->X.s₀.heap.objs.size<=c
 hd:X.calm=true->X.A.handled=none
 frames:X.A.frames=some X.stack
 stk:X.stack=X.outer\/(X.stack=X.env::X.outer/\X.env.frame=some X.env.locals)
 exf:∀b∈X.ex,b≠X.env.locals/\∀x c,X.env.cells.lookup x=some c->c≠b
 bs:∀b o,X.base.get? b=some o->X.s₀.heap.get? b=some o/\X.H₀ b=none
 bsz:X.base.objs.size<=X.s₀.heap.objs.size
 noex:∀b o,X.base.get? b=some o->b∉X.ex
 exfs:∀b∈X.ex,b∉X.fs
 funs:X.s₀.heap.FunFrames X.base X.outer
 frf:∀b∈X.fs,X.H₀ b=none
structure Inv(X:Cx)(pins:List (Addr×Obj))(σ:List (Option V))(H:Hp)(s:Shared):Prop where
 ok:X.Ok
 os:s.os=X.s₀.os
 bare:AllBare s.gens
 base:Un X.fs X.ex X.H₀ H X.s₀.heap s.heap
 loc:∃m,s.heap.Ns X.env.locals m/\∀(i:Nat)(x:Str)(v:V),X.N[i]?=some x->σ[i]?=some (some v)->Vis X.env.scope x->∃u,RelV v u/\Look X.env s.heap m x u
 cell:∀x c,X.env.cells.lookup x=some c->∃v,s.heap.IsCell c v
 free:H X.env.locals=none
 freeC:∀x c,X.env.cells.lookup x=some c->H c=none
 pin:∀p∈X.pn++pins,s.heap.get? p.1=some p.2/\H p.1=none/\p.1≠X.env.locals/\p.1∉X.fs/\∀v,p.2.data≠.cell v
 hok:HOk X.prog X.w H s.heap
 len:σ.length=X.N.length
section
variable{X:Cx}{pins:List (Addr×Obj)}{σ:List (Option V)}{H H':Hp}{s:Shared}{h':Heap}
theorem Cx.Ok.nofr(ok:X.Ok){b:Addr}{o:Obj}(e:X.base.get? b=some o):b∉X.fs:=fun hb=>by
 have:=(ok.funs.mem hb).1
 rw[e]at this;cases this
theorem Inv.bs(I:Inv X pins σ H s):∀b o,X.base.get? b=some o->s.heap.get? b=some o/\H b=none:=fun b o e =>
 ⟨I.base.keep b o (I.ok.bs b o e).1 (I.ok.bs b o e).2 (I.ok.nofr e) (I.ok.noex b o e),I.base.free b o (I.ok.bs b o e).1 (I.ok.bs b o e).2 (I.ok.noex b o e)⟩
theorem Inv.bk(I:Inv X pins σ H s):∀b o,X.base.get? b=some o->s.heap.get? b=some o:=fun b o e=>(I.bs b o e).1
theorem Inv.mod(I:Inv X pins σ H s):Mod X.K X.mg X.base:=I.ok.mod
theorem Inv.kIn(I:Inv X pins σ H s):X.K.In s.heap:=I.ok.mod.kin.keeps I.bk
theorem Inv.lt(I:Inv X pins σ H s):X.env.locals < s.heap.objs.size:=let ⟨_,hn,_⟩:=I.loc;hn.lt
theorem Inv.sz(I:Inv X pins σ H s):X.s₀.heap.objs.size<=s.heap.objs.size:=Ua I.ok.above (Nat.le_of_lt I.lt)
theorem Inv.nofs(I:Inv X pins σ H s){a:Addr}(h:s.heap.objs.size<=a):a∉X.fs:=fun hb=>by
 obtain⟨_,o,ho,_⟩:=I.ok.funs.mem hb
 exact absurd (uI (uw ho) (Ua I.sz h)) (UE _)
theorem Inv.cne(I:Inv X pins σ H s):∀x c,X.env.cells.lookup x=some c->c≠X.env.locals:=fun x c e z=>by
 obtain⟨v,o,ho,hd⟩:=I.cell x c e
 obtain⟨m,⟨o',es,ep,ho',hd',_⟩,_⟩:=I.loc
 rw[z,ho']at ho;cases ho;rw[hd']at hd;cases hd
theorem Inv.funs(I:Inv X pins σ H s):s.heap.FunFrames X.base X.outer:=by
 have all:∀(l:List Env),(∀b∈frs l,b∈X.fs)->X.s₀.heap.FunFrames X.base l->s.heap.FunFrames X.base l:=by
  intro l
  induction l with
  |nil=>intro _ _;trivial
  |cons env r ih =>
   intro hs hl
   obtain⟨hk,⟨L,o,hf,hn,ho,hd⟩,hr⟩:=hl
   have hL:L∈X.fs:=hs L (by unfold frs;rw[List.filterMap_cons,hf];exact uJ)
   obtain⟨sl,e⟩:=I.base.slot L o ho (I.ok.frf L hL) hL fun z=>I.ok.exfs L z hL
   exact⟨hk,⟨L,_,hf,hn,e,hd⟩,ih (fun b hb=>hs b (by unfold frs;rw[List.filterMap_cons,hf];exact uB _ hb)) hr⟩
 exact all X.outer (fun _ hb=>hb) I.ok.funs
theorem Inv.stack(I:Inv X pins σ H s):s.heap.FunFrames X.base X.stack:=by
 rcases I.ok.stk with e|⟨e,hf⟩
 ·rw[e];exact I.funs
 ·rw[e]
  obtain⟨m,hn,_⟩:=I.loc
  refine .cons (by rw[I.ok.kind];decide) hf hn ?_ I.funs
  exact Heap.get?_none_of_le (Ua I.ok.bsz I.ok.above)
theorem Inv.stkSub(I:Inv X pins σ H s):∀b∈frs X.stack,b∈X.env.locals::X.fs:=fun b hb=>by
 rcases I.ok.stk with e|⟨e,hf⟩
 ·rw[e]at hb;exact uB _ hb
 ·rw[e]at hb
  unfold frs at hb
  rw[List.filterMap_cons,hf]at hb
  exact hb
theorem Inv.stkFree(I:Inv X pins σ H s):∀b∈frs X.stack,H b=none:=fun b hb=>by
 rcases um.mp (I.stkSub b hb)with e|hb
 ·rw[e];exact I.free
 ·obtain⟨_,o,ho,_⟩:=I.ok.funs.mem hb
  exact I.base.free b o ho (I.ok.frf b hb) fun z=>I.ok.exfs b z hb
theorem Inv.step{g':Array GenState}{t':Nat}{d':Drawn}{ch:List Addr}(I:Inv X pins σ H s)
  (hch:∀b∈ch,(b∈X.ex\/X.s₀.heap.objs.size<=b)/\b≠X.env.locals/\(∀x c,X.env.cells.lookup x=some c->c≠b)/\∀p∈X.pn++pins,p.1≠b)
  (keep:∀b o,b≠X.env.locals->b∉X.fs->b∉ch->s.heap.get? b=some o->H b=none->h'.get? b=some o)
  (slot:∀b o,b≠X.env.locals->b∈X.fs->b∉ch->s.heap.get? b=some o->H b=none->∃sl,h'.get? b=some { o with slots:=sl }) (free:∀b o,b∉ch->s.heap.get? b=some o->H b=none->H' b=none)
  (there:∀b o,b∉ch->s.heap.get? b=some o->∃o',h'.get? b=some o')
  (tups:∀b xs,H b=some (.tup xs)->H' b=some (.tup xs)) (frzs:∀b o u,H b=some (.frz o u)->H' b=some (.frz o u)) (tbls:∀b ps,H b=some (.tbl ps)->∃more,H' b=some (.tbl (ps++more)))
  (ns:∀m,s.heap.Ns X.env.locals m->h'.Ns X.env.locals m) (hok:HOk X.prog X.w H' h') (hg:AllBare g') :
  Inv X pins σ H' { s with heap:=h',gens:=g',drawn:=d',toks:=t' }:=by
 have neL:∀b o,X.s₀.heap.get? b=some o->b≠X.env.locals:=fun b o e=>uS (uI (uw e) I.ok.above)
 have neC:∀b o,X.s₀.heap.get? b=some o->b∉X.ex->b∉ch:=fun b o e hx hb=>by
  rcases(hch b hb).1 with z|z
  ·exact hx z
  ·exact absurd (uI (uw e) z) (UE _)
 have cellK:∀x c,X.env.cells.lookup x=some c->∀v,s.heap.IsCell c v->h'.IsCell c v:=fun x c e v ⟨o,ho,hd⟩=>by
  have nch:c∉ch:=fun z=>(hch c z).2.2.1 x c e rfl
  by_cases hc:c∈X.fs
  ·obtain⟨sl,q⟩:=slot c o (I.cne x c e) hc nch ho (I.freeC x c e)
   exact⟨_,q,hd⟩
  ·exact⟨o,keep c o (I.cne x c e) hc nch ho (I.freeC x c e),hd⟩
 refine⟨I.ok,I.os,hg,⟨fun b o e n hb hx=>?_,fun b o e n hb hx=>?_,fun b o e n hx=>?_,fun b o e hx=>?_,fun b xs e=>tups b xs (I.base.tups b xs e),fun b o xs e=>frzs b o xs (I.base.frzs b o xs e),fun b ps e=>?_⟩,?_,fun x c e=>?_,?_,fun x c e=>?_,fun p hp=>?_,hok,I.len⟩
 ·exact keep b o (neL b o e) hb (neC b o e hx) (I.base.keep b o e n hb hx) (I.base.free b o e n hx)
 ·obtain⟨sl,e1⟩:=I.base.slot b o e n hb hx
  obtain⟨sl',e2⟩:=slot b _ (neL b o e) hb (neC b o e hx) e1 (I.base.free b o e n hx)
  exact⟨sl',e2⟩
 ·obtain⟨o',e1⟩:=I.base.there b o e hx
  exact free b o' (neC b o e hx) e1 (I.base.free b o e n hx)
 ·obtain⟨o',e1⟩:=I.base.there b o e hx
  exact there b o' (neC b o e hx) e1
 ·obtain⟨m1,e1⟩:=I.base.tbls b ps e
  obtain⟨m2,e2⟩:=tbls b _ e1
  exact⟨m1++m2,by rw[e2,Array.append_assoc]⟩
 ·obtain⟨m,hn,hl⟩:=I.loc
  refine⟨m,ns m hn,fun i x v e1 e2 e3=>?_⟩
  obtain⟨u,r,l⟩:=hl i x v e1 e2 e3
  refine⟨u,r,?_⟩
  rcases l with l|⟨k,c,e,z⟩
  ·exact .inl l
  ·exact .inr ⟨k,c,e,cellK x c e _ z⟩
 ·obtain⟨v,z⟩:=I.cell x c e
  exact⟨v,cellK x c e v z⟩
 ·obtain⟨m,⟨o,_,_,ho,_⟩,_⟩:=I.loc
  exact free _ o (fun z=>(hch _ z).2.1 rfl) ho I.free
 ·obtain⟨v,o,ho,hd⟩:=I.cell x c e
  exact free c o (fun z=>(hch c z).2.2.1 x c e rfl) ho (I.freeC x c e)
 ·obtain⟨e,n,ne,nf,d⟩:=I.pin p hp
  have nch:p.1∉ch:=fun z=>(hch p.1 z).2.2.2 p hp rfl
  exact⟨keep p.1 p.2 ne nf nch e n,free p.1 p.2 nch e n,ne,nf,d⟩
theorem Inv.un{t':Nat}(I:Inv X pins σ H s)(u:Un X.fs [] H H' s.heap h')(hok:HOk X.prog X.w H' h'):Inv X pins σ H' { s with heap:=h',toks:=t' }:=by
 obtain⟨m,⟨o,es,ep,ho,r⟩,_⟩:=id I.loc
 obtain⟨sl,hL⟩:=u.any ho I.free (by simp)
 exact I.step (g':=s.gens) (d':=s.drawn) (ch:=[]) (fun _ z=>nomatch z) (fun b o _ hb _ e n=>u.keep b o e n hb (by simp)) (fun b o _ hb _ e n=>u.slot b o e n hb (by simp)) (fun b o _ e n=>u.free b o e n (by simp)) (fun b o _ e=>u.there b o e (by simp)) u.tups u.frzs u.tbls (fun m' hm=>by
  obtain⟨o',es',ep',ho',r'⟩:=hm
  rw[ho]at ho';cases ho'
  exact⟨_,es',ep',hL,r'⟩) hok I.bare
theorem Inv.call{g':Array GenState}{t':Nat}{d':Drawn}{ch:List Addr}(I:Inv X pins σ H s)(u:Un (frs X.stack) ch H H' s.heap h')(hok:HOk X.prog X.w H' h')(hg:AllBare g')
  (hch:∀b∈ch,(b∈X.ex\/X.s₀.heap.objs.size<=b)/\b≠X.env.locals/\(∀x c,X.env.cells.lookup x=some c->c≠b)/\∀p∈X.pn++pins,p.1≠b) :
  Inv X pins σ H' { s with heap:=h',gens:=g',drawn:=d',toks:=t' }:=by
 obtain⟨m,⟨o,es,ep,ho,r⟩,_⟩:=id I.loc
 obtain⟨sl,hL⟩:=u.any ho I.free fun z=>(hch _ z).2.1 rfl
 exact I.step (ch:=ch) hch (fun b o hL hb hc e n=>u.keep b o e n (fun z=>(um.mp (I.stkSub b z)).elim hL hb) hc) (fun b o _ _ hc e n=>u.any e n hc) (fun b o hc e n=>u.free b o e n hc) (fun b o hc e=>u.there b o e hc) u.tups u.frzs u.tbls (fun m' hm=>by
  obtain⟨o',es',ep',ho',r'⟩:=hm
  rw[ho]at ho';cases ho'
  exact⟨_,es',ep',hL,r'⟩) hok hg
theorem Inv.turned{t':Nat}{it:Addr}(I:Inv X pins σ H s)(k:∀b o,b≠it->s.heap.get? b=some o->h'.get? b=some o)(hn:H it=none)(hL:it≠X.env.locals)
  (h1:it∈X.ex\/X.s₀.heap.objs.size<=it) (h2:∀x c,X.env.cells.lookup x=some c->c≠it) (h3:∀p∈X.pn++pins,p.1≠it):Inv X pins σ H { s with heap:=h',toks:=t' }:=by
 have nit:∀b u,H b=some u->b≠it:=fun b u e z=>by rw[z,hn]at e;cases e
 refine I.step (g':=s.gens) (d':=s.drawn) (ch:=[it]) (fun b hb=>?_) (fun b o _ _ hc e _=>k b o (fun z=>hc (by simp[z])) e) (fun b o _ _ hc e _=>⟨o.slots,k b o (fun z=>hc (by simp[z])) e⟩) (fun _ _ _ _ n=>n)
  (fun b o hc e=>⟨o,k b o (fun z=>hc (by simp[z])) e⟩) (fun _ _ e=>e) (fun _ _ _ e=>e) (fun b ps e=>⟨#[],by rw[e];simp⟩) (fun m hm=>?_) (fun b u e=>?_) I.bare
 ·have e:b=it:=by simpa using hb
  subst e
  exact⟨h1,hL,h2,h3⟩
 ·obtain⟨o,es,ep,ho,r⟩:=hm
  exact⟨o,es,ep,k _ o (Ne.symm hL) ho,r⟩
 ·refine(I.hok b u e).stay (fun c v hc q=>k c v ?_ q) (fun _ q=>q) fun _ _ q=>q
  rcases hc with z|z
  ·rw[z];exact nit b u e
  ·exact nit c _ z
theorem Inv.tok(I:Inv X pins σ H s)(t:Nat):Inv X pins σ H { s with toks:=t }:=I.un (h':=s.heap) (t':=t) Un.refl I.hok
theorem Inv.kept{t':Nat}(I:Inv X pins σ H s)(k:∀b u,s.heap.get? b=some u->h'.get? b=some u):Inv X pins σ H { s with heap:=h',toks:=t' }:=I.un (Un.kept k) (I.hok.kept k)
theorem Inv.laid{a:Addr}{o:HO}{t':Nat}(I:Inv X pins σ H s)(k:∀b u,s.heap.get? b=some u->h'.get? b=some u)(hp:s.heap.objs.size<=a)(new:ObjOk X.prog X.w (upd H a o) h' a o):
  Inv X pins σ (upd H a o) { s with heap:=h',toks:=t' }:=I.un (Un.laid k hp (I.hok.fresh hp)) (I.hok.laid k hp new)
theorem Inv.write{x e:Addr}{o:HO}{t':Nat}(I:Inv X pins σ H s)(mu:Mut (H x))(he:e=x\/H e=some (.own x))(k:∀b u,b≠e->s.heap.get? b=some u->h'.get? b=some u)(heo:∃u,h'.get? e=some u)
  (new:ObjOk X.prog X.w (upd H x o) h' x o):Inv X pins σ (upd H x o) { s with heap:=h',toks:=t' }:=I.un (Un.write mu he k heo) (I.hok.write mu he k heo new)
theorem Inv.pins_of{pins':List (Addr×Obj)}(I:Inv X pins σ H s)(h:∀p∈pins',s.heap.get? p.1=some p.2/\H p.1=none/\p.1≠X.env.locals/\p.1∉X.fs/\∀v,p.2.data≠.cell v):Inv X pins' σ H s :=
 ⟨I.ok,I.os,I.bare,I.base,I.loc,I.cell,I.free,I.freeC,fun p hp=>(uz.mp hp).elim (fun z=>I.pin p (uK _ z)) (h p),I.hok,I.len⟩
theorem Zr{N:List Str}(hN:N.Nodup){i j:Nat}{x:Str}(a:N[i]?=some x)(b:N[j]?=some x):i=j:=by
 obtain⟨h1,e1⟩:=uc.mp a
 obtain⟨h2,e2⟩:=uc.mp b
 exact(List.getElem_inj hN).mp (e1.trans e2.symm)
theorem vY{M:Model}{A:Around}{E:Value->Shared->Prop}{i:Nat}{x:Str}{v:V}{u:Value}{Q:Unit->Shared->Prop}(I:Inv X pins σ H s)(hN:X.N.Nodup)(hi:X.N[i]?=some x)(hx:Loc X.env.scope x)(r:RelV v u)
  (h:∀s',Inv X pins (σ.set i (some v)) H s'->(∃a,Heap.SameBut a s.heap s'.heap/\(a=X.env.locals\/X.env.cells.lookup x=some a))->Q () s') (hf:X.fn x=true\/X.env.scope.names.lookup x=some .local:=by first|exact .inl rfl|exact .inr rfl|assumption):wpAny M A (storeName X.env x u) Q E s:=by
 obtain⟨m,hn,hl⟩:=id I.loc
 have hcls:(X.env.scope.kind == .class || (X.env.scope.kind == .module && X.env.locals != X.env.globals))=false:=by rw[I.ok.kind];rfl
 have hiσ:i < σ.length:=by rw[I.len];exact(uc.mp hi).1
 have cne:=I.cne
 have tracked:∀{a:Addr}{h':Heap},(∃o,s.heap.get? a=some o/\H a=none)->Heap.SameBut a s.heap h'->HOk X.prog X.w H h':=fun{a h'} ha hs b ob e=>by
  obtain⟨_,_,hfree⟩:=ha
  refine(I.hok b ob e).stay (fun c w' hc q=>(hs.2 c ?_).trans q) (fun _ q=>q) fun _ _ q=>q
  rintro rfl
  rcases hc with rfl|hc
  ·rw[hfree]at e;cases e
  ·rw[hfree]at hc;cases hc
 rcases hx with hk|hk
 ·refine wpAny_storeName_local hk hn (fun h' hn' hs=>?_) hcls
  obtain⟨oL,_,_,hoL,_⟩:=id hn
  refine h _ ⟨I.ok,I.os,I.bare,⟨fun b o e n hb hx=>?_,fun b o e n hb hx=>?_,I.base.free,fun b o e hx=>?_,I.base.tups,I.base.frzs,I.base.tbls⟩,⟨_,hn',fun j y v' e1 e2 e3=>?_⟩,fun y c e=>?_,I.free,I.freeC,fun p hp=>?_,tracked ⟨oL,hoL,I.free⟩ hs,by simpa using I.len⟩ ⟨_,hs,.inl rfl⟩
  ·exact(hs.2 b (uS (uI (uw e) I.ok.above))).trans (I.base.keep b o e n hb hx)
  ·obtain⟨sl,e1⟩:=I.base.slot b o e n hb hx
   exact⟨sl,(hs.2 b (uS (uI (uw e) I.ok.above))).trans e1⟩
  ·obtain⟨o',e1⟩:=I.base.there b o e hx
   exact⟨o',(hs.2 b (uS (uI (uw e) I.ok.above))).trans e1⟩
  ·by_cases hj:j=i
   ·subst hj
    rw[hi]at e1;cases e1
    rw[List.getElem?_set_self hiσ]at e2
    cases e2
    exact⟨u,r,.inl ⟨hk,by simp⟩⟩
   ·rw[List.getElem?_set_ne (Ne.symm hj)]at e2
    obtain⟨u',r',q⟩:=hl j y v' e1 e2 e3
    refine⟨u',r',?_⟩
    rcases q with⟨k,e⟩|⟨k,c,e,z⟩
    ·refine .inl ⟨k,?_⟩
     have:y≠x:=fun e=>hj (Zr hN e1 (e ▸ hi))
     simp[this,e]
    ·exact .inr ⟨k,c,e,z.sameBut hs (cne y c e)⟩
  ·obtain⟨w',z⟩:=I.cell y c e
   exact⟨w',z.sameBut hs (cne y c e)⟩
  ·obtain⟨e,n,ne,nf,d⟩:=I.pin p hp
   exact⟨(hs.2 p.1 ne).trans e,n,ne,nf,d⟩
 ·have hfn:X.fn x=true:=by
   rcases hf with z|z
   ·exact z
   ·rw[z]at hk;cases hk
  obtain⟨c,hc⟩:=I.ok.has x (.inl hk)
  obtain⟨w',z⟩:=I.cell x c hc
  refine wpAny_storeName_cell I.ok.kind hk hc z (fun h' hc' hs=>?_)
  obtain⟨oc,hoc,hocd⟩:=id z
  refine h { s with heap:=h' } ⟨I.ok,I.os,I.bare,⟨fun b o e n hb hx=>?_,fun b o e n hb hx=>?_,I.base.free,fun b o e hx=>?_,I.base.tups,I.base.frzs,I.base.tbls⟩,⟨m,hn.sameBut hs (Ne.symm (cne x c hc)),fun j y v' e1 e2 e3=>?_⟩,fun y c' e=>?_,I.free,I.freeC,fun p hp=>?_,tracked ⟨oc,hoc,I.freeC x c hc⟩ hs,by simpa using I.len⟩ ⟨c,hs,.inr hc⟩
  ·exact(hs.2 b (uS (uI (uw e) (I.ok.cab x c hfn hc)))).trans (I.base.keep b o e n hb hx)
  ·obtain⟨sl,e1⟩:=I.base.slot b o e n hb hx
   exact⟨sl,(hs.2 b (uS (uI (uw e) (I.ok.cab x c hfn hc)))).trans e1⟩
  ·obtain⟨o',e1⟩:=I.base.there b o e hx
   exact⟨o',(hs.2 b (uS (uI (uw e) (I.ok.cab x c hfn hc)))).trans e1⟩
  ·by_cases hj:j=i
   ·subst hj
    rw[hi]at e1;cases e1
    rw[List.getElem?_set_self hiσ]at e2
    cases e2
    exact⟨u,r,.inr ⟨.inl hk,c,hc,hc'⟩⟩
   ·rw[List.getElem?_set_ne (Ne.symm hj)]at e2
    obtain⟨u',r',q⟩:=hl j y v' e1 e2 e3
    refine⟨u',r',?_⟩
    rcases q with q|⟨k,c',e,z'⟩
    ·exact .inl q
    ·refine .inr ⟨k,c',e,z'.sameBut hs ?_⟩
     rintro rfl
     exact hj (Zr hN e1 (I.ok.inj _ _ _ e hc ▸ hi))
  ·by_cases hcc:c'=c
   ·subst hcc;exact⟨_,hc'⟩
   ·obtain⟨w2,z2⟩:=I.cell y c' e
    exact⟨w2,z2.sameBut hs hcc⟩
  ·obtain⟨e,n,ne,nf,d⟩:=I.pin p hp
   refine⟨(hs.2 p.1 ?_).trans e,n,ne,nf,d⟩
   intro q
   rw[q,hoc]at e
   have q':oc=p.2:=uP.inj e
   exact d w' (by rw[<- q'];exact hocd)
theorem xK{M:Model}{A:Around}{E:Value->Shared->Prop}{i:Nat}{x:Str}{v:V}{u:Value}{Q:Unit->Shared->Prop}(I:Inv X pins σ H s)(hN:X.N.Nodup)(hi:X.N[i]?=some x)(hx:Loc X.env.scope x)(r:RelV v u)
  (h:∀s',Inv X pins (σ.set i (some v)) H s'->Q () s') (hf:X.fn x=true\/X.env.scope.names.lookup x=some .local:=by first|exact .inl rfl|exact .inr rfl|assumption):wpAny M A (storeName X.env x u) Q E s :=
 vY I hN hi hx r (fun s' I' _=>h s' I') hf
theorem Inv.call'{s':Shared}{ch:List Addr}(I:Inv X pins σ H s)(ho:s'.os=s.os)(u:Un (frs X.stack) ch H H' s.heap s'.heap)(hok:HOk X.prog X.w H' s'.heap)(hg:AllBare s'.gens)
  (hch:∀b∈ch,(b∈X.ex\/X.s₀.heap.objs.size<=b)/\b≠X.env.locals/\(∀x c,X.env.cells.lookup x=some c->c≠b)/\∀p∈X.pn++pins,p.1≠b):Inv X pins σ H' s':=by
 obtain⟨h',g',d',t',o'⟩:=s'
 have e:o'=s.os:=ho
 subst e
 exact I.call (g':=g') (t':=t') (d':=d') u hok hg hch
end
abbrev XK:=Value->Option Addr->Hp->Prop
abbrev St:=List (Option V)
abbrev VK:=V->Hp->Prop
abbrev TE:=St->Hp->VK->Prop
abbrev TT:=St->Hp->(Bool->Hp->Prop)->Prop
abbrev TA:=St->Hp->(List V->Hp->Prop)->Prop
structure Ends where
 nx:St->Hp->Prop
 rt:VK
 bk:St->Hp->Prop:=fun _ _=>False
 ct:St->Hp->Prop:=fun _ _=>False
abbrev TS:=Ends->St->Hp->Prop
def EP(X:Cx)(pins:List (Addr×Obj))(σ:St)(Q:VK)(u:Value)(s':Shared):Prop:=∃v H',Inv X pins σ H' s'/\RelV v u/\Q v H'
def TP(X:Cx)(pins:List (Addr×Obj))(σ:St)(Q:Bool->Hp->Prop)(b:Bool)(s':Shared):Prop:=∃H',Inv X pins σ H' s'/\Q b H'
def AP(X:Cx)(pins:List (Addr×Obj))(σ:St)(Q:List V->Hp->Prop)(us:List Value)(s':Shared):Prop:=∃vs H',Inv X pins σ H' s'/\Vals vs us/\Q vs H'
def SP(X:Cx)(pins:List (Addr×Obj))(D:Ends)(f:Flow)(s':Shared):Prop :=
 match f with
 |.next=>∃σ' H',Inv X pins σ' H' s'/\D.nx σ' H'
 |.brk=>∃σ' H',Inv X pins σ' H' s'/\D.bk σ' H'
 |.cont=>∃σ' H',Inv X pins σ' H' s'/\D.ct σ' H'
 |.ret u=>∃v σ' H',Inv X pins σ' H' s'/\RelV v u/\D.rt v H'
def PE(X:Cx)(e:Expr)(t:TE):Prop :=
 ∀(pins:List (Addr×Obj))(s:Shared)(σ:St)(H:Hp)(Q:VK),Inv X pins σ H s->t σ H Q->wpAny (model X.prog X.w) X.A (eval e X.env) (EP X pins σ Q) X.xe s
def PT(X:Cx)(e:Expr)(t:TT):Prop :=
 ∀(pins:List (Addr×Obj))(s:Shared)(σ:St)(H:Hp)(Q:Bool->Hp->Prop),Inv X pins σ H s->t σ H Q->wpAny (model X.prog X.w) X.A (isTrue e X.env (eval e X.env)) (TP X pins σ Q) X.xe s
def PW(X:Cx)(e:Expr)(t:TT):Prop :=
 ∀(whole:Sem Value)(pins:List (Addr×Obj))(s:Shared)(σ:St)(H:Hp)(Q:Bool->Hp->Prop),Inv X pins σ H s->t σ H Q->wpAny (model X.prog X.w) X.A (isTrue e X.env whole) (TP X pins σ Q) X.xe s
theorem PW.pt{X:Cx}{e:Expr}{t:TT}(h:PW X e t):PT X e t:=h _
def PA(X:Cx)(es:List Expr)(t:TA):Prop :=
 ∀(pos:Pos)(pins:List (Addr×Obj))(s:Shared)(σ:St)(H:Hp)(Q:List V->Hp->Prop),Inv X pins σ H s->t σ H Q->wpAny (model X.prog X.w) X.A (spliced (backTo pos (starEach es X.env))) (AP X pins σ Q) X.xe s
def PS(X:Cx)(st:Stmt)(t:TS):Prop :=
 ∀(pins:List (Addr×Obj))(s:Shared)(σ:St)(H:Hp)(D:Ends),Inv X pins σ H s->t D σ H->wpAny (model X.prog X.w) X.A (exec st X.env) (SP X pins D) X.xe s
def PSs(X:Cx)(st:List Stmt)(t:TS):Prop :=
 ∀(pins:List (Addr×Obj))(s:Shared)(σ:St)(H:Hp)(D:Ends),Inv X pins σ H s->t D σ H->wpAny (model X.prog X.w) X.A (execs st X.env) (SP X pins D) X.xe s
theorem thn{α:Type}{t:Sem α}{Q Q':α->Shared->Prop}{M:Model}{A:Around}{E:Value->Shared->Prop}{s:Shared}(h:wpAny M A t Q E s)(hQ:∀a s,Q a s->Q' a s):wpAny M A t Q' E s:=wpAny_mono h hQ fun _ _ x=>x
section
variable{X:Cx}
def tVar(i:Nat):TE:=fun σ H Q=>∃v,σ[i]?=some (some v)/\Q v H
def tC(v:V):TE:=fun _ H Q=>Q v H
theorem zbf{i:Nat}{x:Str}{pos:Pos}(hN:X.N[i]?=some x)(hv:Vis X.env.scope x)(hd:(x == ("__debug__":Str))=false:=by decide)(hcd:(x == ("__classdict__":Str))=false:=by decide):PE X (.Name x pos) (tVar i):=by
 intro pins s σ H Q I h
 obtain⟨v,e,h⟩:=h
 obtain⟨m,hn,hl⟩:=I.loc
 obtain⟨u,r,l⟩:=hl i x v hN e hv
 have fin:EP X pins σ Q u s:=⟨v,H,I,r,h⟩
 rcases l with⟨hk,hm⟩|⟨hk,c,hc,hcell⟩
 ·exact wpAny_Name (wpAny_loadName_local I.ok.kind hk hn hm fin) hd
 ·rcases hk with hk|hk
  ·exact wpAny_Name (wpAny_loadName_cell I.ok.kind hk hc hcell fin) hd
  ·exact wpAny_Name (wpAny_loadName_free I.ok.kind hk hc hcell fin hcd) hd
theorem zbg{i j pos}:PE X (.Constant (.int i) j pos) (tC (.int i)):=fun _ _ _ H _ I h=>wpAny_Constant_int ⟨.int i,H,I.tok _,⟨_,rfl⟩,h⟩
theorem zcJ{b j pos}:PE X (.Constant (.bool b) j pos) (tC (.bl b)):=fun _ _ _ H _ I h=>Constant_bool ⟨.bl b,H,I,rfl,h⟩
theorem zbh{x j pos}:PE X (.Constant (.str x) j pos) (tC (.str x)):=fun _ _ _ H _ I h=>Calls.Constant_str ⟨.str x,H,I.tok _,⟨_,rfl⟩,h⟩
def Gl(X:Cx)(x:Str):Prop:=X.env.kindOf x=some .globalImplicit
theorem xM{E:Value->Shared->Prop}{pins:List (Addr×Obj)}{s:Shared}{σ:St}{H:Hp}{x:Str}{u:Value}{pos:Pos}{Q:Value->Shared->Prop}(I:Inv X pins σ H s)(hg:Gl X x)(hm:X.mg x=some u)(h:Q u s)
  (hd:(x == ("__debug__":Str))=false:=by decide):wpAny (model X.prog X.w) X.A (eval (.Name x pos) X.env) Q E s :=
 Calls.Name_function_global I.ok.kind hg (Calls.loadGlobal_global (by rw[I.ok.glob];exact I.mod.glob.keeps I.bk) hm h) hd
theorem yZ{E:Value->Shared->Prop}{pins:List (Addr×Obj)}{s:Shared}{σ:St}{H:Hp}{x:Str}{u:Value}{pos:Pos}{Q:Value->Shared->Prop}(I:Inv X pins σ H s)(hg:Gl X x)(hm:X.mg x=none)(hv:bootBuiltins x=some u)(h:Q u s)
  (hn:x≠"__name__":=by decide) (hd:(x == ("__debug__":Str))=false:=by decide):wpAny (model X.prog X.w) X.A (eval (.Name x pos) X.env) Q E s:=by
 obtain⟨mb,h1,h2⟩:=I.mod.blt
 exact Calls.Name_function_global I.ok.kind hg (Calls.loadGlobal_builtin (by rw[I.ok.glob];exact I.mod.glob.keeps I.bk) hm (by rw[I.ok.blt];exact h1.keeps I.bk) ((h2 x hn).trans hv) h) hd
theorem JZ{x:Str}{v:V}{u:Value}{pos:Pos}(hg:Gl X x)(hm:X.mg x=some u)(r:RelV v u)(hd:(x == ("__debug__":Str))=false:=by decide):PE X (.Name x pos) (tC v) :=
 fun _ _ _ H _ I h=>xM I hg hm ⟨v,H,I,r,h⟩ hd
variable{a b:Expr}{ta tb:TE}{pos:Pos}
def PC(X:Cx)(op:CmpOp)(a b:Expr)(t:TE):Prop :=
 ∀(pins:List (Addr×Obj))(s:Shared)(σ:St)(H:Hp)(Q:VK),Inv X pins σ H s->t σ H Q ->
  wpAny (model X.prog X.w) X.A (eval a X.env) (fun v s₁=>wpAny (model X.prog X.w) X.A (eval b X.env) (fun u s₂=>wpAny (model X.prog X.w) X.A (compareOp op v u) (EP X pins σ Q) X.xe s₂) X.xe s₁) X.xe s
def tB(t:TE):TT:=fun σ H Q=>t σ H fun x H1=>∃c,x=.bl c/\Q c H1
theorem WL{op:CmpOp}{t:TE}(h:PC X op a b t)(h1:behindInMarks op b=false:=by first|exact nobehind _ (by decide) (by decide)|rfl):PT X (.Compare a [op] [b] pos) (tB t):=by
 intro pins s σ H Q I hw
 refine wpAny_isTrue_Compare1 (thn (h pins s σ H _ I hw) fun v s1 h1=>thn h1 fun u s2 h2=>thn h2 fun c s3 ⟨x,H1,I1,r1,q1⟩=>?_) h1
 obtain⟨d,rfl,q⟩:=q1
 cases r1
 exact wpAny_truthy_bool ⟨H1,I1,q⟩
theorem zbi{e:Expr}{t:TE}(h:PE X e t)(he:∀whole,isTrue e X.env whole=(do let v <- whole;standAt e.pos;holding [v] (truthy v)):=by intro _;rfl):PT X e (tB t):=by
 intro pins s σ H Q I hw
 refine isTrue_plain (thn (h pins s σ H _ I hw) fun v s1 ⟨x,H1,I1,r1,q1⟩=>?_) (he _)
 obtain⟨d,rfl,q⟩:=q1
 cases r1
 exact wpAny_truthy_bool ⟨H1,I1,q⟩
variable{tA tB':TT}{rest:List Expr}
def tAnd(t u:TT):TT:=fun σ H Q=>t σ H fun c H1=>if c=true then u σ H1 Q else Q false H1
def tOr(t u:TT):TT:=fun σ H Q=>t σ H fun c H1=>if c=true then Q true H1 else u σ H1 Q
def tNot(t:TT):TT:=fun σ H Q=>t σ H fun c H1=>Q (!c) H1
theorem pw_and1(ha:PT X a tA):PW X (.BoolOp .And [a] pos) tA:=by
 intro wh pins s σ H Q I h
 refine isTrue_and (thn (ha pins s σ H Q I h) fun c s1 e=>?_)
 cases c with
 |true=>exact isTrue_and_nil e
 |false=>exact e
theorem pw_or1(ha:PT X a tA):PW X (.BoolOp .Or [a] pos) tA:=by
 intro wh pins s σ H Q I h
 refine isTrue_or (thn (ha pins s σ H Q I h) fun c s1 e=>?_)
 cases c with
 |false=>exact isTrue_or_nil e
 |true=>exact e
theorem pw_and(ha:PT X a tA)(hb:PW X (.BoolOp .And (b::rest) pos) tB'):PW X (.BoolOp .And (a::b::rest) pos) (tAnd tA tB'):=by
 intro wh pins s σ H Q I h
 refine isTrue_and (thn (ha pins s σ H _ I h) fun c s1 ⟨H1,I1,q1⟩=>?_)
 cases c with
 |true=>exact hb wh pins s1 σ H1 Q I1 q1
 |false=>exact⟨H1,I1,q1⟩
theorem pw_or(ha:PT X a tA)(hb:PW X (.BoolOp .Or (b::rest) pos) tB'):PW X (.BoolOp .Or (a::b::rest) pos) (tOr tA tB'):=by
 intro wh pins s σ H Q I h
 refine isTrue_or (thn (ha pins s σ H _ I h) fun c s1 ⟨H1,I1,q1⟩=>?_)
 cases c with
 |true=>exact⟨H1,I1,q1⟩
 |false=>exact hb wh pins s1 σ H1 Q I1 q1
theorem zbj(ha:PT X a tA):PT X (.UnaryOp .Not a pos) (tNot tA):=by
 intro pins s σ H Q I h
 exact isTrue_not (ha pins s σ H (fun c H1=>Q (!c) H1) I h)
def zaH(ta tb:TE):TE:=fun σ H Q=>ta σ H fun x H1=>∃c,x=.bl c/\if c=true then tb σ H1 Q else Q (.bl false) H1
theorem zbk{op}{t:TE}(h:PE X a t):PE X (.BoolOp op [a] pos) t:=fun pins s σ H Q I hw=>BoolOp_one (h pins s σ H Q I hw)
theorem zbl(ha:PE X a ta)(hb:PE X (.BoolOp .And (b::rest) pos) tb):PE X (.BoolOp .And (a::b::rest) pos) (zaH ta tb):=by
 intro pins s σ H Q I h
 refine BoolOp_and (thn (ha pins s σ H _ I h) fun v s1 ⟨x,H1,I1,r1,q1⟩=>?_)
 obtain⟨c,rfl,q1⟩:=q1
 cases r1
 refine wpAny_truthy_bool ?_
 cases c with
 |true=>exact hb pins s1 σ H1 Q I1 q1
 |false=>exact⟨.bl false,H1,I1,rfl,q1⟩
def tIf(t:TT)(ta tb:TE):TE:=fun σ H Q=>t σ H fun c H1=>if c=true then ta σ H1 Q else tb σ H1 Q
theorem WM{c:Expr}(hc:PT X c tA)(ha:PE X a ta)(hb:PE X b tb):PE X (.IfExp c a b pos) (tIf tA ta tb):=by
 intro pins s σ H Q I h
 refine wpAny_IfExp (thn (hc pins s σ H _ I h) fun d s1 ⟨H1,I1,q1⟩=>?_)
 cases d with
 |true=>exact ha pins s1 σ H1 Q I1 q1
 |false=>exact hb pins s1 σ H1 Q I1 q1
end
def SqL(K:ub)(H:Hp)(a:Addr)(xs:List V):Prop :=
 Rd H a (.lst xs) \/
  ∃(o:Obj)(its:Array Value)(n:Nat),K.lookup a=some o/\o.cls=.type "list"/\o.dict=none/\o.data=.seq its n/\its.size<=sizeLine/\Vals xs its.toList
def SqT(K:ub)(H:Hp)(a:Addr)(xs:List V):Prop :=
 Rd H a (.tup xs) \/
  ∃(o:Obj)(its:Array Value)(n:Nat),K.lookup a=some o/\o.cls=.type "tuple"/\o.data=.seq its n/\its.size<=sizeLine/\Vals xs its.toList
def absV:Value->Option V
 |.none=>some .non
 |.bool b=>some (.bl b)
 |.int i _=>some (.int i)
 |.str x _=>some (.str x)
 |.bytes b _=>some (.byt b)
 |.float b _=>some (.flt b)
 |.ref a=>some (.ref a)
 |.type n=>some (.ty n)
 |_=>none
theorem RelV.abs{x:V}{u:Value}(r:RelV x u):absV u=some x:=by
 cases x with
 |non=>cases r;rfl
 |bl _=>cases r;rfl
 |int _=>obtain⟨t,rfl⟩:=r;rfl
 |str _=>obtain⟨t,rfl⟩:=r;rfl
 |byt _=>obtain⟨t,rfl⟩:=r;rfl
 |flt _=>obtain⟨t,rfl⟩:=r;rfl
 |ref _=>cases r;rfl
 |ty _=>cases r;rfl
theorem RelV.inj{x y:V}{u:Value}(r:RelV x u)(q:RelV y u):x=y:=uP.inj (r.abs.symm.trans q.abs)
theorem Vals.inj:∀{xs ys:List V}{us:List Value},Vals xs us->Vals ys us->xs=ys
 |_,_,_,.nil,.nil=>rfl
 |_,_,_,.cons r t,.cons r' t'=>by rw[r.inj r',Vals.inj t t']
section
variable{X:Cx}{pins:List (Addr×Obj)}{σ:St}{H:Hp}{s:Shared}{a:Addr}{xs ys:List V}
theorem SqL.of{K:ub}(h:H a=some (.lst xs)):SqL K H a xs:=.inl (.inl h)
theorem SqT.of{K:ub}(h:H a=some (.tup xs)):SqT K H a xs:=.inl (.inl h)
theorem Inv.list(I:Inv X pins σ H s)(h:SqL X.K H a xs):∃its:List Value,Vals xs its/\PlainL s.heap a its.toArray/\xs.length<=sizeLine:=by
 rcases h with h|⟨o,its,n,hk,hc,hd,hs,hz,r⟩
 ·obtain⟨z,its,n,r,e⟩:=h.ok I.hok
  exact⟨its,r,⟨_,n,e,rfl,rfl,rfl⟩,z⟩
 ·refine⟨its.toList,r,⟨o,n,I.kIn a o hk,hc,hd,by simpa using hs⟩,?_⟩
  have e:=r.length
  simp only[Array.length_toList]at e
  lia
theorem Inv.tuple(I:Inv X pins σ H s)(h:SqT X.K H a xs):∃its:List Value,Vals xs its/\IsTup s.heap a its.toArray/\xs.length<=sizeLine:=by
 rcases h with h|⟨o,its,n,hk,hc,hs,hz,r⟩
 ·obtain⟨z,its,r,p⟩:=h.ok I.hok
  exact⟨its,r,p.is,z⟩
 ·refine⟨its.toList,r,⟨o,I.kIn a o hk,hc,n,by simpa using hs⟩,?_⟩
  have e:=r.length
  simp only[Array.length_toList]at e
  lia
theorem Inv.list_inj(I:Inv X pins σ H s)(h:SqL X.K H a xs)(h':SqL X.K H a ys):xs=ys:=by
 obtain⟨its,r,⟨o,n,e,_,_,d⟩,_⟩:=I.list h
 obtain⟨its',r',⟨o',n',e',_,_,d'⟩,_⟩:=I.list h'
 rw[e]at e';cases e'
 rw[d]at d'
 injection d' with d1 _
 have:its=its':=by simpa using congrArg Array.toList d1
 subst this
 exact r.inj r'
theorem Inv.tuple_inj(I:Inv X pins σ H s)(h:SqT X.K H a xs)(h':SqT X.K H a ys):xs=ys:=by
 obtain⟨its,r,⟨o,e,_,n,d⟩,_⟩:=I.tuple h
 obtain⟨its',r',⟨o',e',_,n',d'⟩,_⟩:=I.tuple h'
 rw[e]at e';cases e'
 rw[d]at d'
 injection d' with d1 _
 have:its=its':=by simpa using congrArg Array.toList d1
 subst this
 exact r.inj r'
end
abbrev Cx.wish(X:Cx)(E:Value->Shared->Prop):Cx:={ X with xe:=E }
abbrev Cx.nox(X:Cx):Cx:=X.wish fun _ _=>False
theorem Cx.Ok.wish{X:Cx}(ok:X.Ok)(E:Value->Shared->Prop):(X.wish E).Ok :=
 ⟨ok.mod,ok.kind,ok.glob,ok.blt,ok.above,ok.inj,ok.has,ok.cab,ok.hd,ok.frames,ok.stk,ok.exf,ok.bs,ok.bsz,ok.noex,ok.exfs,ok.funs,ok.frf⟩
theorem Cx.Ok.unwish{X:Cx}{E:Value->Shared->Prop}(ok:(X.wish E).Ok):X.Ok :=
 ⟨ok.mod,ok.kind,ok.glob,ok.blt,ok.above,ok.inj,ok.has,ok.cab,ok.hd,ok.frames,ok.stk,ok.exf,ok.bs,ok.bsz,ok.noex,ok.exfs,ok.funs,ok.frf⟩
section
variable{X:Cx}{pins:List (Addr×Obj)}{σ:St}{H:Hp}{s:Shared}{E:Value->Shared->Prop}
theorem Inv.wish(I:Inv X pins σ H s)(E:Value->Shared->Prop):Inv (X.wish E) pins σ H s:=⟨I.ok.wish E,I.os,I.bare,I.base,I.loc,I.cell,I.free,I.freeC,I.pin,I.hok,I.len⟩
theorem Inv.unwish(I:Inv (X.wish E) pins σ H s):Inv X pins σ H s:=⟨I.ok.unwish,I.os,I.bare,I.base,I.loc,I.cell,I.free,I.freeC,I.pin,I.hok,I.len⟩
theorem SP.unwish{D:Ends}{f:Flow}{s':Shared}(h:SP (X.wish E) pins D f s'):SP X pins D f s':=by
 cases f with
 |next=>obtain⟨σ',H',I,q⟩:=h;exact⟨σ',H',I.unwish,q⟩
 |brk=>obtain⟨σ',H',I,q⟩:=h;exact⟨σ',H',I.unwish,q⟩
 |cont=>obtain⟨σ',H',I,q⟩:=h;exact⟨σ',H',I.unwish,q⟩
 |ret u=>obtain⟨v,σ',H',I,r,q⟩:=h;exact⟨v,σ',H',I.unwish,r,q⟩
theorem PSs.nox{st:List Stmt}{t:TS}(h:PSs X.nox st t):PSs X st t:=fun pins s σ H D I hw =>
 wpAny_mono (h pins s σ H D (I.wish _) hw) (fun _ _ q=>q.unwish) fun _ _ z=>False.elim z
end
section
variable{X:Cx}{st:Stmt}{rest:List Stmt}{t u:TS}{e:Expr}{te:TE}{pos:Pos}
def wI:TS:=fun D σ H=>D.nx σ H
def tSeq(t u:TS):TS:=fun D σ H=>t { D with nx:=u D } σ H
theorem J0:PSs X [] wI:=fun _ _ σ H _ I h=>wpAny_execs_nil ⟨σ,H,I,h⟩
theorem WN(h1:PS X st t)(h2:PSs X rest u):PSs X (st::rest) (tSeq t u):=by
 intro pins s σ H D I h
 refine wpAny_execs_cons (thn (h1 pins s σ H { D with nx:=u D } I h) fun f s1 q=>?_)
 cases f with
 |next =>
  obtain⟨σ',H',I',q⟩:=q
  exact h2 pins s1 σ' H' D I' q
 |ret v=>exact q
 |brk=>exact q
 |cont=>exact q
theorem J1(h1:PS X st t):PSs X [st] t:=by
 intro pins s σ H D I h
 refine wpAny_execs_cons (thn (h1 pins s σ H D I h) fun f s1 q=>?_)
 cases f with
 |next=>exact wpAny_execs_nil q
 |ret v=>exact q
 |brk=>exact q
 |cont=>exact q
theorem Inv.quiet{pins:List (Addr×Obj)}{σ:St}{H:Hp}{s:Shared}(I:Inv X pins σ H s):interactive X.env=false:=by simp[interactive,I.ok.kind]
def zaI(te:TE):TS:=fun D σ H=>te σ H fun _ H1=>D.nx σ H1
theorem J2(he:PE X e te)(hs:swapsWith e none pos.line X.env=pure false:=by rfl):PS X (.Expr e pos) (zaI te):=by
 intro pins s σ H D I h
 exact wpAny_Expr_any (thn (he pins s σ H _ I h) fun v s1 ⟨x,H1,I1,r1,q1⟩=>⟨σ,H1,I1,q1⟩) I.quiet hs
def tRet(te:TE):TS:=fun D σ H=>te σ H D.rt
theorem zbm(he:PE X e te):PS X (.Return (some e) pos) (tRet te):=by
 intro pins s σ H D I h
 exact wpAny_Return_some (thn (he pins s σ H _ I h) fun v s1 ⟨x,H1,I1,r1,q1⟩=>⟨x,σ,H1,I1,r1,q1⟩)
def tIfS(c:TT)(t u:TS):TS:=fun D σ H=>c σ H fun b H1=>if b=true then t D σ H1 else u D σ H1
theorem zcK{c:Expr}{a b:List Stmt}{tc:TT}(hc:PT X c tc)(ha:PSs X a t)(hb:PSs X b u):PS X (.If c a b pos) (tIfS tc t u):=by
 intro pins s σ H D I h
 refine wpAny_If (thn (hc pins s σ H _ I h) fun d s1 ⟨H1,I1,q1⟩=>?_)
 cases d with
 |true=>exact ha pins s1 σ H1 D I1 q1
 |false=>exact hb pins s1 σ H1 D I1 q1
end
abbrev TG:=V->St->Hp->(St->Hp->Prop)->Prop
abbrev TGs:=List V->St->Hp->(St->Hp->Prop)->Prop
def PG(X:Cx)(target:Expr)(t:TG):Prop :=
 ∀(pins:List (Addr×Obj))(s:Shared)(σ:St)(H:Hp)(v:V)(u:Value)(Q:St->Hp->Prop),Inv X pins σ H s->RelV v u->t v σ H Q ->
  wpAny (model X.prog X.w) X.A (assign target X.env u) (fun _ s'=>∃σ' H',Inv X pins σ' H' s'/\Q σ' H') X.xe s
def PGs(X:Cx)(ts:List Expr)(t:TGs):Prop :=
 ∀(pins:List (Addr×Obj))(s:Shared)(σ:St)(H:Hp)(vs:List V)(us:List Value)(Q:St->Hp->Prop),Inv X pins σ H s->Vals vs us->t vs σ H Q ->
  wpAny (model X.prog X.w) X.A (assignInOrder ((assignEach ts X.env).map (·.2)) us) (fun _ s'=>∃σ' H',Inv X pins σ' H' s'/\Q σ' H') X.xe s
abbrev TSet:=V->V->V->Hp->(Hp->Prop)->Prop
def PSet(X:Cx)(t:TSet):Prop :=
 ∀(pins:List (Addr×Obj))(s:Shared)(σ:St)(H:Hp)(o i v:V)(ov iv u:Value)(Q:Hp->Prop),Inv X pins σ H s->RelV o ov->RelV i iv->RelV v u->t o i v H Q ->
  wpAny (model X.prog X.w) X.A (setItem ov iv u) (fun _ s'=>∃H',Inv X pins σ H' s'/\Q H') X.xe s
section
variable{X:Cx}{pos:Pos}
def xg(i:Nat):TG:=fun v σ H Q=>Q (σ.set i (some v)) H
theorem J3{i:Nat}{x:Str}(hN:X.N.Nodup)(hi:X.N[i]?=some x)(hx:Loc X.env.scope x)(hf:X.fn x=true\/X.env.scope.names.lookup x=some .local:=by first|exact .inl rfl|exact .inr rfl|assumption):PG X (.Name x pos) (xg i):=by
 intro pins s σ H v u Q I r h
 exact wpAny_assign_Name (xK I hN hi hx r (fun s' I'=>⟨_,H,I',h⟩) hf)
def gNil:TGs:=fun vs σ H Q=>vs=[]/\Q σ H
def zaJ(t:TG)(u:TGs):TGs:=fun vs σ H Q=>∃v r,vs=v::r/\t v σ H fun σ' H'=>u r σ' H' Q
theorem J4:PGs X [] gNil:=by
 intro pins s σ H vs us Q I r h
 obtain⟨e,h⟩:=h
 subst e
 cases r
 exact assignInOrder_nil ⟨σ,H,I,h⟩
theorem WO{e:Expr}{es:List Expr}{t:TG}{u:TGs}(h1:PG X e t)(h2:PGs X es u)
  (hs:(assignEach (e::es) X.env).map (·.2)=assign e X.env::(assignEach es X.env).map (·.2):=by rfl):PGs X (e::es) (zaJ t u):=by
 intro pins s σ H vs us Q I r h
 obtain⟨v,vr,e1,h⟩:=h
 subst e1
 cases r with
 |cons r rr =>
  rw[hs]
  refine assignInOrder_cons (thn (h1 pins s σ H _ _ _ I r h) fun _ s1 ⟨σ1,H1,I1,q1⟩=>?_)
  exact h2 pins s1 σ1 H1 _ _ Q I1 rr q1
def gTup(K:ub)(n:Nat)(t:TGs):TG:=fun v σ H Q=>∃a xs,v=.ref a/\SqT K H a xs/\xs.length=n/\t xs σ H Q
theorem zbn{es:List Expr}{k:Nat}{t:TGs}{n:Nat}(hc:X.calm=true)(h:PGs X es t)
  (hn:(assignEach es X.env).length=n:=by rfl) (hst:(assignEach es X.env).findIdx? (·.1)=none:=by rfl):PG X (.Tuple es k pos) (gTup X.K n t):=by
 intro pins s σ H v u Q I r hw
 obtain⟨a,xs,e1,hq,hl,hw⟩:=hw
 subst e1
 cases r
 obtain⟨its,rv,ht,hz⟩:=I.tuple hq
 refine assign_Tuple_tuple (I.ok.hd hc) ht (by simp[hn,<- hl,rv.length]) hst fun h' hx=>?_
 have I1:Inv X pins σ H { s with heap:=h' }:=I.kept (t':=s.toks) fun b o e=>hx b o (uS (uw e)) e
 exact h pins _ σ H xs _ Q I1 (by simpa using rv) hw
def gSub(to ti:TE)(t:TSet):TG:=fun v σ H Q=>to σ H fun o H1=>ti σ H1 fun i H2=>t o i v H2 fun H3=>Q σ H3
theorem zbo{o i:Expr}{to ti:TE}{t:TSet}(ho:PE X o to)(hi:PE X i ti)(hs:PSet X t)
  (ha:∀v,assign (.Subscript o i pos) X.env v=(do
   let ov <- holding [v] (eval o X.env)
   let iv <- holding [v,ov] (eval i X.env)
   standAt pos
   holding [v,ov,iv] (setItem ov iv v)
   release [v,ov,iv] []):=by intro _;rfl):PG X (.Subscript o i pos) (gSub to ti t):=by
 intro pins s σ H v u Q I r h
 rw[ha]
 refine wpAny_bind (wpAny_holding (thn (ho pins s σ H _ I h) fun ov s1 ⟨x,H1,I1,r1,q1⟩=>?_))
 refine wpAny_bind (wpAny_holding (thn (hi pins s1 σ H1 _ I1 q1) fun iv s2 ⟨y,H2,I2,r2,q2⟩=>?_))
 refine wpAny_bind (wpAny_standAt (wpAny_bind (wpAny_holding (thn (hs pins s2 σ H2 x y v ov iv u _ I2 r1 r2 r q2) fun _ s3 ⟨H3,I3,q3⟩=>?_))))
 exact wpAny_release ⟨σ,H3,I3,q3⟩
def tAsg(te:TE)(g:TG):TS:=fun D σ H=>te σ H fun x H1=>g x σ H1 D.nx
theorem zbp{tg e:Expr}{te:TE}{g:TG}(he:PE X e te)(hg:PG X tg g)(hs:swapsWithSole [tg] e pos.line X.env=pure false:=by rfl)(hw:swappedStores [tg] e X.env=pure none:=by rfl)
  (h1:(assignEach [tg] X.env).map (·.2)=[assign tg X.env]:=by rfl):PS X (.Assign [tg] e pos) (tAsg te g):=by
 intro pins s σ H D I h
 refine wpAny_Assign_stores (thn (he pins s σ H _ I h) fun v s1 ⟨x,H1,I1,r1,q1⟩=>?_) hs hw
 rw[h1]
 exact thn (hg pins s1 σ H1 x v _ I1 r1 q1) fun _ s2 q=>q
theorem zbq{i:Nat}{x:Str}{e:Expr}{te:TE}{pos':Pos}(hN:X.N.Nodup)(hi:X.N[i]?=some x)(hx:Loc X.env.scope x)(he:PE X e te)(hs:swapsWith e (some (.Name x pos')) pos.line X.env=pure false:=by rfl)(hf:X.fn x=true\/X.env.scope.names.lookup x=some .local:=by first|exact .inl rfl|exact .inr rfl|assumption):
  PS X (.Assign [.Name x pos'] e pos) (tAsg te (xg i)):=by
 intro pins s σ H D I h
 refine wpAny_Assign_Name (thn (he pins s σ H _ I h) fun v s1 ⟨y,H1,I1,r1,q1⟩=>?_) hs
 exact xK I1 hN hi hx r1 (fun s2 I2=>⟨_,H1,I2,q1⟩) hf
def tPar(i j:Nat)(ta:TA):TS:=fun D σ H=>ta σ H fun vs H1=>∃v w,vs=[v,w]/\D.nx ((σ.set i (some v)).set j (some w)) H1
theorem zbr{i j:Nat}{x y:Str}{a b:Expr}{ta:TA}{px py pt:Pos}{kt k2 pt2}(hc:X.calm=true)(hN:X.N.Nodup)(hi:X.N[i]?=some x)(hj:X.N[j]?=some y)(hij:i≠j)
  (hx:X.env.scope.names.lookup x=some .local) (hy:X.env.scope.names.lookup y=some .local) (ha:PA X [a,b] ta)
  (hw:swappedStores [.Tuple [.Name x px,.Name y py] kt pt] (.Tuple [a,b] k2 pt2) X.env=pure (some [x,y]))
  (hs:swapsWithSole [.Tuple [.Name x px,.Name y py] kt pt] (.Tuple [a,b] k2 pt2) pos.line X.env=pure false:=by rfl) :
  PS X (.Assign [.Tuple [.Name x px,.Name y py] kt pt] (.Tuple [a,b] k2 pt2) pos) (tPar i j ta):=by
 intro pins s σ H D I h
 rw[exec_Assign_arm]
 refine wpAny_bind (wpAny_standAt ?_)
 rw[hs]
 refine wpAny_bind (wpAny_pure ?_)
 rw[if_neg (by decide)]
 refine wpAny_bind (Tuple_ (thn (ha _ pins s σ H _ I h) fun us s1 ⟨vs,H1,I1,r1,q1⟩=>?_))
 obtain⟨v,w,e1,q1⟩:=q1
 subst e1
 obtain⟨u1,u2,rfl,rv,rw'⟩:∃u1 u2,us=[u1,u2]/\RelV v u1/\RelV w u2:=by
  cases r1 with
  |cons p q =>
   cases q with
   |cons p' q' =>
    cases q'
    exact⟨_,_,rfl,p,p'⟩
 refine wpAny_newObj_type ?_ sN2
 have I2:Inv X pins σ H1 { s1 with heap:=s1.heap.push { cls:=.type "tuple",data:=.seq [u1,u2].toArray } }:=I1.kept (t':=s1.toks) fun b o e=>ug _ e
 rw[hw]
 refine wpAny_bind (wpAny_pure ?_)
 show wpAny (model X.prog X.w) X.A (do rule "assign.swapped-stores";let items <- unpackItems (.ref s1.heap.objs.size) 2 none;assignInOrder [fun v=>bindName X.env y v,fun v=>bindName X.env x v] items.reverse;pure Flow.next) _ _ _
 refine wpAny_bind (wpAny_rule (wpAny_bind (unpackItems_tuple (items:=#[u1,u2]) (I.ok.hd hc) (IsTup.new s1.heap _) fun h' hx'=>?_)))
 have I3:=I2.kept (h':=h') (t':=s1.toks) fun b o e=>hx' b o (uS (uw e)) e
 show wpAny _ _ (assignInOrder [fun v=>bindName X.env y v,fun v=>bindName X.env x v] [u2,u1] >>= fun _=>pure Flow.next) _ _ _
 refine wpAny_bind (assignInOrder_cons (wpAny_bindName (xK I3 hN hj (.inl hy) rw' (fun s2 I4=>?_) (.inr hy))))
 refine assignInOrder_cons (wpAny_bindName (xK I4 hN hi (.inl hx) rv (fun s3 I5=>assignInOrder_nil (wpAny_pure ?_)) (.inr hx)))
 rw[List.set_comm _ _ (Ne.symm hij)]at I5
 exact⟨_,H1,I5,q1⟩
def WP(c:TT)(tb:TS):TS:=fun D σ H=>∃W:Nat->St->Hp->Prop,(∃m,W m σ H)/\∀m σ H,W m σ H ->
 c σ H fun b H1=>if b=true then ∃N:St->Hp->Prop,(∀σ' H',N σ' H'->∃m',m' < m/\W m' σ' H')/\tb { D with nx:=N,ct:=N,bk:=D.nx } σ H1 else D.nx σ H1
theorem WQ{c:Expr}{body:List Stmt}{tc:TT}{tb:TS}(hp:PassesOwn (model X.prog X.w) X.A X.env X.xe)(hc:PT X c tc)(hb:PSs X body tb):PS X (.While c body [] pos) (WP tc tb):=by
 intro pins s σ H D I h
 obtain⟨W,⟨m0,w0⟩,turn⟩:=h
 refine wpAny_While (codeAny_whileLoop (fun n s'=>∃σ' H',Inv X pins σ' H' s'/\W n σ' H') ?_ m0 ⟨σ,H,I,w0⟩)
 rintro n s1 ⟨σ1,H1,I1,w1⟩
 refine wpAny_passesOwn hp (thn (hc pins s1 σ1 H1 _ I1 (turn n σ1 H1 w1)) fun b s2 ⟨H2,I2,q2⟩=>?_)
 cases b with
 |true =>
  obtain⟨N,hN,q2⟩:=q2
  rw[if_pos rfl]
  refine wpAny_passesOwn hp (thn (hb pins s2 σ1 H2 _ I2 q2) fun f s3 q3=>?_)
  cases f with
  |next =>
   obtain⟨σ3,H3,I3,n3⟩:=q3
   obtain⟨m',hm,w3⟩:=hN σ3 H3 n3
   exact⟨m',hm,σ3,H3,I3,w3⟩
  |cont =>
   obtain⟨σ3,H3,I3,n3⟩:=q3
   obtain⟨m',hm,w3⟩:=hN σ3 H3 n3
   exact⟨m',hm,σ3,H3,I3,w3⟩
  |brk=>exact q3
  |ret v=>exact q3
 |false =>
  rw[if_neg ux]
  exact wpAny_execs_nil ⟨σ1,H2,I2,q2⟩
end
structure It where
 go:Nat->Hp->Prop
 yld:Nat->Hp->V->Hp->Prop
 stop:Nat->Hp->Prop
def FpOk(X:Cx)(pins:List (Addr×Obj))(H:Hp)(b:Addr):Prop :=
 H b=none/\b≠X.env.locals/\b∉X.fs/\(b∈X.ex\/X.s₀.heap.objs.size<=b)/\(∀x c,X.env.cells.lookup x=some c->c≠b)/\∀p∈X.pn++pins,p.1≠b
theorem Inv.fpOk{X:Cx}{pins:List (Addr×Obj)}{σ:St}{H H':Hp}{s:Shared}{b:Addr}(I:Inv X pins σ H s)(hb:s.heap.objs.size<=b)(hn:H' b=none):FpOk X pins H' b:=by
 refine⟨hn,Nat.ne_of_gt (uI I.lt hb),I.nofs hb,.inr (Ua I.sz hb),fun x c e z=>?_,fun p hp z=>?_⟩
 ·obtain⟨v,q⟩:=I.cell x c e
  exact absurd (uI q.lt (by rw[z];exact hb)) (UE _)
 ·exact absurd (uI (uw (I.pin p hp).1) (by rw[z];exact hb)) (UE _)
structure Turn(P:Program)(w:World)(K:ub)(tg:Expr)(J:It)(fp:List Addr)(it:Addr)(tn:Nat->Heap->Prop):Prop where
 mem:it∈fp
 obj:∀i h,tn i h->∀b∈fp,∃o,h.get? b=some o/\∀v,o.data≠.cell v
 keep:∀i h h',tn i h->(∀b∈fp,∀o,h.get? b=some o->h'.get? b=some o)->tn i h'
 item:∀(X:Cx),X.prog=P->X.w=w->X.K=K->X.calm=true->∀(i:Nat)(pins:List (Addr×Obj))(s:Shared)(σ:St)(H:Hp)(E:Value->Shared->Prop),Inv X pins σ H s->(∀b∈fp,FpOk X pins H b)->tn i s.heap->J.go i H ->
  wpAny (model P w) X.A (pyNext (.ref it)) (fun r s1=>∃u,r=some u /\
   wpAny (model P w) X.A (letOwnedTupleGo tg (.ref it) u) (fun _ s2=>∃x H',Inv X pins σ H' s2/\RelV x u/\J.yld i H x H'/\tn (i+1) s2.heap/\∀b∈fp,H' b=none) E s1) E s
 done:∀(X:Cx),X.prog=P->X.w=w->X.K=K->X.calm=true->∀(i:Nat)(pins:List (Addr×Obj))(s:Shared)(σ:St)(H:Hp)(E:Value->Shared->Prop),Inv X pins σ H s->(∀b∈fp,FpOk X pins H b)->tn i s.heap->J.stop i H ->
  wpAny (model P w) X.A (pyNext (.ref it)) (fun r s1=>r=none/\Inv X pins σ H s1) E s
 self:∀(A:Around)(i:Nat)(s:Shared)(Q:Value->Shared->Prop)(E:Value->Shared->Prop),tn i s.heap->Q (.ref it) s->wpAny (model P w) A (pyIter (.ref it)) Q E s
abbrev TI:=St->Hp->(It->Hp->Prop)->Prop
def PIE(X:Cx)(pins:List (Addr×Obj))(σ:St)(tg:Expr)(R:It->Hp->Prop)(itv:Value)(s2:Shared):Prop :=
 ∃(it:Addr)(fp:List Addr)(tn:Nat->Heap->Prop)(J:It)(H':Hp),itv=.ref it/\Inv X pins σ H' s2/\Turn X.prog X.w X.K tg J fp it tn/\tn 0 s2.heap/\(∀b∈fp,FpOk X pins H' b)/\R J H'
def PI(X:Cx)(tg iter:Expr)(wi:TI):Prop :=
 ∀(pins:List (Addr×Obj))(s:Shared)(σ:St)(H:Hp)(R:It->Hp->Prop),Inv X pins σ H s->wi σ H R ->
  wpAny (model X.prog X.w) X.A (eval iter X.env) (fun v s1=>wpAny (model X.prog X.w) X.A (pyIter v) (PIE X pins σ tg R) X.xe s1) X.xe s
theorem Y2{M:Model}{A:Around}{E:Value->Shared->Prop}{s:Shared}{tg:Expr}{it:Addr}{u:Value}{o:Obj}{n:String}{vs:Array Value}{Q:Unit->Shared->Prop}(ho:s.heap.get? it=some o)(hc:o.cls=.type n)(hd:o.data=.fields vs)
  (hn:["enumerate","zip","dict_itemiterator","dict_reverseitemiterator","odict_iterator","itertools.zip_longest","itertools.pairwise"].contains n=false) (hQ:Q () s):wpAny M A (letOwnedTupleGo tg (.ref it) u) Q E s:=by
 unfold letOwnedTupleGo
 cases tg<;>first
  |exact wpAny_pure hQ
  | (cases u<;>first
    |exact wpAny_pure hQ
    | (refine wpAny_bind (wpAny_load ho ?_)
       rw[hc,hd]
       show wpAny M A (if(["enumerate","zip","dict_itemiterator","dict_reverseitemiterator","odict_iterator","itertools.zip_longest","itertools.pairwise"].contains n && vs[0]? == some (rawInt _))=true then _ else _) Q E s
       rw[if_neg (by intro h;rw[hn,Uu]at h;cases h)]
       exact wpAny_pure hQ))
def Itl(K:ub)(a:Addr):It :=
 ⟨fun i H=>∃xs x,SqL K H a xs/\xs[i]?=some x,fun i H x H'=>H'=H/\∀xs,SqL K H a xs->xs[i]?=some x,fun i H=>∃xs,SqL K H a xs/\xs.length<=i⟩
def Itt(K:ub)(a:Addr):It :=
 ⟨fun i H=>∃xs x,SqT K H a xs/\xs[i]?=some x,fun i H x H'=>H'=H/\∀xs,SqT K H a xs->xs[i]?=some x,fun i H=>∃xs,SqT K H a xs/\xs.length<=i⟩
def Itr(lo:Int)(n:Nat):It:=⟨fun i _=>i < n,fun i H x H'=>H'=H/\x=.int (lo+i),fun i _=>n<=i⟩
theorem XY{P:Program}{w:World}{K:ub}{tg:Expr}(a it:Addr):Turn P w K tg (Itl K a) [it] it (fun i h=>h.IsListIter it a i) where
 mem:=by simp
 obj:=fun i h st b hb=>by
  have e:b=it:=by simpa using hb
  subst e
  obtain⟨o,e,c,d⟩:=st
  exact⟨o,e,fun v z=>by rw[d]at z;cases z⟩
 keep:=fun i h h' st k=>st.at fun o e=>k it (by simp) o e
 item:=by
  intro X hP hw hK hc i pins s σ H E I hf st hg
  subst hP hw hK
  obtain⟨xs,x,hq,hx⟩:=hg
  obtain⟨its,rv,p,hz⟩:=I.list hq
  obtain⟨u,hu,ru⟩:=rv.get hx
  obtain⟨f0,f1,f2,f3,f4,f5⟩:=hf it (by simp)
  refine wpAny_pyNext_list_item st p.isList (x:=u) (by simpa using hu) fun h' st' sb=>?_
  have I1:Inv X pins σ H { s with heap:=h' }:=I.turned (t':=s.toks) (fun b o hb e=>(sb.2 b hb).trans e) f0 f1 f3 f4 f5
  obtain⟨o,e,c,d⟩:=id st'
  exact⟨u,rfl,Y2 (s:={ s with heap:=h' }) e c d (by decide) ⟨x,H,I1,ru,⟨rfl,fun ys hy=>by rw[I.list_inj hy hq];exact hx⟩,st',fun b hb=>(hf b hb).1⟩⟩
 done:=by
  intro X hP hw hK hc i pins s σ H E I hf st hg
  subst hP hw hK
  obtain⟨xs,hq,hx⟩:=hg
  obtain⟨its,rv,p,hz⟩:=I.list hq
  obtain⟨f0,f1,f2,f3,f4,f5⟩:=hf it (by simp)
  have hl:=rv.length
  exact wpAny_pyNext_list_end (I.ok.hd hc) st p.isList (by simp;lia) fun h' eb=>⟨rfl,I.turned (t':=s.toks) (fun b o hb e=>eb b o hb e) f0 f1 f3 f4 f5⟩
 self:=fun _ _ _ _ _ st h=>wpAny_pyIter_listiter st h
theorem Yb{P:Program}{w:World}{K:ub}{tg:Expr}(a it:Addr):Turn P w K tg (Itt K a) [it] it (fun i h=>h.IsTupleIter it a i) where
 mem:=by simp
 obj:=fun i h st b hb=>by
  have e:b=it:=by simpa using hb
  subst e
  obtain⟨o,e,c,d⟩:=st
  exact⟨o,e,fun v z=>by rw[d]at z;cases z⟩
 keep:=fun i h h' st k=>st.at fun o e=>k it (by simp) o e
 item:=by
  intro X hP hw hK hc i pins s σ H E I hf st hg
  subst hP hw hK
  obtain⟨xs,x,hq,hx⟩:=hg
  obtain⟨its,rv,p,hz⟩:=I.tuple hq
  obtain⟨u,hu,ru⟩:=rv.get hx
  obtain⟨f0,f1,f2,f3,f4,f5⟩:=hf it (by simp)
  refine wpAny_pyNext_tuple_item st (show s.heap.IsTuple a its.toArray from p) (x:=u) (by simpa using hu) fun h' st' sb=>?_
  have I1:Inv X pins σ H { s with heap:=h' }:=I.turned (t':=s.toks) (fun b o hb e=>(sb.2 b hb).trans e) f0 f1 f3 f4 f5
  obtain⟨o,e,c,d⟩:=id st'
  exact⟨u,rfl,Y2 (s:={ s with heap:=h' }) e c d (by decide) ⟨x,H,I1,ru,⟨rfl,fun ys hy=>by rw[I.tuple_inj hy hq];exact hx⟩,st',fun b hb=>(hf b hb).1⟩⟩
 done:=by
  intro X hP hw hK hc i pins s σ H E I hf st hg
  subst hP hw hK
  obtain⟨xs,hq,hx⟩:=hg
  obtain⟨its,rv,p,hz⟩:=I.tuple hq
  obtain⟨f0,f1,f2,f3,f4,f5⟩:=hf it (by simp)
  have hl:=rv.length
  exact wpAny_pyNext_tuple_end (I.ok.hd hc) st (show s.heap.IsTuple a its.toArray from p) (by simp;lia) fun h' eb=>⟨rfl,I.turned (t':=s.toks) (fun b o hb e=>eb b o hb e) f0 f1 f3 f4 f5⟩
 self:=fun _ _ _ _ _ st h=>wpAny_pyIter_tupleiter st h
theorem Yc{P:Program}{w:World}{K:ub}{tg:Expr}(it:Addr)(lo:Int)(n:Nat):Turn P w K tg (Itr lo n) [it] it (fun i h=>IsRangeIter h it (lo+(i:Nat)*1) ((n:Int)-(i:Nat)) 1) where
 mem:=by simp
 obj:=fun i h st b hb=>by
  have e:b=it:=by simpa using hb
  subst e
  exact⟨_,st,fun v z=>by
   have z':Data.fields _=Data.cell v:=z
   cases z'⟩
 keep:=fun i h h' st k=>k it (by simp) _ st
 item:=by
  intro X hP hw hK hc i pins s σ H E I hf st hg
  subst hP hw hK
  obtain⟨f0,f1,f2,f3,f4,f5⟩:=hf it (by simp)
  have W:=Walks.range (prog:=X.prog) (w:=X.w) (I.ok.hd hc) it lo 1 n
  refine W.item i s _ _ hg st fun v h' tk hv st' kk=>?_
  obtain⟨t,rfl⟩:=hv
  have I1:Inv X pins σ H { s with heap:=h',toks:=tk }:=I.turned (fun b o hb e=>kk b o (by simpa using hb) e) f0 f1 f3 f4 f5
  refine⟨_,rfl,Y2 (s:={ s with heap:=h',toks:=tk }) (n:="range_iterator") st' rfl rfl (by decide) ⟨.int (lo+i),H,I1,⟨t,?_⟩,⟨rfl,rfl⟩,st',fun b hb=>(hf b hb).1⟩⟩
  rw[Int.mul_one]
 done:=by
  intro X hP hw hK hc i pins s σ H E I hf st hg
  subst hP hw hK
  obtain⟨f0,f1,f2,f3,f4,f5⟩:=hf it (by simp)
  exact wpAny_pyNext_range_end (I.ok.hd hc) st (by have:n<=i:=hg;lia) fun h' eb=>⟨rfl,I.turned (t':=s.toks) (fun b o hb e=>eb b o hb e) f0 f1 f3 f4 f5⟩
 self:=fun _ _ _ _ _ st h=>wpAny_pyIter_rangeiter st h
section
variable{X:Cx}{tg:Expr}
def zaK(K:ub)(tl:TE):TI:=fun σ H R=>tl σ H fun x H1=>∃a,x=.ref a/\(∃xs,SqL K H1 a xs)/\R (Itl K a) H1
def iTup(K:ub)(tl:TE):TI:=fun σ H R=>tl σ H fun x H1=>∃a,x=.ref a/\(∃xs,SqT K H1 a xs)/\R (Itt K a) H1
theorem J5{l:Expr}{tl:TE}(hl:PE X l tl):PI X tg l (zaK X.K tl):=by
 intro pins s σ H R I h
 refine thn (hl pins s σ H _ I h) fun v s1 ⟨x,H1,I1,r1,q1⟩=>?_
 obtain⟨a,e,⟨xs,hq⟩,q⟩:=q1
 subst e
 cases r1
 obtain⟨its,rv,p,hz⟩:=I1.list hq
 refine wpAny_pyIter_list p.isList ?_
 refine⟨s1.heap.objs.size,[s1.heap.objs.size],_,_,H1,rfl,I1.kept (t':=s1.toks) fun b o e=>ug _ e,XY a _,⟨_,uy _ rfl,rfl,rfl⟩,fun b hb=>?_,q⟩
 have e:b=s1.heap.objs.size:=by simpa using hb
 subst e
 exact I1.fpOk (ud _) (I1.hok.fresh (ud _))
theorem zbs{l:Expr}{tl:TE}(hl:PE X l tl):PI X tg l (iTup X.K tl):=by
 intro pins s σ H R I h
 refine thn (hl pins s σ H _ I h) fun v s1 ⟨x,H1,I1,r1,q1⟩=>?_
 obtain⟨a,e,⟨xs,hq⟩,q⟩:=q1
 subst e
 cases r1
 obtain⟨its,rv,p,hz⟩:=I1.tuple hq
 refine wpAny_pyIter_tuple (show s1.heap.IsTuple a its.toArray from p) ?_
 refine⟨s1.heap.objs.size,[s1.heap.objs.size],_,_,H1,rfl,I1.kept (t':=s1.toks) fun b o e=>ug _ e,Yb a _,⟨_,uy _ rfl,rfl,rfl⟩,fun b hb=>?_,q⟩
 have e:b=s1.heap.objs.size:=by simpa using hb
 subst e
 exact I1.fpOk (ud _) (I1.hok.fresh (ud _))
theorem WR{pins:List (Addr×Obj)}{σ:St}{H:Hp}{s:Shared}{R:It->Hp->Prop}{E:Value->Shared->Prop}{lo hi:Int}{t u v:Tok}{tk:Nat}(I:Inv X pins σ H s)(h1:-(2 ^ 62)<=lo)(h2:lo < 2 ^ 62)(h3:-(2 ^ 62)<=hi)(h4:hi < 2 ^ 62)
  (q:R (Itr lo (hi-lo).toNat) H):wpAny (model X.prog X.w) X.A (pyIter (.ref s.heap.objs.size)) (PIE X pins σ tg R) E { s with heap:=s.heap.push { cls:=.type "range",data:=.fields #[.int lo t,.int hi u,.int 1 v] },toks:=tk }:=by
 refine wpAny_pyIter_range (IsRange.new ..) (small_one h1 h2 h3 h4) ?_
 have I1:Inv X pins σ H { s with heap:=s.heap.push { cls:=.type "range",data:=.fields #[.int lo t,.int hi u,.int 1 v] },toks:=tk }:=I.kept fun b o e=>ug _ e
 refine⟨(s.heap.push { cls:=.type "range",data:=.fields #[.int lo t,.int hi u,.int 1 v] }).objs.size,[(s.heap.push { cls:=.type "range",data:=.fields #[.int lo t,.int hi u,.int 1 v] }).objs.size],_,_,H,rfl,
  I1.kept (t':=tk) fun b o e=>ug _ e,Yc _ lo (hi-lo).toNat,?_,fun b hb=>?_,q⟩
 ·have e1:lo+((0:Nat):Int)*1=lo:=by simp
  have e2:(((hi-lo).toNat:Nat):Int)-((0:Nat):Int)=Builtin.Range.rangeSize lo hi 1:=by rw[rangeSize_one];split<;>lia
  show IsRangeIter _ _ (lo+((0:Nat):Int)*1) ((((hi-lo).toNat:Nat):Int)-((0:Nat):Int)) 1
  rw[e1,e2]
  exact uy _ rfl
 ·have e:b=(s.heap.push { cls:=.type "range",data:=.fields #[.int lo t,.int hi u,.int 1 v] }).objs.size:=by simpa using hb
  subst e
  exact I1.fpOk (ud _) (I1.hok.fresh (ud _))
def zaL(ta:TA):TI:=fun σ H R=>ta σ H fun vs H1=>∃j:Int,vs=[.int j]/\-(2 ^ 62)<=j/\j < 2 ^ 62/\R (Itr 0 j.toNat) H1
theorem XZ{a:Expr}{ta:TA}{p pos:Pos}(hg:Gl X "range")(hm:X.mg "range"=none)(ha:PA X [a] ta)(hs:starEach [a] X.env=[(false,eval a X.env)]:=by rfl):PI X tg (.Call (.Name "range" p) [a] [] pos) (zaL ta):=by
 intro pins s σ H R I h
 refine Call_ (yZ I hg hm boot_range (Ud (thn (ha pos pins s σ H _ I h) fun us s1 ⟨vs,H1,I1,r1,q1⟩=>?_) hs rfl))
 obtain⟨j,e,q1,q2,q⟩:=q1
 subst e
 cases r1 with
 |cons r rr =>
  cases rr
  obtain⟨t,rfl⟩:=r
  exact call_range_1 (WR I1 (by lia) (by lia) q1 q2 (by simpa using q))
def tFor(wi:TI)(g:TG)(tb:TS):TS:=fun D σ H=>wi σ H fun J H1=>∃W:Nat->Nat->St->Hp->Prop,(∃m,W 0 m σ H1)/\∀i m σ H,W i m σ H ->
 (J.stop i H/\D.nx σ H)\/(J.go i H/\∃N:St->Hp->Prop,(∀σ' H',N σ' H'->∃m',m' < m/\W (i+1) m' σ' H')/\∀x H',J.yld i H x H'->g x σ H' fun σ2 H2=>tb { D with nx:=N,ct:=N,bk:=D.nx } σ2 H2)
def w6(fp:List Addr)(h:Heap):List (Addr×Obj):=fp.filterMap fun b=>(h.get? b).map fun o=>(b,o)
theorem xB{fp:List Addr}{h:Heap}{b:Addr}{o:Obj}(hb:b∈fp)(e:h.get? b=some o):(b,o)∈w6 fp h:=List.mem_filterMap.mpr ⟨b,hb,by rw[e];rfl⟩
theorem X0{fp:List Addr}{h:Heap}{p:Addr×Obj}(hp:p∈w6 fp h):p.1∈fp/\h.get? p.1=some p.2:=by
 obtain⟨b,hb,e⟩:=List.mem_filterMap.mp hp
 cases q:h.get? b with
 |none=>rw[q]at e;cases e
 |some o =>
  rw[q]at e
  have e':(b,o)=p:=uP.inj e
  subst e'
  exact⟨hb,q⟩
theorem Inv.pinned{pins:List (Addr×Obj)}{σ:St}{H:Hp}{s:Shared}{fp:List Addr}(I:Inv X pins σ H s)(hf:∀b∈fp,FpOk X pins H b)(ho:∀b∈fp,∃o,s.heap.get? b=some o/\∀v,o.data≠.cell v):Inv X (pins++w6 fp s.heap) σ H s :=
 I.pins_of fun p hp=>(uz.mp hp).elim (fun z=>I.pin p (ur _ z)) fun z=>by
  obtain⟨hb,e⟩:=X0 z
  obtain⟨f0,f1,f2,_⟩:=hf p.1 hb
  obtain⟨o,e',d⟩:=ho p.1 hb
  rw[e]at e';cases e'
  exact⟨e,f0,f1,f2,d⟩
theorem Inv.unpinned{pins pl:List (Addr×Obj)}{σ:St}{H:Hp}{s:Shared}(I:Inv X (pins++pl) σ H s):Inv X pins σ H s:=I.pins_of fun p hp=>I.pin p (ur _ (uK _ hp))
theorem zbt{iter:Expr}{body:List Stmt}{wi:TI}{g:TG}{tb:TS}{pos:Pos}(hp:PassesOwn (model X.prog X.w) X.A X.env X.xe)(hc:X.calm=true)(hi:PI X tg iter wi)(hg:PG X tg g)(hb:PSs X body tb)
  (hs:∀x,foldedSetIterable iter X.env x=pure x:=by intro _;rfl):PS X (.For tg iter body [] pos) (tFor wi g tb):=by
 intro pins s σ H D I h
 refine wpAny_For (thn (hi pins s σ H _ I h) fun v s1 h1=>thn h1 fun itv s2 h2=>?_) hs
 obtain⟨it,fp,tn,J,H2,e,I2,T,st2,f2,W,⟨m0,w0⟩,turn⟩:=h2
 subst e
 have stat:∀{H':Hp},(∀b∈fp,H' b=none)->∀b∈fp,FpOk X pins H' b:=fun hn b hb=>⟨hn b hb,(f2 b hb).2⟩
 refine codeAny_forLoop_any (fun n s'=>∃i σ' H',Inv X pins σ' H' s'/\tn i s'.heap/\(∀b∈fp,H' b=none)/\W i n σ' H') ?_ m0 ⟨0,σ,H2,I2,st2,fun b hb=>(f2 b hb).1,w0⟩
 rintro n s3 ⟨i,σ3,H3,I3,st3,fr3,w3⟩
 rcases turn i n σ3 H3 w3 with⟨stop,qn⟩|⟨go,N,hN,step⟩
 ·refine wpAny_passesOwn hp (thn (T.done X rfl rfl rfl hc i pins s3 σ3 H3 X.xe I3 (stat fr3) st3 stop) fun r s4 ⟨hr,I4⟩=>?_)
  subst hr
  exact wpAny_execs_nil ⟨σ3,H3,I4,qn⟩
 ·refine wpAny_passesOwn hp (thn (T.item X rfl rfl rfl hc i pins s3 σ3 H3 X.xe I3 (stat fr3) st3 go) fun r s4 ⟨u,hr,h4⟩=>?_)
  subst hr
  refine wpAny_passesOwn hp (thn h4 fun _ s5 ⟨x,H5,I5,r5,y5,st5,fr5⟩=>?_)
  have I5':=I5.pinned (stat fr5) (T.obj _ _ st5)
  refine wpAny_passesOwn hp (thn (hg _ s5 σ3 H5 x u _ I5' r5 (step x H5 y5)) fun _ s6 ⟨σ6,H6,I6,q6⟩=>?_)
  refine wpAny_passesOwn hp (thn (hb _ s6 σ6 H6 _ I6 q6) fun f s7 q7=>?_)
  have again:∀{σ7:St}{H7:Hp},Inv X (pins++w6 fp s5.heap) σ7 H7 s7->N σ7 H7->∃m,m < n/\∃i σ' H',Inv X pins σ' H' s7/\tn i s7.heap/\(∀b∈fp,H' b=none)/\W i m σ' H':=fun{σ7 H7} I7 n7=>by
   obtain⟨m',hm,w7⟩:=hN σ7 H7 n7
   refine⟨m',hm,i+1,σ7,H7,I7.unpinned,T.keep _ _ _ st5 fun b hb o e=>(I7.pin (b,o) (ur _ (ur _ (xB hb e)))).1,fun b hb=>?_,w7⟩
   obtain⟨o,e,d⟩:=T.obj _ _ st5 b hb
   exact(I7.pin (b,o) (ur _ (ur _ (xB hb e)))).2.1
  cases f with
  |next=>obtain⟨σ7,H7,I7,n7⟩:=q7;exact again I7 n7
  |cont=>obtain⟨σ7,H7,I7,n7⟩:=q7;exact again I7 n7
  |brk=>obtain⟨σ7,H7,I7,q7⟩:=q7;exact⟨σ7,H7,I7.unpinned,q7⟩
  |ret v=>obtain⟨x7,σ7,H7,I7,r7,q7⟩:=q7;exact⟨x7,σ7,H7,I7.unpinned,r7,q7⟩
end
theorem yn{K:ub}{a:Addr}{xs:List V}{g:TG}{tb:TS}{D:Ends}{σ:St}{H:Hp}(Pv:Nat->St->Hp->Prop)(h0:Pv 0 σ H)(hl:∀i σ H,i<=xs.length->Pv i σ H->SqL K H a xs)
  (hs:∀i x σ H,xs[i]?=some x->Pv i σ H->g x σ H fun σ2 H2=>tb { D with nx:=Pv (i+1),ct:=Pv (i+1),bk:=D.nx } σ2 H2) (hd:∀σ H,Pv xs.length σ H->D.nx σ H) :
  ∃W:Nat->Nat->St->Hp->Prop,(∃m,W 0 m σ H)/\∀i m σ H,W i m σ H ->
   ((Itl K a).stop i H/\D.nx σ H)\/((Itl K a).go i H/\∃N:St->Hp->Prop,(∀σ' H',N σ' H'->∃m',m' < m/\W (i+1) m' σ' H')/\∀x H',(Itl K a).yld i H x H'->g x σ H' fun σ2 H2=>tb { D with nx:=N,ct:=N,bk:=D.nx } σ2 H2):=by
 refine⟨fun i m σ H=>m=xs.length-i/\i<=xs.length/\Pv i σ H,⟨xs.length,by simp,uX _,h0⟩,?_⟩
 rintro i m σ H ⟨rfl,hi,p⟩
 have q:=hl i σ H hi p
 by_cases hlt:i < xs.length
 ·refine .inr ⟨⟨xs,xs[i],q,by simp[hlt]⟩,Pv (i+1),fun σ' H' p'=>⟨xs.length-(i+1),by lia,rfl,hlt,p'⟩,fun x H' y=>?_⟩
  obtain⟨e,y⟩:=y
  subst e
  exact hs i x σ _ (y xs q) p
 ·have e:i=xs.length:=by lia
  subst e
  exact .inl ⟨⟨xs,q,ud _⟩,hd σ H p⟩
theorem yO{K:ub}{a:Addr}{xs:List V}{g:TG}{tb:TS}{D:Ends}{σ:St}{H:Hp}(Pv:Nat->St->Hp->Prop)(h0:Pv 0 σ H)(hl:∀i σ H,i<=xs.length->Pv i σ H->SqT K H a xs)
  (hs:∀i x σ H,xs[i]?=some x->Pv i σ H->g x σ H fun σ2 H2=>tb { D with nx:=Pv (i+1),ct:=Pv (i+1),bk:=D.nx } σ2 H2) (hd:∀σ H,Pv xs.length σ H->D.nx σ H) :
  ∃W:Nat->Nat->St->Hp->Prop,(∃m,W 0 m σ H)/\∀i m σ H,W i m σ H ->
   ((Itt K a).stop i H/\D.nx σ H)\/((Itt K a).go i H/\∃N:St->Hp->Prop,(∀σ' H',N σ' H'->∃m',m' < m/\W (i+1) m' σ' H')/\∀x H',(Itt K a).yld i H x H'->g x σ H' fun σ2 H2=>tb { D with nx:=N,ct:=N,bk:=D.nx } σ2 H2):=by
 refine⟨fun i m σ H=>m=xs.length-i/\i<=xs.length/\Pv i σ H,⟨xs.length,by simp,uX _,h0⟩,?_⟩
 rintro i m σ H ⟨rfl,hi,p⟩
 have q:=hl i σ H hi p
 by_cases hlt:i < xs.length
 ·refine .inr ⟨⟨xs,xs[i],q,by simp[hlt]⟩,Pv (i+1),fun σ' H' p'=>⟨xs.length-(i+1),by lia,rfl,hlt,p'⟩,fun x H' y=>?_⟩
  obtain⟨e,y⟩:=y
  subst e
  exact hs i x σ _ (y xs q) p
 ·have e:i=xs.length:=by lia
  subst e
  exact .inl ⟨⟨xs,q,ud _⟩,hd σ H p⟩
theorem yT{lo:Int}{n:Nat}{g:TG}{tb:TS}{D:Ends}{σ:St}{H:Hp}(Pv:Nat->St->Hp->Prop)(h0:Pv 0 σ H)
  (hs:∀i σ H,i < n->Pv i σ H->g (.int (lo+i)) σ H fun σ2 H2=>tb { D with nx:=Pv (i+1),ct:=Pv (i+1),bk:=D.nx } σ2 H2) (hd:∀σ H,Pv n σ H->D.nx σ H) :
  ∃W:Nat->Nat->St->Hp->Prop,(∃m,W 0 m σ H)/\∀i m σ H,W i m σ H ->
   ((Itr lo n).stop i H/\D.nx σ H)\/((Itr lo n).go i H/\∃N:St->Hp->Prop,(∀σ' H',N σ' H'->∃m',m' < m/\W (i+1) m' σ' H')/\∀x H',(Itr lo n).yld i H x H'->g x σ H' fun σ2 H2=>tb { D with nx:=N,ct:=N,bk:=D.nx } σ2 H2):=by
 refine⟨fun i m σ H=>m=n-i/\i<=n/\Pv i σ H,⟨n,by simp,uX _,h0⟩,?_⟩
 rintro i m σ H ⟨rfl,hi,p⟩
 by_cases hlt:i < n
 ·refine .inr ⟨hlt,Pv (i+1),fun σ' H' p'=>⟨n-(i+1),by lia,rfl,hlt,p'⟩,fun x H' y=>?_⟩
  obtain⟨e,y⟩:=y
  subst e y
  exact hs i σ _ hlt p
 ·have e:i=n:=by lia
  subst e
  exact .inl ⟨ud _,hd σ H p⟩
abbrev R2:=V->V->Hp->VK->Prop
def OpR(X:Cx)(f:Value->Value->Sem Value)(r:R2):Prop :=
 ∀(pins:List (Addr×Obj))(s:Shared)(σ:St)(H:Hp)(x y:V)(v u:Value)(Q:VK),Inv X pins σ H s->RelV x v->RelV y u->r x y H Q ->
  wpAny (model X.prog X.w) X.A (f v u) (EP X pins σ Q) X.xe s
def UnR(X:Cx)(f:Value->Sem Value)(r:V->Hp->VK->Prop):Prop :=
 ∀(pins:List (Addr×Obj))(s:Shared)(σ:St)(H:Hp)(x:V)(v:Value)(Q:VK),Inv X pins σ H s->RelV x v->r x H Q ->
  wpAny (model X.prog X.w) X.A (f v) (EP X pins σ Q) X.xe s
def xN(X:Cx)(f:Value)(r:List V->Hp->VK->Prop):Prop :=
 ∀(pins:List (Addr×Obj))(s:Shared)(σ:St)(H:Hp)(xs:List V)(us:List Value)(Q:VK),Inv X pins σ H s->Vals xs us->r xs H Q ->
  wpAny (model X.prog X.w) X.A (call f us) (EP X pins σ Q) X.xe s
def tOp(r:R2)(ta tb:TE):TE:=fun σ H Q=>ta σ H fun x H1=>tb σ H1 fun y H2=>r x y H2 Q
def tUn(r:V->Hp->VK->Prop)(ta:TE):TE:=fun σ H Q=>ta σ H fun x H1=>r x H1 Q
def rI(C:Int->Int->Prop)(g:Int->Int->V):R2:=fun x y H Q=>∃i j,x=.int i/\y=.int j/\C i j/\Q (g i j) H
def rI0(g:Int->Int->V):R2:=fun x y H Q=>∃i j,x=.int i/\y=.int j/\Q (g i j) H
def rU(g:Int->V):V->Hp->VK->Prop:=fun x H Q=>∃i,x=.int i/\Q (g i) H
section
variable{X:Cx}{a b c:Expr}{ta tb tc:TE}{pos:Pos}
theorem binT(ha:PE X a ta)(hb:PE X b tb){pins:List (Addr×Obj)}{s:Shared}{σ:St}{H:Hp}{R:V->V->Hp->Prop}(I:Inv X pins σ H s)
  (h:ta σ H fun x H1=>tb σ H1 fun y H2=>R x y H2) {Q:Value->Shared->Prop} {f:Value->Value->Sem Value}
  (hf:∀v u s2 x y H2,Inv X pins σ H2 s2->RelV x v->RelV y u->R x y H2->wpAny (model X.prog X.w) X.A (f v u) Q X.xe s2) :
  wpAny (model X.prog X.w) X.A (eval a X.env) (fun v s₁=>wpAny (model X.prog X.w) X.A (eval b X.env) (fun u s₂=>wpAny (model X.prog X.w) X.A (f v u) Q X.xe s₂) X.xe s₁) X.xe s:=by
 refine thn (ha pins s σ H _ I h) fun v s1 ⟨x,H1,I1,r1,q1⟩=>?_
 refine thn (hb pins s1 σ H1 _ I1 q1) fun u s2 ⟨y,H2,I2,r2,q2⟩=>?_
 exact hf v u s2 x y H2 I2 r1 r2 q2
theorem zcL{op:Operator}{r:R2}(ho:OpR X (binaryOp op) r)(ha:PE X a ta)(hb:PE X b tb):PE X (.BinOp a op b pos) (tOp r ta tb):=by
 intro pins s σ H Q I h
 exact wpAny_BinOp (binT ha hb I h fun v u s2 x y H2 I2 rx ry q=>ho pins s2 σ H2 x y v u Q I2 rx ry q)
theorem zaM{op:UnaryOp}{r:V->Hp->VK->Prop}(ho:UnR X (unaryOp op) r)(ha:PE X a ta):PE X (.UnaryOp op a pos) (tUn r ta):=by
 intro pins s σ H Q I h
 exact UnaryOp_ (thn (ha pins s σ H _ I h) fun v s1 ⟨x,H1,I1,r1,q1⟩=>ho pins s1 σ H1 x v Q I1 r1 q1)
theorem opI{f:Value->Value->Sem Value}{C:Int->Int->Prop}{g:Int->Int->Int}
  (rule:∀(i j:Int)(t u:Tok)(s:Shared)(Q:Value->Shared->Prop)(E:Value->Shared->Prop),C i j->Q (.int (g i j) s.toks) { s with toks:=s.toks+1 }->wpAny (model X.prog X.w) X.A (f (.int i t) (.int j u)) Q E s) :
  OpR X f (rI C fun i j=>.int (g i j)):=by
 intro pins s σ H x y v u Q I rx ry h
 obtain⟨i,j,rfl,rfl,hc,q⟩:=h
 obtain⟨t,rfl⟩:=rx
 obtain⟨t',rfl⟩:=ry
 exact rule i j t t' s _ _ hc ⟨.int (g i j),H,I.tok _,⟨_,rfl⟩,q⟩
theorem opI0{f:Value->Value->Sem Value}{g:Int->Int->Int}
  (rule:∀(i j:Int)(t u:Tok)(s:Shared)(Q:Value->Shared->Prop)(E:Value->Shared->Prop),Q (.int (g i j) s.toks) { s with toks:=s.toks+1 }->wpAny (model X.prog X.w) X.A (f (.int i t) (.int j u)) Q E s) :
  OpR X f (rI0 fun i j=>.int (g i j)):=by
 intro pins s σ H x y v u Q I rx ry h
 obtain⟨i,j,rfl,rfl,q⟩:=h
 obtain⟨t,rfl⟩:=rx
 obtain⟨t',rfl⟩:=ry
 exact rule i j t t' s _ _ ⟨.int (g i j),H,I.tok _,⟨_,rfl⟩,q⟩
theorem opB0{f:Value->Value->Sem Value}{g:Int->Int->Bool}
  (rule:∀(i j:Int)(t u:Tok)(s:Shared)(Q:Value->Shared->Prop)(E:Value->Shared->Prop),Q (.bool (g i j)) s->wpAny (model X.prog X.w) X.A (f (.int i t) (.int j u)) Q E s) :
  OpR X f (rI0 fun i j=>.bl (g i j)):=by
 intro pins s σ H x y v u Q I rx ry h
 obtain⟨i,j,rfl,rfl,q⟩:=h
 obtain⟨t,rfl⟩:=rx
 obtain⟨t',rfl⟩:=ry
 exact rule i j t t' s _ _ ⟨.bl (g i j),H,I,rfl,q⟩
def CDiv(i j:Int):Prop:=0 < j/\j < 1073741824
def CPow(i j:Int):Prop:=0<=j/\j<=1000000/\i.natAbs < 2 ^ 64
def CMul(i j:Int):Prop:=(-(2 ^ 64) < i/\i < 2 ^ 64)\/(-(2 ^ 64) < j/\j < 2 ^ 64)
theorem CMul.ok{i j:Int}(h:CMul i j):IntMulOk i j:=by
 rcases h with⟨h1,h2⟩|⟨h1,h2⟩
 ·exact .of_left (intBits_le_64 h1 h2)
 ·exact .of_right (intBits_le_64 h1 h2)
theorem zbu:OpR X (binaryOp .Add) (rI0 fun i j=>.int (i+j)):=opI0 fun _ _ _ _ _ _ _ q=>add_int q
theorem zbv:OpR X (binaryOp .Sub) (rI0 fun i j=>.int (i-j)):=opI0 fun _ _ _ _ _ _ _ q=>sub_int q
theorem zbw:OpR X (binaryOp .Mult) (rI CMul fun i j=>.int (i*j)):=opI fun _ _ _ _ _ _ _ hc q=>mul_int q hc.ok
theorem J6:OpR X (binaryOp .FloorDiv) (rI CDiv fun i j=>.int (i / j)):=opI fun i j _ _ _ _ _ hc q=>by
 have h1:(0:Int) < j:=hc.1
 have h2:j < 1073741824:=hc.2
 exact floordiv_int (by lia) (by rw[Int.fdiv_eq_ediv_of_nonneg i (by lia)];exact q) (.inl (PyProof.noPylong_small (by lia)))
theorem zbx:OpR X (binaryOp .Mod) (rI (fun _ j=>0 < j) fun i j=>.int (i % j)):=opI fun i j _ _ _ _ _ hc q=>by
 have h1:(0:Int) < j:=hc
 exact mod_int' (by lia) (by rw[Int.fmod_eq_emod_of_nonneg i (by lia)];exact q)
theorem zby:OpR X (binaryOp .Pow) (rI CPow fun i j=>.int (i ^ j.toNat)):=opI fun _ _ _ _ _ _ _ hc q=>pow_int_small hc.1 hc.2.1 hc.2.2 q
theorem zbz:OpR X (binaryOp .BitAnd) (rI0 fun i j=>.int (Builtin.bitAnd i j)):=opI0 fun _ _ _ _ _ _ _ q=>and_int q
theorem zcM:OpR X (binaryOp .BitOr) (rI0 fun i j=>.int (Builtin.bitOr i j)):=opI0 fun _ _ _ _ _ _ _ q=>or_int q
theorem unI{f:Value->Sem Value}{g:Int->Int}
  (rule:∀(i:Int)(t:Tok)(s:Shared)(Q:Value->Shared->Prop)(E:Value->Shared->Prop),Q (.int (g i) s.toks) { s with toks:=s.toks+1 }->wpAny (model X.prog X.w) X.A (f (.int i t)) Q E s) :
  UnR X f (rU fun i=>.int (g i)):=by
 intro pins s σ H x v Q I rx h
 obtain⟨i,rfl,q⟩:=h
 obtain⟨t,rfl⟩:=rx
 exact rule i t s _ _ ⟨.int (g i),H,I.tok _,⟨_,rfl⟩,q⟩
theorem zbA:UnR X (unaryOp .USub) (rU fun i=>.int (-i)):=unI fun _ _ _ _ _ q=>neg_int q
theorem zbB:UnR X (unaryOp .Invert) (rU fun i=>.int (Builtin.bitNot i)):=unI fun _ _ _ _ _ q=>invert_int q
def scal:V->V->Bool
 |.non,.non=>true|.non,.int _=>true|.int _,.non=>true|.non,.bl _=>true|.bl _,.non=>true|.non,.str _=>true|.str _,.non=>true
 |.int _,.int _=>true|.bl _,.bl _=>true|.str _,.str _=>true|.byt _,.byt _=>true
 |.int _,.str _=>true|.str _,.int _=>true|.bl _,.str _=>true|.str _,.bl _=>true
 |_,_=>false
def rEq:R2:=fun x y H Q=>scal x y=true/\Q (.bl (decide (x=y))) H
def rNe:R2:=fun x y H Q=>scal x y=true/\Q (.bl (!decide (x=y))) H
theorem Y3{i j:Int}:decide (V.int i=V.int j)=(i == j):=by
 rw[UF]
 simp
theorem WS{i j:Bool}:decide (V.bl i=V.bl j)=(i == j):=by
 rw[UF]
 simp
theorem Y4{i j:Str}:decide (V.str i=V.str j)=(i == j):=by
 rw[UF]
 simp
theorem Y5{i j:Array UInt8}:decide (V.byt i=V.byt j)=(i.toList == j.toList):=by
 rw[UF]
 cases i
 cases j
 simp
theorem zI{pins:List (Addr×Obj)}{σ:St}{H:Hp}{s:Shared}{Q:VK}{k k':Bool}(I:Inv X pins σ H s)(q:Q (.bl k) H)(e:k=k'):EP X pins σ Q (.bool k') s:=by
 subst e
 exact⟨.bl k,H,I,rfl,q⟩
theorem zcN:OpR X (compareOp .Eq) rEq:=by
 intro pins s σ H x y v u Q I rx ry h
 obtain⟨hs,q⟩:=h
 cases x with
 |non =>
  cases rx
  cases y with
  |non=>cases ry;exact PySem.EqNone.eq_none_none (zI I q (by simp))
  |bl j=>cases ry;exact PySem.EqNone.eq_none_bool (zI I q (by simp))
  |int j=>obtain⟨t',rfl⟩:=ry;exact PySem.EqNone.eq_none_int (zI I q (by simp))
  |str j=>obtain⟨t',rfl⟩:=ry;exact PySem.EqNone.eq_none_str (zI I q (by simp))
  |_=>exact absurd (show false=true from hs) ux
 |bl i =>
  cases rx
  cases y with
  |non=>cases ry;exact PySem.EqNone.eq_bool_none (zI I q (by simp))
  |bl j=>cases ry;exact eq_bool (zI I q WS)
  |str j=>obtain⟨t',rfl⟩:=ry;exact PySem.EqMixed.eq_bool_str (zI I q (by simp))
  |_=>exact absurd (show false=true from hs) ux
 |int i =>
  obtain⟨t,rfl⟩:=rx
  cases y with
  |non=>cases ry;exact PySem.EqNone.eq_int_none (zI I q (by simp))
  |int j=>obtain⟨t',rfl⟩:=ry;exact eq_int (zI I q Y3)
  |str j=>obtain⟨t',rfl⟩:=ry;exact PySem.EqMixed.eq_int_str (zI I q (by simp))
  |_=>exact absurd (show false=true from hs) ux
 |str i =>
  obtain⟨t,rfl⟩:=rx
  cases y with
  |non=>cases ry;exact PySem.EqNone.eq_str_none (zI I q (by simp))
  |bl j=>cases ry;exact PySem.EqMixed.eq_str_bool (zI I q (by simp))
  |int j=>obtain⟨t',rfl⟩:=ry;exact PySem.EqMixed.eq_str_int (zI I q (by simp))
  |str j=>obtain⟨t',rfl⟩:=ry;exact eq_str (zI I q Y4)
  |_=>exact absurd (show false=true from hs) ux
 |byt i =>
  obtain⟨t,rfl⟩:=rx
  cases y with
  |byt j=>obtain⟨t',rfl⟩:=ry;exact PySem.W.eq_bytes (zI I q Y5)
  |_=>exact absurd (show false=true from hs) ux
 |_=>cases y<;>exact absurd (show false=true from hs) ux
theorem zcO:OpR X (compareOp .NotEq) rNe:=by
 intro pins s σ H x y v u Q I rx ry h
 obtain⟨hs,q⟩:=h
 cases x with
 |non =>
  cases rx
  cases y with
  |non=>cases ry;exact PySem.EqNone.ne_none_none (zI I q (by simp))
  |bl j=>cases ry;exact PySem.EqNone.ne_none_bool (zI I q (by simp))
  |int j=>obtain⟨t',rfl⟩:=ry;exact PySem.EqNone.ne_none_int (zI I q (by simp))
  |str j=>obtain⟨t',rfl⟩:=ry;exact PySem.EqNone.ne_none_str (zI I q (by simp))
  |_=>exact absurd (show false=true from hs) ux
 |bl i =>
  cases rx
  cases y with
  |non=>cases ry;exact PySem.EqNone.ne_bool_none (zI I q (by simp))
  |bl j=>cases ry;exact ne_bool (zI I q (congrArg not WS))
  |str j=>obtain⟨t',rfl⟩:=ry;exact PySem.EqMixed.ne_bool_str (zI I q (by simp))
  |_=>exact absurd (show false=true from hs) ux
 |int i =>
  obtain⟨t,rfl⟩:=rx
  cases y with
  |non=>cases ry;exact PySem.EqNone.ne_int_none (zI I q (by simp))
  |int j=>obtain⟨t',rfl⟩:=ry;exact ne_int (zI I q (congrArg not Y3))
  |str j=>obtain⟨t',rfl⟩:=ry;exact PySem.EqMixed.ne_int_str (zI I q (by simp))
  |_=>exact absurd (show false=true from hs) ux
 |str i =>
  obtain⟨t,rfl⟩:=rx
  cases y with
  |non=>cases ry;exact PySem.EqNone.ne_str_none (zI I q (by simp))
  |bl j=>cases ry;exact PySem.EqMixed.ne_str_bool (zI I q (by simp))
  |int j=>obtain⟨t',rfl⟩:=ry;exact PySem.EqMixed.ne_str_int (zI I q (by simp))
  |str j=>obtain⟨t',rfl⟩:=ry;exact ne_str (zI I q (congrArg not Y4))
  |_=>exact absurd (show false=true from hs) ux
 |byt i =>
  obtain⟨t,rfl⟩:=rx
  cases y with
  |byt j=>obtain⟨t',rfl⟩:=ry;exact PySem.W.ne_bytes (zI I q (congrArg not Y5))
  |_=>exact absurd (show false=true from hs) ux
 |_=>cases y<;>exact absurd (show false=true from hs) ux
theorem zcP:OpR X (compareOp .Lt) (rI0 fun i j=>.bl (decide (i < j))):=opB0 fun _ _ _ _ _ _ _ q=>lt_int q
theorem zcQ:OpR X (compareOp .LtE) (rI0 fun i j=>.bl (decide (i<=j))):=opB0 fun _ _ _ _ _ _ _ q=>le_int q
theorem zcR:OpR X (compareOp .Gt) (rI0 fun i j=>.bl (decide (j < i))):=opB0 fun _ _ _ _ _ _ _ q=>gt_int q
theorem zcS:OpR X (compareOp .GtE) (rI0 fun i j=>.bl (decide (j<=i))):=opB0 fun _ _ _ _ _ _ _ q=>ge_int q
theorem w9(b:Expr){op:CmpOp}(h:op≠.In:=by decide)(h2:op≠.NotIn:=by decide):behindInMarks op b=false:=by
 have e1:(op == CmpOp.In)=false:=by cases op<;>first|rfl|exact absurd rfl h
 have e2:(op == CmpOp.NotIn)=false:=by cases op<;>first|rfl|exact absurd rfl h2
 cases b<;>simp[behindInMarks,e1,e2]
theorem J7{op:CmpOp}{r:R2}(ho:OpR X (compareOp op) r)(ha:PE X a ta)(hb:PE X b tb)(hm:behindInMarks op b=false):PE X (.Compare a [op] [b] pos) (tOp r ta tb):=by
 intro pins s σ H Q I h
 exact wpAny_Compare1 (binT ha hb I h fun v u s2 x y H2 I2 rx ry q=>ho pins s2 σ H2 x y v u Q I2 rx ry q) hm
def WT(t:TE):TT:=fun σ H Q=>t σ H fun x H'=>∃k,x=.bl k/\Q k H'
theorem J8{op:CmpOp}{r:R2}(ho:OpR X (compareOp op) r)(ha:PE X a ta)(hb:PE X b tb)(hm:behindInMarks op b=false):PT X (.Compare a [op] [b] pos) (WT (tOp r ta tb)):=by
 intro pins s σ H Q I h
 refine wpAny_isTrue_Compare1 (thn (ha pins s σ H _ I h) fun v s1 ⟨x,H1,I1,r1,q1⟩=>thn (hb pins s1 σ H1 _ I1 q1) fun u s2 ⟨y,H2,I2,r2,q2⟩ =>
  thn (ho pins s2 σ H2 x y v u _ I2 r1 r2 q2) fun c s3 ⟨z,H3,I3,r3,k,e,q3⟩=>?_) hm
 subst e
 cases r3
 exact wpAny_truthy_bool ⟨H3,I3,q3⟩
theorem vf:(sizeLine:Nat) < 2 ^ 63:=by rw[sizeLine_eq];decide
theorem Yd:OpR X (binaryOp .Add) (fun x y H Q=>∃i j,x=.str i/\y=.str j/\i.length+j.length<=sizeLine/\Q (.str (i++j)) H):=by
 intro pins s σ H x y v u Q I rx ry h
 obtain⟨i,j,rfl,rfl,hz,q⟩:=h
 obtain⟨t,rfl⟩:=rx
 obtain⟨t',rfl⟩:=ry
 exact add_str (fun t' tk=>⟨.str (i++j),H,I.tok _,⟨_,rfl⟩,q⟩) hz
theorem vZ{x:V}{us:List Value}(r:Vals [x] us):∃u,us=[u]/\RelV x u:=by
 cases r with
 |cons r1 r2=>cases r2;exact⟨_,rfl,r1⟩
theorem WU{x y:V}{us:List Value}(r:Vals [x,y] us):∃u w',us=[u,w']/\RelV x u/\RelV y w':=by
 cases r with
 |cons r1 r2 =>
  cases r2 with
  |cons r3 r4=>cases r4;exact⟨_,_,rfl,r1,r3⟩
theorem X1(hc:X.calm=true):xN X (.builtin "max") (fun xs H Q=>∃i j,xs=[.int i,.int j]/\Q (.int (if j > i then j else i)) H):=by
 intro pins s σ H xs us Q I r h
 obtain⟨i,j,rfl,q⟩:=h
 obtain⟨u,w',rfl,⟨t,rfl⟩,⟨t',rfl⟩⟩:=WU r
 refine max_two_ints (I.ok.hd hc) fun h' tk k=>⟨_,H,I.kept k,?_,q⟩
 by_cases hj:j > i
 ·rw[if_pos hj,if_pos hj];exact⟨_,rfl⟩
 ·rw[if_neg hj,if_neg hj];exact⟨_,rfl⟩
end
structure ObjM(h:Heap)(x dx C:Addr)(mA:Str->Option Value):Prop where
 obj:h.get? x=some (UR C dx)
 ns:h.Ns1 dx mA
 ne:dx≠x
theorem X2{h:Heap}{dx:Addr}{mA:Str->Option Value}(n:h.Ns1 dx mA):∃od,h.get? dx=some od/\∀name,PySem.W.lookIn name od=some (mA name):=by
 obtain⟨o,es,ep,ho,hd,hk,_,hm⟩:=n
 refine⟨o,ho,fun name=>?_⟩
 have e:=hm name
 unfold nsFind findBy at e
 rw[<- Array.find?_toList]at e
 unfold PySem.W.lookIn
 rw[hd]
 dsimp only
 split
 ·rename_i y q
  rw[q]at e
  exact congrArg some e
 ·rename_i q
  rw[q]at e
  have a:es.toList.any (·.refKey)=false:=by
   rw[List.any_eq_false]
   intro y hy
   obtain⟨z,t,hkey⟩:=hk y (Array.mem_toList_iff.mp hy)
   simp[DictEntry.refKey,hkey]
  have a':¬ es.toList.any (·.refKey)=true:=by rw[a];exact ux
  rw[if_neg a']
  exact congrArg some e
theorem ObjM.look{h:Heap}{x dx C:Addr}{mA:Str->Option Value}(I:ObjM h x dx C mA):∃od,PySem.W.InstAt h x (UR C dx) C (some od)/\∀name,PySem.W.lookIn name od=some (mA name) :=
 let ⟨od,ho,hl⟩:=X2 I.ns
 ⟨od,⟨I.obj,rfl,rfl,ho⟩,hl⟩
section
variable{prog:Program}{w:World}{A:Around}{E:Value->Shared->Prop}{s:Shared}{K:ub}{x dx C f:Addr}{mA:Str->Option Value}{name:Str}{v:Value}
theorem J9{expr:Bool}{Q:Value->Shared->Prop}(X:K.In s.heap)(I:ObjM s.heap x dx C mA)(hg:tO K C name=true)(hh:t8 K C=true)
  (ha:u6 K (.ref C) name=some none) (hv:mA name=some v) (hv':PySem.W.handedIn v=true) (h:Q v { s with toks:=s.toks+1 }) :
  wpAny (model prog w) A (getAttr (.ref x) name expr) Q E s:=by
 obtain⟨od,J,hl⟩:=I.look
 exact PySem.W.get_value X J (PySem.W.plainGet_of hg).1 (PySem.W.findObj_own hh ha rfl (by rw[hl,hv])) hv' h
theorem WV{pl:Sem Bool}{Q:Value×List Value->Shared->Prop}(X:K.In s.heap)(I:ObjM s.heap x dx C mA)(hg:tO K C name=true)
  (hf:u6 K (.ref C) name=some (some (.ref f))) (ht:PySem.W.isFn K (.ref f)=true) (hv:mA name=none) (h:Q (.ref f,[.ref x]) s) :
  wpAny (model prog w) A (getMethod (.ref x) name pl) Q E s:=by
 obtain⟨od,J,hl⟩:=I.look
 exact PySem.W.method_fn X J (PySem.W.plainGet_of hg).1 (PySem.W.plainGet_of hg).2 hf (beq_iff_eq.mp ht) (by show(PySem.W.lookIn name od).map (·.isSome)=some false;rw[hl,hv];rfl) h
theorem Qa{ns:List Str}{Q:Unit->Shared->Prop}(X:K.In s.heap)(I:ObjM s.heap x dx C mA)
  (hs:u6 K (.ref C) "__setattr__"=some (some (.builtin "object.__setattr__"))) (hp:PySem.W.plainOver K C=true) (ht:PySem.W.takerIn K C name=some none) (hh:t8 K C=true)
  (hw:PySem.Within mA ns) (hsz:ns.length<=sizeLine)
  (h:∀h',ObjM h' x dx C (fun y=>if y=name then some v else mA y)->Heap.SameBut dx s.heap h'->Q () { s with heap:=h',toks:=s.toks+2 }) :
  wpAny (model prog w) A (setAttr (.ref x) name v) Q E s:=by
 obtain⟨od,J,hl⟩:=I.look
 refine PySem.W.set_plain X J hs (PySem.W.osa_open (s:={ s with toks:=s.toks+1 }) (r:=none) X J hp ht fun b=>?_)
 obtain⟨cd,hc,hd'⟩:=PySem.W.any_some hh
 have hx:s.heap.get? x=some ⟨.ref C,some dx,.plain,#[]⟩:=I.obj
 refine wpAny_bind (wpAny_pure (wpAny_bind (wpAny_bind (wpAny_loadPart hx (wpAny_bind (PySem.W.Looks.here (s:={ s with toks:=s.toks+1 }) (PySem.W.looks_clsIn X hc) ?_))))))
 rw[hd']
 refine wpAny_pure (a:=some dx) (wpAny_bind (wpAny_pure (wpAny_bind ?_)))
 refine wpAny_nsSet1 (s:={ s with toks:=s.toks+1 }) I.ns fun h' hn2 hs2=>?_
 obtain⟨oD,esD,epD,hoD,hdD,hcD⟩:=hn2.count (PySem.Within.cons name v hw)
 refine wpAny_bind (wpAny_lookBehind hoD (by rw[hdD];exact pastItsLine_dict (Ua hcD (by rw[ul];lia))) ?_)
 exact wpAny_pure (h _ ⟨(hs2.2 _ (Ne.symm I.ne)).trans I.obj,hn2,I.ne⟩ hs2)
theorem WW{R:Result->Shared->Prop}{vs:List Value}{kw:List (Str×Value)}(X:K.In s.heap)(hm:PySem.W.makesIn K C=true)
  (hi:u6 K (.ref C) "__init__"=some (some (.ref f))) (hf:PySem.W.typeIn K (.ref f)=some (.type "function"))
  (h:codeAny (model prog w) (A.under (.builtin "type.__call__" ⟨.ref C::vs,kw⟩)) (.call (.ref f) ⟨.ref (s.heap.objs.size+1)::vs,kw⟩) (PySem.W.InitBack (s.heap.objs.size+1) R)
   { s with heap:=(s.heap.push UA).push (UR C s.heap.objs.size) }) :
  codeAny (model prog w) A (.call (.ref C) ⟨vs,kw⟩) R s:=by
 obtain⟨hh,g,d,t,os⟩:=s
 exact PySem.W.make_core (PySem.W.makes_of X hm) (PySem.W.looks_findIn X hi) (fun self=>PySem.W.bind_fn X self hf) (.inl rfl) h
end
def putF(f:Str)(v:V):List (Str×V)->List (Str×V)
 |[]=>[(f,v)]
 | (g,x)::r=>if g=f then(g,v)::r else(g,x)::putF f v r
theorem wJ(f g:Str)(v:V):∀fs:List (Str×V),(putF f v fs).lookup g=if g=f then some v else fs.lookup g
 |[]=>by
  show UY g [(f,v)]=_
  by_cases h:g=f
  ·have hb:(g == f)=true:=beq_iff_eq.mpr h
   simp only[UY,hb,if_pos h]
  ·have hb:(g == f)=false:=beq_eq_false_iff_ne.mpr h
   simp only[UY,hb,if_neg h]
 | (k,x)::r=>by
  have ih:=wJ f g v r
  rw[show putF f v ((k,x)::r)=(if k=f then(k,v)::r else(k,x)::putF f v r)from rfl]
  by_cases hk:k=f
  ·rw[if_pos hk]
   by_cases h:g=k
   ·have hb:(g == k)=true:=beq_iff_eq.mpr h
    simp only[UY,hb,if_pos (h.trans hk)]
   ·have hb:(g == k)=false:=beq_eq_false_iff_ne.mpr h
    simp only[UY,hb,if_neg (fun e:g=f=>h (e.trans hk.symm))]
  ·rw[if_neg hk]
   by_cases h:g=k
   ·have hb:(g == k)=true:=beq_iff_eq.mpr h
    simp only[UY,hb,if_neg (fun e:g=f=>hk (h.symm.trans e))]
   ·have hb:(g == k)=false:=beq_eq_false_iff_ne.mpr h
    simp only[UY,hb]
    exact ih
theorem wo(f:Str)(v:V):∀fs:List (Str×V),f∈(putF f v fs).map (·.1)/\∀g,g∈fs.map (·.1)->g∈(putF f v fs).map (·.1)
 |[]=>⟨by simp[putF],fun g h=>by simp at h⟩
 | (k,x)::r=>by
  obtain⟨i1,i2⟩:=wo f v r
  rw[show putF f v ((k,x)::r)=(if k=f then(k,v)::r else(k,x)::putF f v r)from rfl]
  by_cases hk:k=f
  ·rw[if_pos hk]
   subst hk
   exact⟨by simp,fun g h=>by simpa using h⟩
  ·rw[if_neg hk]
   refine⟨?_,fun g h=>?_⟩
   ·rw[uH]
    exact uB _ i1
   ·rw[uH]at h ⊢
    rcases um.mp h with e|e
    ·exact um.mpr (.inl e)
    ·exact uB _ (i2 g e)
theorem wK(f:Str)(v:V):∀fs:List (Str×V),(putF f v fs).length<=fs.length+1
 |[]=>by simp[putF]
 | (k,x)::r=>by
  have ih:=wK f v r
  rw[show putF f v ((k,x)::r)=(if k=f then(k,v)::r else(k,x)::putF f v r)from rfl]
  by_cases hk:k=f
  ·rw[if_pos hk,ul,ul];lia
  ·rw[if_neg hk,ul,ul];lia
theorem RelO.some_of{v:V}{o:Option Value}(r:RelO (some v) o):∃u,o=some u/\RelV v u:=by
 cases o with
 |none=>exact(show False from r).elim
 |some u=>exact⟨u,rfl,r⟩
theorem RelO.none_of{o:Option Value}(r:RelO none o):o=none:=by
 cases o with
 |none=>rfl
 |some u=>exact(show False from r).elim
theorem X3{v:V}{u:Value}(r:RelV v u):PySem.W.handedIn u=true:=by
 cases v with
 |non=>cases(show u=Value.none from r);rfl
 |bl b=>cases(show u=Value.bool b from r);rfl
 |int i=>obtain⟨t,e⟩:=(show ∃t,u=Value.int i t from r);cases e;rfl
 |str x=>obtain⟨t,e⟩:=(show ∃t,u=Value.str x t from r);cases e;rfl
 |byt b=>obtain⟨t,e⟩:=(show ∃t,u=Value.bytes b t from r);cases e;rfl
 |flt b=>obtain⟨t,e⟩:=(show ∃t,u=Value.float b t from r);cases e;rfl
 |ref a=>cases(show u=Value.ref a from r);rfl
 |ty n=>cases(show u=Value.type n from r);rfl
section
variable{P:Program}{w:World}{H H':Hp}{h h':Heap}{a C dx:Addr}{fs fs':List (Str×V)}
theorem jD(hok:HOk P w H h)(e:H a=some (.ins C dx fs)):∃mA,ObjM h a dx C mA/\(∀f,RelO (fs.lookup f) (mA f))/\PySem.Within mA (fs.map (·.1))/\fs.length<=1000/\H dx=some (.own a):=by
 obtain⟨d,z,ne,ob,mA,n,r,q⟩:=(show ObjOk P w H h a (.ins C dx fs)from hok a _ e)
 exact⟨mA,⟨ob,n,ne⟩,r,q,z,d⟩
end
structure Cls(K:ub)(C:Addr):Prop where
 pg:tO K C Str.empty=true
 hd:t8 K C=true
 po:PySem.W.plainOver K C=true
 sa:u6 K (.ref C) "__setattr__"=some (some (.builtin "object.__setattr__"))
theorem Cls.get{K:ub}{C:Addr}(c:Cls K C)(f:Str):tO K C f=true:=c.pg
def NoAttr(K:ub)(C:Addr)(f:Str):Prop:=u6 K (.ref C) f=some none
theorem NoAttr.taker{K:ub}{C:Addr}{f:Str}(n:NoAttr K C f):PySem.W.takerIn K C f=some none:=by
 unfold PySem.W.takerIn
 rw[show u6 K (.ref C) f=some none from n]
 rfl
structure Meth(K:ub)(C:Addr)(m:Str)(f:Addr):Prop where
 at_:u6 K (.ref C) m=some (some (.ref f))
 fn:PySem.W.isFn K (.ref f)=true
 kp:uY K (.ref f)=true
section
variable{X:Cx}{pins:List (Addr×Obj)}{σ:St}{H:Hp}{s:Shared}{a C dx:Addr}{fs:List (Str×V)}{f:Str}{v:V}{A:Around}{E:Value->Shared->Prop}
theorem Ye{b:Bool}{Q:Value->Shared->Prop}(I:Inv X pins σ H s)(e:H a=some (.ins C dx fs))(c:Cls X.K C)(n:NoAttr X.K C f)(l:fs.lookup f=some v)
  (h:∀u s',Inv X pins σ H s'->RelV v u->Q u s'):wpAny (model X.prog X.w) A (getAttr (.ref a) f b) Q E s:=by
 obtain⟨mA,O,r,_,_,_⟩:=jD I.hok e
 obtain⟨u,hu,ru⟩:=RelO.some_of (v:=v) (o:=mA f) (by rw[<- l];exact r f)
 exact J9 I.kIn O (c.get f) c.hd n hu (X3 ru) (h u _ (I.tok _) ru)
theorem Yf{m:Str}{g:Addr}{pl:Sem Bool}{Q:Value×List Value->Shared->Prop}(I:Inv X pins σ H s)(e:H a=some (.ins C dx fs))(c:Cls X.K C)(k:Meth X.K C m g)(l:fs.lookup m=none)
  (h:Q (.ref g,[.ref a]) s):wpAny (model X.prog X.w) A (getMethod (.ref a) m pl) Q E s:=by
 obtain⟨mA,O,r,_,_,_⟩:=jD I.hok e
 have hn:mA m=none:=RelO.none_of (by rw[<- l];exact r m)
 exact WV I.kIn O (c.get m) k.at_ k.fn hn h
theorem Yg{y:V}{u:Value}{Q:Unit->Shared->Prop}(I:Inv X pins σ H s)(e:H a=some (.ins C dx fs))(c:Cls X.K C)(n:NoAttr X.K C f)(hl:fs.length < 1000)(ry:RelV y u)
  (h:∀s',Inv X pins σ (upd H a (.ins C dx (putF f y fs))) s'->Q () s'):wpAny (model X.prog X.w) A (setAttr (.ref a) f u) Q E s:=by
 obtain⟨mA,O,r,wi,_,ho⟩:=jD I.hok e
 have hz:(fs.map (·.1)).length<=sizeLine:=by rw[ua,sizeLine_eq];lia
 refine Qa I.kIn O c.sa c.po n.taker c.hd wi hz fun h' O' sb=>h _ ?_
 have hd:∃o,h'.get? dx=some o:=let ⟨o,_,_,e',_⟩:=O'.ns;⟨o,e'⟩
 refine I.write (x:=a) (e:=dx) (by rw[e];exact True.intro) (.inr ho) (fun b q hb z=>(sb.2 b hb).trans z) hd ?_
 refine⟨by rw[zi O.ne];exact ho,?_,O.ne,O'.obj,_,O'.ns,fun g=>?_,fun g hg=>?_⟩
 ·have:=wK f y fs;lia
 ·show RelO ((putF f y fs).lookup g) (if g=f then some u else mA g)
  rw[wJ]
  by_cases q:g=f
  ·rw[if_pos q,if_pos q];exact ry
  ·rw[if_neg q,if_neg q];exact r g
 ·by_cases q:g=f
  ·rw[q];exact(wo f y fs).1
  ·refine(wo f y fs).2 g (wi g fun z=>hg ?_)
   show(if g=f then some u else mA g)=none
   rw[if_neg q];exact z
theorem Inv.made(I:Inv X pins σ H s):Inv X pins σ (upd (upd H s.heap.objs.size (.own (s.heap.objs.size+1))) (s.heap.objs.size+1) (.ins C s.heap.objs.size []))
  { s with heap:=(s.heap.push UA).push (UR C s.heap.objs.size) }:=by
 have e1:(s.heap.push UA).get? s.heap.objs.size=some UA:=uy s.heap rfl
 have e2:((s.heap.push UA).push (UR C s.heap.objs.size)).get? (s.heap.objs.size+1)=some (UR C s.heap.objs.size):=by
  have:=uy (s.heap.push UA) (o:=UR C s.heap.objs.size) rfl
  rwa [Up]at this
 have e3:(s.heap.push UA).Ns s.heap.objs.size (fun _=>none):=⟨UA,#[],_,e1,rfl,(fun e he=>absurd he (by simp)),fun _=>rfl⟩
 have I1:=I.laid (a:=s.heap.objs.size) (o:=.own (s.heap.objs.size+1)) (h':=s.heap.push UA) (t':=s.toks) (fun b u q=>ug _ q) (ud _) ⟨_,e1⟩
 refine I1.laid (a:=s.heap.objs.size+1) (o:=.ins C s.heap.objs.size []) (t':=s.toks) (fun b u q=>ug _ q) (Nat.le_of_eq (Up _ _)) ?_
 have ne:s.heap.objs.size≠s.heap.objs.size+1:=uS (tP _)
 refine⟨by rw[zi ne,upd_same],uX _,ne,e2,fun _=>none,(Heap.Ns1.of_empty e3).at fun o q=>ug _ q,fun _=>True.intro,fun y hy=>absurd rfl hy⟩
theorem Qb{prog:Program}{w:World}{env:Env}{e:Expr}{f:Str}{pos:Pos}{s:Shared}{Q:Value->Shared->Prop}(hb:attributeBase e f env (eval e env)=eval e env)
  (h:wpAny (model prog w) A (eval e env) (fun o s₁=>wpAny (model prog w) A (getAttr o f true) Q E s₁) E s):wpAny (model prog w) A (eval (.Attribute e f pos) env) Q E s :=
 Attribute_any_ h (by rw[arm_eval_Attribute,hb])
end
def tFld(K:ub)(ta:TE)(f:Str):TE:=fun σ H Q=>ta σ H fun x H1=>∃a C dx fs v,x=.ref a/\H1 a=some (.ins C dx fs)/\Cls K C/\NoAttr K C f/\fs.lookup f=some v/\Q v H1
def sFld(K:ub)(ta tv:TE)(f:Str):TS:=fun D σ H=>tv σ H fun y H1=>ta σ H1 fun x H2=>∃a C dx fs,x=.ref a/\H2 a=some (.ins C dx fs)/\Cls K C/\NoAttr K C f/\fs.length < 1000 /\
 D.nx σ (upd H2 a (.ins C dx (putF f y fs)))
section
variable{X:Cx}{o e value:Expr}{f:Str}{pos pos' tpos:Pos}{ta tv:TE}
theorem zbC(he:PE X e ta)(hb:attributeBase e f X.env (eval e X.env)=eval e X.env):PE X (.Attribute e f pos) (tFld X.K ta f):=by
 intro pins s σ H Q I h
 refine Qb hb (thn (he pins s σ H _ I h) fun u s1 ⟨x,H1,I1,rx,a,C,dx,fs,v,ex,ea,c,n,l,q⟩=>?_)
 subst ex
 obtain rfl:u=Value.ref a:=rx
 exact Ye I1 ea c n l fun u' s2 I2 ru=>⟨v,H1,I2,ru,q⟩
theorem zbD(ha:PE X o ta)(hv:PE X value tv)(hs:swapsWith value (some (.Attribute o f pos')) pos.line X.env=pure false):PS X (.Assign [.Attribute o f pos'] value pos) (sFld X.K ta tv f):=by
 intro pins s σ H D I h
 refine plainObj_wpAny_Assign_Attribute (thn (hv pins s σ H _ I h) fun u s1 ⟨y,H1,I1,ry,q⟩=>thn (ha pins s1 σ H1 _ I1 q) fun ov s2 ⟨x,H2,I2,rx,a,C,dx,fs,ex,ea,c,n,l,q2⟩=>?_) hs
 subst ex
 obtain rfl:ov=Value.ref a:=rx
 exact Yg I2 ea c n l ry fun s3 I3=>⟨σ,_,I3,q2⟩
end
section
variable{X:Cx}{pins:List (Addr×Obj)}{σ:St}{H:Hp}{s:Shared}{A:Around}{E:Value->Shared->Prop}{Q:Value->Shared->Prop}{c:Value}{b:Bool}
inductive TyOf(K:ub)(H:Hp):V->Value->Prop where
 |non:TyOf K H .non (.type "NoneType")
 |bl (x:Bool):TyOf K H (.bl x) (.type "bool")
 |int (i:Int):TyOf K H (.int i) (.type "int")
 |str (x:Str):TyOf K H (.str x) (.type "str")
 |flt (x:UInt64):TyOf K H (.flt x) (.type "float")
 |lst {a:Addr} {xs:List V} (e:H a=some (.lst xs)):TyOf K H (.ref a) (.type "list")
 |frz {a:Addr} {o:Obj} {xs:List V} (e:H a=some (.frz o (.lst xs))):TyOf K H (.ref a) (.type "list")
 |tup {a:Addr} {xs:List V} (e:H a=some (.tup xs)):TyOf K H (.ref a) (.type "tuple")
 |dK {a:Addr} {kvs:List (Key×V)} (e:H a=some (.dK kvs)):TyOf K H (.ref a) (.type "dict")
 |dT {a:Addr} {kvs:List (List Key×V)} (e:H a=some (.dT kvs)):TyOf K H (.ref a) (.type "dict")
 |ins {a C dx:Addr} {fs:List (Str×V)} (e:H a=some (.ins C dx fs)) (cl:Cls K C) (ha:u6 K (.ref C) "__class__"=some (some (.builtin "object.__class__")))
   (hn:PySem.W.specialIn K (.builtin "object.__class__") "__get__"=some (some (.builtin "getset_descriptor.__get__"))) (htk:PySem.W.takesIn K (.builtin "object.__class__")=some true)
   (hm:PySem.W.mroIn K C (.type "object")=some true):TyOf K H (.ref a) (.ref C)
end
structure Room(k:Nat)(A:Around):Prop where
 hd:A.handled=none
 dp:A.depth+3*k+5 < recursionLimit
 un:A.units+16*k+200 < cLine
theorem Room.mono{j k:Nat}{A:Around}(r:Room k A)(h:j<=k):Room j A:=⟨r.hd,by have:=r.dp;lia,by have:=r.un;lia⟩
theorem Room.deeper{k:Nat}{A:Around}(r:Room (k+1) A)(env:Env):Room k (A.deeper env) :=
 ⟨r.hd,by have:=r.dp;show A.depth+1+3*k+5 < _;lia,by have:=r.un;show A.units+3+16*k+200 < _;lia⟩
theorem Yh{A:Around}{C:Addr}{us:List Value}{kw:List (Str×Value)}:(A.under (.builtin "type.__call__" ⟨.ref C::us,kw⟩)).depth=A.depth+1:=by
 first|rfl|simp[Around.under,Code.weight,Code.isCreation,Code.isGuard,Code.isCaller,Code.frames,Code.isFrame,guardIds]
theorem Yi{A:Around}{C:Addr}{us:List Value}{kw:List (Str×Value)}:(A.under (.builtin "type.__call__" ⟨.ref C::us,kw⟩)).units=A.units+1:=by
 first|rfl|simp[Around.under,Code.cUnits,Code.frames,Code.isFrame]
theorem Room.make{k:Nat}{A:Around}(r:Room (k+1) A)(C:Addr)(us:List Value)(kw:List (Str×Value)):Room k (A.under (.builtin "type.__call__" ⟨.ref C::us,kw⟩)) :=
 ⟨r.hd,by have:=r.dp;rw[Yh];lia,by have:=r.un;rw[Yi];lia⟩
theorem Room.depth{k:Nat}{A:Around}(r:Room k A):A.depth < recursionLimit:=by have:=r.dp;lia
theorem Room.units{k:Nat}{A:Around}(r:Room k A):A.units+64 < cLine:=by have:=r.un;lia
theorem Room.units0{k:Nat}{A:Around}(r:Room k A):A.units < cLine:=by have:=r.un;lia
def tNil:TA:=fun _ H Q=>Q [] H
def zU(ta:TE)(tr:TA):TA:=fun σ H Q=>ta σ H fun x H1=>tr σ H1 fun xs H2=>Q (x::xs) H2
section
variable{X:Cx}{e:Expr}{es:List Expr}{te:TE}{t:TA}{pos:Pos}
theorem zbE:PA X [] tNil:=fun _ _ _ _ H Q I h=>Calls.spliced_nil ⟨[],H,I,.nil,h⟩
theorem Qc(ha:PE X e te)(hr:PA X es t)(hs:starEach (e::es) X.env=(false,eval e X.env)::starEach es X.env:=by rfl):PA X (e::es) (zU te t):=by
 intro pos pins s σ H Q I h
 rw[hs]
 show wpAny _ _ (spliced ((false,eval e X.env)::backTo pos (starEach es X.env))) _ _ s
 refine Calls.spliced_cons (thn (ha pins s σ H _ I h) fun u s1 ⟨x,H1,I1,r1,q1⟩=>?_)
 exact thn (hr pos pins s1 σ H1 _ I1 q1) fun us s2 ⟨xs,H2,I2,r2,q2⟩=>⟨x::xs,H2,I2,.cons r1 r2,q2⟩
def tTup(t:TA):TE:=fun σ H Q=>t σ H fun xs H1=>xs.length<=sizeLine/\∀p,H1 p=none->Q (.ref p) (upd H1 p (.tup xs))
def tLst(t:TA):TE:=fun σ H Q=>t σ H fun xs H1=>xs.length<=sizeLine/\∀p,H1 p=none->Q (.ref p) (upd H1 p (.lst xs))
theorem zbF{x1}(h:PA X es t):PE X (.Tuple es x1 pos) (tTup t):=by
 intro pins s σ H Q I hq
 refine wpAny_Tuple_spliced (thn (h pos pins s σ H _ I hq) fun us s1 ⟨xs,H1,I1,r,z,q⟩=>⟨by rw[<- r.length];exact z,?_⟩)
 have hf:H1 s1.heap.objs.size=none:=I1.hok.fresh (ud _)
 refine⟨.ref s1.heap.objs.size,upd H1 s1.heap.objs.size (.tup xs),I1.laid (t':=s1.toks) (fun b u e=>ug _ e) (ud _) ?_,rfl,q _ hf⟩
 exact⟨z,us,r,⟨_,uy _ rfl,rfl,rfl,_,rfl⟩⟩
theorem zbG(h:PA X es t):PE X (.List es pos) (tLst t):=by
 intro pins s σ H Q I hq
 refine wpAny_List_spliced (thn (h pos pins s σ H _ I hq) fun us s1 ⟨xs,H1,I1,r,z,q⟩=>⟨by rw[<- r.length];exact z,?_⟩)
 have hf:H1 s1.heap.objs.size=none:=I1.hok.fresh (ud _)
 refine⟨.ref s1.heap.objs.size,upd H1 s1.heap.objs.size (.lst xs),I1.laid (t':=s1.toks) (fun b u e=>ug _ e) (ud _) ?_,rfl,q _ hf⟩
 exact⟨z,us,0,r,uy _ rfl⟩
end
abbrev Sp:=List V->Hp->VK->XK->Prop
abbrev CXT:=List Env->Hp->Shared->XK->Value->Shared->Prop
structure Env0(P:Program)(w:World)(K:ub)(mg:Str->Option Value)(base:Heap)(A:Around)(outer:List Env)(s:Shared)(H:Hp):Prop where
 frames:A.frames=some outer
 mod:Mod K mg base
 bs:∀b o,base.get? b=some o->s.heap.get? b=some o/\H b=none
 bsz:base.objs.size<=s.heap.objs.size
 funs:s.heap.FunFrames base outer
 frf:∀b∈frs outer,H b=none
 hok:HOk P w H s.heap
 bare:AllBare s.gens
def CE(outer:List Env)(P:Program)(w:World)(H:Hp)(s:Shared)(Q:VK)(u:Value)(s':Shared):Prop :=
 ∃v H',s'.os=s.os/\AllBare s'.gens/\Un (frs outer) [] H H' s.heap s'.heap/\HOk P w H' s'.heap/\RelV v u/\Q v H'
def CR(CX:CXT)(outer:List Env)(P:Program)(w:World)(H:Hp)(s:Shared)(Q:VK)(E:XK)(r:Result)(s':Shared):Prop :=
 match r with
 |.ok (.ret u)=>CE outer P w H s Q u s'
 |.ok _=>False
 |.error e=>CX outer H s E e s'
structure FnOk(P:Program)(w:World)(K:ub)(mg:Str->Option Value)(base:Heap)(CX:CXT)(k:Nat)(f:Addr)(fd:FuncData)(ps:List Str)(sp:Sp):Prop where
 len:∀vs H Q E,sp vs H Q E->vs.length=ps.length
 run:∀(A:Around)(outer:List Env)(s:Shared)(H:Hp)(args:Args)(us:List Value)(vs:List V)(Q:VK)(E:XK),Room k A->Env0 P w K mg base A outer s H->BindsTo s fd args (ps.zip us)->Vals vs us->sp vs H Q E ->
  codeAny (model P w) A (.call (.ref f) args) (CR CX outer P w H s Q E) s
theorem FnOk.mono{P:Program}{w:World}{K:ub}{mg:Str->Option Value}{base:Heap}{CX:CXT}{j k:Nat}{f:Addr}{fd:FuncData}{ps:List Str}{sp:Sp}(F:FnOk P w K mg base CX j f fd ps sp)(h:j<=k):
  FnOk P w K mg base CX k f fd ps sp:=⟨F.len,fun A outer s H args us vs Q E hr=>F.run A outer s H args us vs Q E (hr.mono h)⟩
theorem Env0.make{P:Program}{w:World}{K:ub}{mg:Str->Option Value}{base:Heap}{A:Around}{outer:List Env}{s:Shared}{H:Hp}(e:Env0 P w K mg base A outer s H)(C:Addr)(us:List Value)(kw:List (Str×Value)):
  Env0 P w K mg base (A.under (.builtin "type.__call__" ⟨.ref C::us,kw⟩)) outer s H:=⟨by first|exact e.frames|(simpa[Around.under,Code.envs,Code.isFrame,pushEnvs]using e.frames),e.mod,e.bs,e.bsz,e.funs,e.frf,e.hok,e.bare⟩
section
variable{X:Cx}{pins:List (Addr×Obj)}{σ:St}{H:Hp}{s s':Shared}
theorem Inv.env0(I:Inv X pins σ H s):Env0 X.prog X.w X.K X.mg X.base X.A X.stack s H :=
 ⟨I.ok.frames,I.ok.mod,I.bs,Ua I.ok.bsz I.sz,I.stack,I.stkFree,I.hok,I.bare⟩
theorem Inv.after{Q:VK}{u:Value}(I:Inv X pins σ H s)(h:CE X.stack X.prog X.w H s Q u s'):EP X pins σ Q u s':=by
 obtain⟨v,H',os,bare,un,hok,r,q⟩:=h
 obtain⟨hh,g,d,t,os'⟩:=s'
 obtain rfl:os'=s.os:=os
 exact⟨v,H',I.call (h':=hh) (g':=g) (d':=d) (t':=t) (ch:=[]) un hok bare (fun b z=>absurd z (by simp)),r,q⟩
end
def Zs(sp:Sp)(dvs:List V)(E:XK)(t:TA):TE:=fun σ H Q=>t σ H fun vs H1=>sp (vs++dvs) H1 Q E
def zaN(C:Addr)(m:Str)(sp:Sp)(dvs:List V)(E:XK)(ta:TE)(t:TA):TE:=fun σ H Q=>ta σ H fun x H1=>∃a dx fs,x=.ref a/\H1 a=some (.ins C dx fs)/\fs.lookup m=none /\
 t σ H1 fun vs H2=>sp (x::(vs++dvs)) H2 Q E
def Y6(C:Addr)(sp:Sp)(dvs:List V)(E:XK)(t:TA):TE:=fun σ H Q=>t σ H fun vs H1=>∀x dx,H1 x=none->H1 dx=none->dx≠x ->
 sp (.ref x::(vs++dvs)) (upd (upd H1 dx (.own x)) x (.ins C dx [])) (fun v H2=>v=.non/\Q (.ref x) H2) E
def Binds(K:ub)(fd:FuncData)(ps:List Str)(ds:List Value):Prop :=
 ∀(s:Shared)(us:List Value),K.In s.heap->(us++ds).length=ps.length->BindsTo s fd ⟨us,[]⟩ (ps.zip (us++ds))
theorem Binds.all{K:ub}{fd:FuncData}{ps:List Str}(h:∀us:List Value,us.length=ps.length->bindArgs fd ⟨us,[]⟩=pure (ps.zip us)):Binds K fd ps []:=fun s us _ hl=>by
 rw[uu]at hl ⊢
 exact .of_eq (h us hl)
def yt(CX:CXT)(X:Cx)(E:XK):Prop:=∀(pins:List (Addr×Obj))(σ:St)(H:Hp)(s:Shared)(e:Value)(s':Shared),Inv X pins σ H s->CX X.stack H s E e s'->X.xe e s'
section
variable{X:Cx}{CX:CXT}{k:Nat}{f C:Addr}{fd:FuncData}{ps:List Str}{sp:Sp}{dvs:List V}{ds:List Value}{E:XK}{x m:Str}{p pos apos:Pos}{e o:Expr}{es:List Expr}{ta:TE}{t:TA}
theorem jF{pins:List (Addr×Obj)}{σ:St}{H:Hp}{s:Shared}{Q:VK}{us:List Value}{vs:List V}(F:FnOk X.prog X.w X.K X.mg X.base CX k f fd ps sp)(hr:Room k X.A)(hb:Binds X.K fd ps ds)(hd:Vals dvs ds)(hx:yt CX X E)
  (I:Inv X pins σ H s) (r:Vals vs us) (h:sp (vs++dvs) H Q E):wpAny (model X.prog X.w) X.A (call (.ref f) us) (EP X pins σ Q) X.xe s:=by
 have r2:Vals (vs++dvs) (us++ds):=r.append hd
 have hl:(us++ds).length=ps.length:=by rw[<- r2.length];exact F.len _ _ _ _ h
 refine wpAny_call (codeAny_mono (F.run X.A X.stack s H ⟨us,[]⟩ (us++ds) (vs++dvs) Q E hr I.env0 (hb s us I.kIn hl) r2 h) fun r s' hq=>?_)
 cases r with
 |error e=>exact hx pins σ H s e s' I hq
 |ok fl =>
  cases fl with
  |ret u=>exact I.after hq
  |next=>exact False.elim hq
  |brk=>exact False.elim hq
  |cont=>exact False.elim hq
theorem Qd(F:FnOk X.prog X.w X.K X.mg X.base CX k f fd ps sp)(hr:Room k X.A)(hg:Gl X x)(hm:X.mg x=some (.ref f))(hk:uY X.K (.ref f)=true)(hb:Binds X.K fd ps ds)(hd:Vals dvs ds)(hx:yt CX X E)
  (ha:PA X (e::es) t) (hdb:(x == ("__debug__":Str))=false:=by decide) (he:starEach (e::es) X.env=(false,eval e X.env)::starEach es X.env:=by rfl) (hpl:(backTo pos (starEach es X.env)).any (·.1)=false:=by rfl) :
  PE X (.Call (.Name x p) (e::es) [] pos) (Zs sp dvs E t):=by
 intro pins s σ H Q I h
 refine wpAny_Call_Name_kw (xM I hg hm ?_ hdb)
 refine tG (h₀:=X.base) I.ok.mod.kin hk (thn (ha pos pins s σ H _ I h) fun us s1 ⟨vs,H1,I1,r,q⟩=>⟨I1.kIn,?_⟩) he hpl
 exact jF F hr hb hd hx I1 r q
theorem Qe{pl:Sem Bool}(he:PE X o ta)(c:Cls X.K C)(hm:Meth X.K C m f)(F:FnOk X.prog X.w X.K X.mg X.base CX k f fd ps sp)(hr:Room k X.A)(hb:Binds X.K fd ps ds)(hd:Vals dvs ds)(hx:yt CX X E)(ha:PA X (e::es) t)
  (hst:starEach (e::es) X.env=(false,eval e X.env)::starEach es X.env:=by rfl) (hpl:(backTo pos (starEach es X.env)).any (·.1)=false:=by rfl)
  (ht:eval (.Call (.Attribute o m apos) (e::es) [] pos) X.env=(do
   let ov <- eval o X.env
   standAt apos.atName
   let (f,first) <- holding [ov] (getMethod ov m pl)
   callWith pos f first (backTo pos (starEach (e::es) X.env)) (backToKw pos (keywordEach [] X.env))):=by rfl) :
  PE X (.Call (.Attribute o m apos) (e::es) [] pos) (zaN C m sp dvs E ta t):=by
 intro pins s σ H Q I h
 refine PySem.W.methodCall_KW (pl:=pl) (thn (he pins s σ H _ I h) fun u s1 ⟨x,H1,I1,rx,a,dx,fs,ex,ea,l,q⟩=>?_) ht
 subst ex
 obtain rfl:u=Value.ref a:=rx
 refine Yf I1 ea c hm l ?_
 refine tG (first:=[.ref a]) (h₀:=X.base) I.ok.mod.kin hm.kp (thn (ha pos pins s1 σ H1 _ I1 q) fun us s2 ⟨vs,H2,I2,r,q2⟩=>⟨I2.kIn,?_⟩) hst hpl
 exact jF (us:=.ref a::us) (vs:=.ref a::vs) F hr hb hd hx I2 (.cons rfl r) q2
structure Mk(K:ub)(C f:Addr):Prop where
 makes:PySem.W.makesIn K C=true
 init:u6 K (.ref C) "__init__"=some (some (.ref f))
 fn:PySem.W.isFn K (.ref f)=true
 kp:uY K (.ref C)=true
theorem Zt{pins:List (Addr×Obj)}{σ:St}{H:Hp}{s:Shared}{Q:VK}{us:List Value}{vs:List V}(M:Mk X.K C f)(F:FnOk X.prog X.w X.K X.mg X.base CX k f fd ps sp)(hr:Room (k+1) X.A)(hb:Binds X.K fd ps ds)(hd:Vals dvs ds)
  (hx:yt CX X E) (I:Inv X pins σ H s) (r:Vals vs us)
  (h:∀x dx,H x=none->H dx=none->dx≠x->sp (.ref x::(vs++dvs)) (upd (upd H dx (.own x)) x (.ins C dx [])) (fun v H2=>v=.non/\Q (.ref x) H2) E) :
  wpAny (model X.prog X.w) X.A (call (.ref C) us) (EP X pins σ Q) X.xe s:=by
 have hq:=h (s.heap.objs.size+1) s.heap.objs.size (I.hok.fresh (U8 _)) (I.hok.fresh (ud _)) (uS (tP _))
 have I2:=Inv.made (C:=C) I
 have r2:Vals (V.ref (s.heap.objs.size+1)::(vs++dvs)) (Value.ref (s.heap.objs.size+1)::(us++ds)):=.cons rfl (r.append hd)
 have hl:(Value.ref (s.heap.objs.size+1)::us++ds).length=ps.length:=by
  have e:=r2.length
  rw[F.len _ _ _ _ hq]at e
  exact e.symm
 refine wpAny_call (WW (f:=f) I.kIn M.makes M.init (beq_iff_eq.mp M.fn) (codeAny_mono (F.run _ X.stack _ _ ⟨Value.ref (s.heap.objs.size+1)::us,[]⟩ (Value.ref (s.heap.objs.size+1)::(us++ds)) _ _ E (hr.make C us [])
  (I2.env0.make C us []) (hb _ (Value.ref (s.heap.objs.size+1)::us) I2.kIn hl) r2 hq) fun r s' hq'=>?_))
 cases r with
 |error e=>exact hx pins σ _ _ e s' I2 hq'
 |ok fl =>
  cases fl with
  |ret u =>
   obtain⟨v,H',I3,rv,ev,q3⟩:=I2.after hq'
   subst ev
   exact⟨rv,⟨V.ref (s.heap.objs.size+1),H',I3,rfl,q3⟩⟩
  |next=>exact False.elim hq'
  |brk=>exact False.elim hq'
  |cont=>exact False.elim hq'
theorem Qf(M:Mk X.K C f)(F:FnOk X.prog X.w X.K X.mg X.base CX k f fd ps sp)(hr:Room (k+1) X.A)(hg:Gl X x)(hm:X.mg x=some (.ref C))(hb:Binds X.K fd ps ds)(hd:Vals dvs ds)(hx:yt CX X E)
  (ha:PA X (e::es) t) (hdb:(x == ("__debug__":Str))=false:=by decide) (he:starEach (e::es) X.env=(false,eval e X.env)::starEach es X.env:=by rfl) (hpl:(backTo pos (starEach es X.env)).any (·.1)=false:=by rfl) :
  PE X (.Call (.Name x p) (e::es) [] pos) (Y6 C sp dvs E t):=by
 intro pins s σ H Q I h
 refine wpAny_Call_Name_kw (xM I hg hm ?_ hdb)
 refine tG (h₀:=X.base) I.ok.mod.kin M.kp (thn (ha pos pins s σ H _ I h) fun us s1 ⟨vs,H1,I1,r,q⟩=>⟨I1.kIn,?_⟩) he hpl
 exact Zt M F hr hb hd hx I1 r q
theorem WX(M:Mk X.K C f)(F:FnOk X.prog X.w X.K X.mg X.base CX k f fd ps sp)(hr:Room (k+1) X.A)(hg:Gl X x)(hm:X.mg x=some (.ref C))(hb:Binds X.K fd ps ds)(hd:Vals dvs ds)(hx:yt CX X E)
  (hdb:(x == ("__debug__":Str))=false:=by decide):PE X (.Call (.Name x p) [] [] pos) (Y6 C sp dvs E tNil):=by
 intro pins s σ H Q I h
 refine wpAny_Call_Name_kw (xM I hg hm ?_ hdb)
 exact PySem.W.callWith_K0 I.kIn M.kp (Zt (us:=[]) M F hr hb hd hx I .nil h)
end
section
variable{X:Cx}{CX:CXT}{k:Nat}{f C:Addr}{fd:FuncData}{ps ks:List Str}{sp:Sp}{E:XK}{x m:Str}{p pos apos kpos:Pos}{e o:Expr}{es:List Expr}{kws:List Keyword}{te ta:TE}{t tk:TA}{nm:Option Str}
variable{g:List Value->List Value->List Value}{gV:List V->List V->List V}
end
structure FnScope(N P:List Str)(sc:Scope):Prop where
 kind:sc.kind=.function
 co:sc.isCoroutine=false
 gen:sc.isGenerator=false
 nd:N.Nodup
 pre:N.take P.length=P
 par:∀x∈P,sc.names.lookup x=some .local\/sc.names.lookup x=some .cell
 nofree:∀y∈sc.names,y.2≠.free
theorem FnScope.ok{N P:List Str}{sc:Scope}(a:N.Nodup:=by decide +kernel)(b:∀x∈P,sc.names.lookup x=some .local\/sc.names.lookup x=some .cell:=by decide +kernel)(c:∀y∈sc.names,y.2≠.free:=by decide +kernel)(d:sc.kind=.function:=by rfl)(e:sc.isCoroutine=false:=by rfl)(f:sc.isGenerator=false:=by rfl)(g:N.take P.length=P:=by rfl):FnScope N P sc:=⟨d,e,f,a,g,b,c⟩
theorem v0{kindOf:Str->Option NameKind}{x:Str}:∀{binds:List (Str×Value)}{m:Str->Option Value},(∀v,(x,v)∉binds)->bindL kindOf binds m x=m x
 |[],_,_=>rfl
 | (n,v)::r,m,h=>by
  unfold bindL
  rw[v0 fun w hw=>h w (uB _ hw)]
  split
  ·have:x≠n:=by rintro rfl;exact h v uJ
   simp[this]
  ·rfl
theorem v7{kindOf:Str->Option NameKind}{x:Str}:∀{binds:List (Str×Value)}{m:Str->Option Value},(∀v,(x,v)∉binds)->bindC kindOf binds m x=m x
 |[],_,_=>rfl
 | (n,v)::r,m,h=>by
  unfold bindC
  rw[v7 fun w hw=>h w (uB _ hw)]
  split
  ·rfl
  ·have:x≠n:=by rintro rfl;exact h v uJ
   simp[this]
theorem v9{kindOf:Str->Option NameKind}{x:Str}{v:Value}:∀{P:List Str}{vs:List Value}{i:Nat}{m:Str->Option Value},P.Nodup->P[i]?=some x->vs[i]?=some v->kindOf x=some .local ->
  bindL kindOf (P.zip vs) m x=some v
 |[],_,_,_,_,h,_,_=>by simp at h
 |_::_,[],_,_,_,_,h,_=>by simp at h
 |p::P,w::vs,0,m,nd,h1,h2,hk=>by
  simp at h1 h2;subst h1;subst h2
  show bindL kindOf ((p,w)::P.zip vs) m p=_
  unfold bindL
  rw[v0 fun v hv=>(Ub.mp nd).1 (UG hv).1,if_pos hk]
  simp
 |p::P,w::vs,i+1,m,nd,h1,h2,hk=>by
  show bindL kindOf ((p,w)::P.zip vs) m x=_
  unfold bindL
  exact v9 (i:=i) (Ub.mp nd).2 (by simpa using h1) (by simpa using h2) hk
theorem ja{kindOf:Str->Option NameKind}{x:Str}{v:Value}:∀{P:List Str}{vs:List Value}{i:Nat}{m:Str->Option Value},P.Nodup->P[i]?=some x->vs[i]?=some v->kindOf x≠some .local ->
  bindC kindOf (P.zip vs) m x=some v
 |[],_,_,_,_,h,_,_=>by simp at h
 |_::_,[],_,_,_,_,h,_=>by simp at h
 |p::P,w::vs,0,m,nd,h1,h2,hk=>by
  simp at h1 h2;subst h1;subst h2
  show bindC kindOf ((p,w)::P.zip vs) m p=_
  unfold bindC
  rw[v7 fun v hv=>(Ub.mp nd).1 (UG hv).1,if_neg hk]
  simp
 |p::P,w::vs,i+1,m,nd,h1,h2,hk=>by
  show bindC kindOf ((p,w)::P.zip vs) m x=_
  unfold bindC
  exact ja (i:=i) (Ub.mp nd).2 (by simpa using h1) (by simpa using h2) hk
def start(N:List Str)(vs:List V):St:=vs.map some++uT (N.length-vs.length) none
def cxOf(CX:CXT)(P:Program)(w:World)(K:ub)(mg:Str->Option Value)(base:Heap)(N:List Str)(qual:Str)(scope:Scope)(f:Addr)(cd:Value)(A:Around)(outer:List Env)(s:Shared)(H:Hp)(E:XK):Cx where
 prog:=P
 w:=w
 K:=K
 mg:=mg
 base:=base
 A:=A.deeper (envOfC qual scope s.heap.objs.size f cd)
 N:=N
 s₀:=s
 H₀:=H
 env:=envOfC qual scope s.heap.objs.size f cd
 outer:=outer
 stack:=envOfC qual scope s.heap.objs.size f cd::outer
 ex:=[]
 calm:=true
 fn:=fun _=>true
 pn:=[]
 xe:=fun e s'=>wpAny (model P w) (A.deeper (envOfC qual scope s.heap.objs.size f cd)) (leaving (envOfC qual scope s.heap.objs.size f cd) e) (fun _ s''=>CX outer H s E e s'') (fun e' s''=>CX outer H s E e' s'') s'
theorem Zu{sc:Scope}{n:Nat}{x:Str}(h:sc.names.lookup x=some .cell):∃c,(cellsFrom n sc.names []).lookup x=some c:=by
 have q:=t9 sc.names n [] (.inl h)
 exact tU.mp q
theorem jb{CX:CXT}{P:Program}{w:World}{K:ub}{mg:Str->Option Value}{base:Heap}{N ps:List Str}{qual:Str}{scope:Scope}{f:Addr}{cd:Value}{A:Around}{outer:List Env}{s s1:Shared}{H:Hp}{E:XK}{us:List Value}{vs:List V}
  (S:FnScope N ps scope) (hd:A.handled=none) (e0:Env0 P w K mg base A outer s H) (hl:vs.length=ps.length) (r:Vals vs us)
  (x:InCallC s s.heap.objs.size (bindL (envOfC qual scope s.heap.objs.size f cd).kindOf (ps.zip us) fun _=>none) (cellsFrom (s.heap.objs.size+1) scope.names []) (bindC (envOfC qual scope s.heap.objs.size f cd).kindOf (ps.zip us) fun _=>none) s1) :
  Inv (cxOf CX P w K mg base N qual scope f cd A outer s H E) [] (start N vs) H s1:=by
 have hpl:ps.length<=N.length:=by have:=congrArg tZ S.pre;rw[uD]at this;lia
 obtain⟨h1,tk,rfl,hk⟩:=x.done
 have noA:∀b:Addr,b∉(cxOf CX P w K mg base N qual scope f cd A outer s H E).ex:=fun b z=>absurd (show b∈([]:List Addr)from z) (by simp)
 refine⟨⟨e0.mod,S.kind,rfl,rfl,ud _,fun y z c h1 h2=>?_,fun y hy=>?_,fun y c _ h=>?_,fun _=>hd,Around.frames_deeper e0.frames,.inr ⟨rfl,rfl⟩,fun b z=>absurd z (noA b),e0.bs,e0.bsz,fun b _ _=>noA b,fun b z=>absurd z (noA b),e0.funs,e0.frf⟩,
  rfl,e0.bare,Un.kept hk,⟨_,x.toInCall.ns,fun i y v h1 h2 h3=>?_⟩,fun y c h=>⟨_,x.cell y c h⟩,e0.hok.fresh (ud _),fun y c h=>?_,fun p hp=>absurd (show p∈([]:List (Addr×Obj))from hp) (by simp),e0.hok.kept hk,?_⟩
 ·exact name_of_addr x.apart (uZ h1) (uZ h2)
 ·have hy:scope.names.lookup y=some .cell\/scope.names.lookup y=some .free:=hy
  rcases hy with hy|hy
  ·exact Zu hy
  ·exact absurd rfl (S.nofree _ (uZ hy))
 ·exact Nat.le_of_lt (x.above y c (uZ h))
 ·have hi:i < vs.length:=by
   unfold start at h2
   by_cases hi:i < vs.length
   ·exact hi
   ·rw[Ul (by simpa using hi)]at h2
    rw[List.getElem?_replicate]at h2
    split at h2<;>cases h2
  have ha:vs[i]?=some v:=by
   unfold start at h2
   rw[Uc (by simpa using hi),ue]at h2
   cases e:vs[i]? with
   |none=>rw[e]at h2;cases h2
   |some a=>rw[e]at h2;cases h2;rfl
  obtain⟨u,hu,rv⟩:=r.get ha
  have hp:ps[i]?=some y:=by
   rw[<- S.pre,List.getElem?_take_of_lt (by lia)];exact h1
  have ndP:ps.Nodup:=by rw[<- S.pre];exact S.nd.sublist (List.take_sublist _ _)
  refine⟨u,rv,?_⟩
  rcases S.par y (uo hp)with k|k
  ·exact .inl ⟨k,v9 ndP hp hu k⟩
  ·obtain⟨c,e⟩:=Zu (n:=s.heap.objs.size+1) k
   refine .inr ⟨.inl k,c,e,?_⟩
   have q:=x.cell y c e
   rw[ja ndP hp hu (by show scope.names.lookup y≠_;rw[k];decide)]at q
   exact q
 ·exact e0.hok.fresh (Nat.le_of_lt (x.above y c (uZ h)))
 ·unfold start
  show _=N.length
  rw[uf,ua,UB]
  lia
theorem zaO{CX:CXT}{P:Program}{w:World}{K:ub}{mg:Str->Option Value}{base:Heap}{k:Nat}{f:Addr}{name qual:Str}{params:Arguments}{body:List Stmt}{scope:Scope}{dV kV doc pm cdv ct oc:Value}{an od:Option Addr}
  {osl:Array (Option Value)} {N ps:List Str} {sp:Sp} (lk:K.lookup f=some ⟨oc,od,.func (Uf name qual params body scope dV kV doc pm an cdv ct),osl⟩) (hcd:UK K cdv qual=true) (S:FnScope N ps scope)
  (len:∀vs H Q E,sp vs H Q E->vs.length=ps.length)
  (hbody:∀(A:Around)(outer:List Env)(s:Shared)(H:Hp)(vs:List V)(Q:VK)(E:XK),Room k (A.deeper (envOfC qual scope s.heap.objs.size f cdv))->sp vs H Q E ->
   ∃t,PSs (cxOf CX P w K mg base N qual scope f cdv A outer s H E) body t/\t { nx:=fun _ H'=>Q .non H',rt:=Q } (start N vs) H) :
  FnOk P w K mg base CX (k+1) f (Uf name qual params body scope dV kV doc pm an cdv ct) ps sp:=by
 refine⟨len,fun A outer s H args us vs Q E hr e0 hb r hsp=>?_⟩
 have hl:=len _ _ _ _ hsp
 have KX:K.In s.heap:=e0.mod.kin.keeps fun b o e=>(e0.bs b o e).1
 have lim:s.heap.NoLimit:=e0.mod.nolimit.keeps fun b o e=>(e0.bs b o e).1
 have hkind:∀y∈ps.zip us,scope.names.lookup y.1=some .local\/(scope.names.lookup y.1=some .cell/\((cellsFrom (s.heap.objs.size+1) scope.names []).lookup y.1).isSome=true):=fun⟨n,v⟩ hy=>by
  rcases S.par n (UG hy).1 with q|q
  ·exact .inl q
  ·exact .inr ⟨q,t9 _ _ _ (.inl q)⟩
 refine codeAny_call_function hr.depth (KX _ _ lk) rfl S.co S.gen rfl (PySem.W.codeRec_of KX hcd) (hb _ _ _ _ ?_)
 refine wpAny_newFunctionEnv_cells S.kind hkind fun env he s1 x=>?_
 subst he
 refine⟨lim.keeps x.toInCall.keep,codeAny_func ?_⟩
 obtain⟨t,ht,hq⟩:=hbody A outer s H vs Q E (hr.deeper _) hsp
 have I:Inv (cxOf CX P w K mg base N qual scope f cdv A outer s H E) [] (start N vs) H s1:=jb S hr.hd e0 hl r x
 refine wpAny_mono (ht [] s1 (start N vs) H _ I hq) (fun fl s' hs=>?_) fun e s' hs=>hs
 have fin:∀{σ':St}{H':Hp}{v:V}{u:Value},Inv (cxOf CX P w K mg base N qual scope f cdv A outer s H E) [] σ' H' s'->RelV v u->Q v H'->CE outer P w H s Q u s' :=
  fun{σ' H' v u} J rv q=>⟨v,H',J.os,J.bare,J.base,J.hok,rv,q⟩
 cases fl with
 |ret u =>
  obtain⟨v,σ',H',J,rv,q⟩:=hs
  exact fin J rv q
 |next =>
  obtain⟨σ',H',J,q⟩:=hs
  exact fin (v:=V.non) (u:=Value.none) J rfl q
 |brk =>
  obtain⟨_,_,_,q⟩:=hs
  exact False.elim q
 |cont =>
  obtain⟨_,_,_,q⟩:=hs
  exact False.elim q
section
variable{X:Cx}{x:Str}{p pos:Pos}{e:Expr}{es:List Expr}{t:TA}{id T:String}{r:List V->Hp->VK->Prop}
def tCB(r:List V->Hp->VK->Prop)(t:TA):TE:=fun σ H Q=>t σ H fun vs H1=>r vs H1 Q
theorem WY(hc:xN X (.builtin id) r)(hg:Gl X x)(hm:X.mg x=none)(hv:bootBuiltins x=some (.builtin id))(ha:PA X (e::es) t)(hn:x≠"__name__":=by decide)(hdb:(x == ("__debug__":Str))=false:=by decide)
  (he:starEach (e::es) X.env=(false,eval e X.env)::starEach es X.env:=by rfl) (hpl:(backTo pos (starEach es X.env)).any (·.1)=false:=by rfl):PE X (.Call (.Name x p) (e::es) [] pos) (tCB r t):=by
 intro pins s σ H Q I h
 refine wpAny_Call_Name_kw (yZ I hg hm hv ?_ hn hdb)
 exact PyProof.Rows.callWith_builtin1 (thn (ha pos pins s σ H _ I h) fun us s1 ⟨vs,H1,I1,r1,q1⟩=>hc pins s1 σ H1 vs us Q I1 r1 q1) he hpl
theorem X4(hc:xN X (.type T) r)(hg:Gl X x)(hm:X.mg x=none)(hv:bootBuiltins x=some (.type T))(ha:PA X (e::es) t)(hn:x≠"__name__":=by decide)(hdb:(x == ("__debug__":Str))=false:=by decide)
  (he:starEach (e::es) X.env=(false,eval e X.env)::starEach es X.env:=by rfl) (hpl:(backTo pos (starEach es X.env)).any (·.1)=false:=by rfl):PE X (.Call (.Name x p) (e::es) [] pos) (tCB r t):=by
 intro pins s σ H Q I h
 refine wpAny_Call_Name_kw (yZ I hg hm hv ?_ hn hdb)
 exact Ud (thn (ha pos pins s σ H _ I h) fun us s1 ⟨vs,H1,I1,r1,q1⟩=>hc pins s1 σ H1 vs us Q I1 r1 q1) he hpl
end
end L2
namespace HT
open PySem PyProof.Rows
section
open PySem.SeqAt
open PySem.AutoSeq1 (wpAny_loadPart')
open PySem.MeetsSeq PySem.MeetsSeq2 PySem.MeetsSeq3
end
section
variable{prog:Program}{w:World}{A:Around}{E:Value->Shared->Prop}{s:Shared}
theorem cat_tup{t b:Addr}{vs ws:List Value}{Q:Value->Shared->Prop}(ht:IsTup s.heap t vs.toArray)(hb:IsTup s.heap b ws.toArray)(hv:vs≠[])
  (h1:ws=[]->Q (.ref t) s) (h2:ws≠[]->Q (.ref s.heap.objs.size) { s with heap:=s.heap.push { cls:=.type "tuple",data:=.seq (vs++ws).toArray } })
  (hsz:vs.length+ws.length<=sizeLine):wpAny (model prog w) A (binaryOp .Add (.ref t) (.ref b)) Q E s:=by
 obtain⟨⟨cls,dd,data,sl⟩,ho,hc,n,hd⟩:=id ht
 obtain⟨⟨cls2,dd2,data2,sl2⟩,ho2,hc2,n2,hd2⟩:=id hb
 simp only at hc hd hc2 hd2
 subst hc hd hc2 hd2
 have e:vs.toArray++ws.toArray=(vs++ws).toArray:=by simp
 by_cases hw:ws=[]
 ·exact concat_meets ⟨_,ho,rfl⟩ ⟨_,ho2,rfl⟩ noFill_tuple_add seq_tuple_add PySem.F.slot_tuple_add PySem.F.entry_tuple_add (PySem.F.args_tuple_add_2 _ _)
   (tuple_addW1 t b vs.toArray ws.toArray n n2 dd dd2 sl sl2 (by simpa using hv) (by simp[hw])) ⟨ho,ho2,h1 hw⟩
 ·refine concat_meets ⟨_,ho,rfl⟩ ⟨_,ho2,rfl⟩ noFill_tuple_add seq_tuple_add PySem.F.slot_tuple_add PySem.F.entry_tuple_add (PySem.F.args_tuple_add_2 _ _)
   (tuple_addW2 t b vs.toArray ws.toArray n n2 dd dd2 sl sl2 (by simpa using hv) (by simpa using hw) (by rw[ut,ut];exact hsz)) ⟨ho,ho2,?_⟩
  rw[e]
  exact h2 hw
def sIx(n d:Nat):Option Int->Nat
 |none=>d
 |some v=>if v < 0 then(v+(n:Int)).toNat else min v.toNat n
theorem zbH(n d:Nat)(hd:d<=n)(o:Option Int):sIx n d o<=n:=by
 cases o with
 |none=>exact hd
 |some v =>
  show(if v < 0 then(v+(n:Int)).toNat else min v.toNat n)<=n
  by_cases hv:v < 0
  ·rw[if_pos hv];lia
  ·rw[if_neg hv];exact Nat.min_le_right _ _
theorem Y7(v:Int)(n d:Nat):(if v < 0 then max (v+(n:Int)) 0 else min v (n:Int))=((sIx n d (some v):Nat):Int):=by
 show(if v < 0 then max (v+(n:Int)) 0 else min v (n:Int))=(((if v < 0 then(v+(n:Int)).toNat else min v.toNat n):Nat):Int)
 by_cases hv:v < 0
 ·simp only[if_pos hv];lia
 ·simp only[if_neg hv];lia
theorem Yj(lo hi:Option Int)(n:Nat):Builtin.Slice.sliceAdjust lo hi 1 (n:Int)=(((sIx n 0 lo:Nat):Int),((sIx n n hi:Nat):Int)):=by
 have h1:¬ ((1:Int) < 0):=by lia
 unfold Builtin.Slice.sliceAdjust
 simp only[h1,if_false]
 refine Prod.ext ?_ ?_
 ·cases lo with
  |none=>rfl
  |some v=>exact Y7 v n 0
 ·cases hi with
  |none=>rfl
  |some v=>exact Y7 v n n
theorem Yk(i j:Nat):Builtin.Slice.slicePlaces (i:Int) (j:Int) 1=j-i:=by
 unfold Builtin.Slice.slicePlaces
 have h1:(1:Int) > 0:=by lia
 simp only[h1,if_true,Int.ediv_one]
 split<;>lia
theorem vg{v:Value}{o:Option Int}{Q:Option Int->Shared->Prop}(p:IsPart v o)(h:Q o s):wpAny (model prog w) A (Builtin.Slice.slicePartIndex v) Q E s:=by
 cases p with
 |none=>exact slicePart_none h
 |int i t=>exact slicePart_int h
theorem yU{sl:Addr}{vl vu:Value}{lo hi:Option Int}{n:Nat}{Q:Int×Int×Nat->Shared->Prop}(hs:s.heap.IsSliceOf sl vl vu .none)(pl:IsPart vl lo)(pu:IsPart vu hi)
  (h:Q (((sIx n 0 lo:Nat):Int),1,sIx n n hi-sIx n 0 lo) s):wpAny (model prog w) A (Builtin.Slice.sliceApplied (.ref sl) (pure (n:Int))) Q E s:=by
 obtain⟨os,hos,hcs,hds⟩:=id hs
 unfold Builtin.Slice.sliceApplied Builtin.Slice.sliceFields
 refine wpAny_bind (wpAny_bind (wpAny_field hos hds (x:=vl) rfl (wpAny_bind (wpAny_field hos hds (x:=vu) rfl (wpAny_bind (wpAny_field hos hds (x:=.none) rfl (wpAny_pure ?_)))))))
 refine wpAny_bind (slicePart_none ?_)
 show wpAny _ _ (if((1:Int) == 0)=true then _ else _) _ _ s
 rw[if_neg (by decide)]
 refine wpAny_bind (vg pl (wpAny_bind (vg pu (wpAny_bind (wpAny_pure ?_)))))
 show wpAny _ _ (match Builtin.Slice.sliceAdjust lo hi 1 (n:Int)with|(lo,hi)=>pure (lo,(1:Int),Builtin.Slice.slicePlaces lo hi 1)) _ _ s
 rw[Yj lo hi n]
 show wpAny _ _ (pure (((sIx n 0 lo:Nat):Int),(1:Int),Builtin.Slice.slicePlaces ((sIx n 0 lo:Nat):Int) ((sIx n n hi:Nat):Int) 1)) _ _ s
 rw[Yk]
 exact wpAny_pure h
theorem WZ(xs:Array Value)(i k:Nat):((uE k).filterMap fun(m:Nat)=>xs[((i:Int)+(m:Int)*1).toNat]?).toArray=((xs.toList.drop i).take k).toArray:=by
 have e:(fun(m:Nat)=>xs[((i:Int)+(m:Int)*1).toNat]?)=fun m=>xs[i+m]?:=by
  funext m
  have:((i:Int)+(m:Int)*1).toNat=i+m:=by lia
  rw[this]
 rw[e]
 have:=pick_run xs i k
 rw[List.filterMap_map]at this
 have e2:((fun x=>xs[x]?) ∘ fun x=>i+x)=fun m=>xs[i+m]?:=rfl
 rw[e2]at this
 rw[this]
theorem getItem_tuple_cut{t sl:Addr}{items:Array Value}{vl vu:Value}{lo hi:Option Int}{Q:Value->Shared->Prop}(ht:IsTup s.heap t items)(hs:s.heap.IsSliceOf sl vl vu .none)(pl:IsPart vl lo)(pu:IsPart vu hi)
  (hw:¬ (sIx items.size 0 lo=0/\sIx items.size items.size hi=items.size))
  (h:Q (.ref s.heap.objs.size) { s with heap:=s.heap.push { cls:=.type "tuple",data:=.seq ((items.toList.drop (sIx items.size 0 lo)).take (sIx items.size items.size hi-sIx items.size 0 lo)).toArray } })
  (hsz:items.size<=sizeLine):wpAny (model prog w) A (getItem (.ref t) (.ref sl)) Q E s:=by
 have htake:sizeOk (.seq ((items.toList.drop (sIx items.size 0 lo)).take (sIx items.size items.size hi-sIx items.size 0 lo)).toArray):=by
  show((items.toList.drop (sIx items.size 0 lo)).take (sIx items.size items.size hi-sIx items.size 0 lo)).toArray.size<=sizeLine
  rw[ut,uD,List.length_drop,Array.length_toList]
  lia
 have hj:sIx items.size items.size hi<=items.size:=zbH _ _ (ud _) hi
 obtain⟨os,hos,hcs,hds⟩:=id hs
 have hTs:s.TypeIs (.ref sl) "slice":=⟨os,hos,hcs⟩
 unfold getItem
 try with_reducible refine wpAny_holding ?_
 first|refine wpAny_bind (wpAny_pure ?_)|skip
 refine wpAny_bind (wpAny_sequenceKey ht.typeIs (by decide) ?_)
 refine wpAny_bind (wpAny_callSpecial?_slot (name:=Str.ofString "__getitem__") ht.typeIs Uj
  (wpAny_call_entry Uj ht.typeIs entry_tuple_getitem ?_ (args_tuple_getitem _ _)))
 show wpAny _ _ (Builtin.Tuple.tupleItemsOf (.ref t) >>= _) _ _ s
 refine wpAny_bind (tupleItemsOf_ ht ?_)
 refine wpAny_bind (wpAny_typeOf hTs ?_)
 rw[if_pos (by decide)]
 refine wpAny_bind (yU hs pl pu ?_)
 have hno:¬ ((((sIx items.size 0 lo:Nat):Int) == 0 && (1:Int) == 1 && (sIx items.size items.size hi-sIx items.size 0 lo) == items.size)=true):=by
  intro q
  rw[u9,u9]at q
  have q1:((sIx items.size 0 lo:Nat):Int)=0:=eq_of_beq q.1.1
  have q2:sIx items.size items.size hi-sIx items.size 0 lo=items.size:=eq_of_beq q.2
  exact hw ⟨by lia,by lia⟩
 show wpAny _ _ (if(((sIx items.size 0 lo:Nat):Int) == 0 && (1:Int) == 1 && (sIx items.size items.size hi-sIx items.size 0 lo) == items.size)=true then _ else _) _ _ s
 rw[if_neg hno,WZ]
 first
  |exact wpAny_bind (m:=Builtin.Tuple.tupleExact _) (wpAny_newObj_type (wpAny_pure ⟨_,rfl,wpAny_pure h⟩) htake)
  |exact wpAny_bind (m:=Builtin.Tuple.tupleExact _) (wpAny_newObj_type (wpAny_bind (wpAny_pure (wpAny_pure ⟨_,rfl,wpAny_pure h⟩))) htake)
  |exact wpAny_bind (wpAny_bind (m:=Builtin.Tuple.tupleExact _) (wpAny_newObj_type (wpAny_pure (wpAny_pure ⟨_,rfl,wpAny_pure h⟩)) htake))
  |exact wpAny_bind (wpAny_bind (m:=Builtin.Tuple.tupleExact _) (wpAny_newObj_type (wpAny_pure ⟨_,rfl,wpAny_pure h⟩) htake))
end
end HT
namespace L2
open PySem PySem.Spec PyProof.Rows
abbrev TO:=St->Hp->(Option Int->Hp->Prop)->Prop
def PO(X:Cx)(e:Option Expr)(t:TO):Prop :=
 ∀(pins:List (Addr×Obj))(s:Shared)(σ:St)(H:Hp)(Q:Option Int->Hp->Prop),Inv X pins σ H s->t σ H Q ->
  wpAny (model X.prog X.w) X.A (evalPart e X.env) (fun u s'=>∃o H',Inv X pins σ H' s'/\IsPart u o/\Q o H') X.xe s
def Y8:TO:=fun _ H Q=>Q none H
def zaP(t:TE):TO:=fun σ H Q=>t σ H fun x H1=>∃i,x=.int i/\Q (some i) H1
section
variable{X:Cx}{e:Expr}{te:TE}{lo hi:Option Expr}{tl th:TO}{pos p2:Pos}
theorem Qg:PO X none Y8:=by
 intro pins s σ H Q I h
 rw[evalPart_none]
 exact wpAny_pure ⟨none,H,I,.none,h⟩
theorem Qh(h:PE X e te):PO X (some e) (zaP te):=by
 intro pins s σ H Q I hw
 rw[evalPart_some]
 refine thn (h pins s σ H _ I hw) fun u s1 ⟨x,H1,I1,r1,q1⟩=>?_
 obtain⟨i,rfl,q⟩:=q1
 obtain⟨t,rfl⟩:=r1
 exact⟨some i,H1,I1,.int i t,q⟩
def SlR(X:Cx)(r:V->Option Int->Option Int->Hp->VK->Prop):Prop :=
 ∀(pins:List (Addr×Obj))(s:Shared)(σ:St)(H:Hp)(x:V)(v vl vu:Value)(lo hi:Option Int)(sl:Addr)(Q:VK),Inv X pins σ H s->RelV x v->s.heap.IsSliceOf sl vl vu .none->IsPart vl lo->IsPart vu hi->r x lo hi H Q ->
  ∃T id,typeLookup (.type T) "__getitem__"=pure (some (.builtin id))/\s.TypeIs v T/\wpAny (model X.prog X.w) X.A (getItem v (.ref sl)) (EP X pins σ Q) X.xe s
def tSl(r:V->Option Int->Option Int->Hp->VK->Prop)(te:TE)(tl th:TO):TE:=fun σ H Q=>te σ H fun x H1=>tl σ H1 fun l H2=>th σ H2 fun u H3=>r x l u H3 Q
theorem W0{r:V->Option Int->Option Int->Hp->VK->Prop}(hr:SlR X r)(he:PE X e te)(hl:PO X lo tl)(hu:PO X hi th):PE X (.Subscript e (.Slice lo hi none p2) pos) (tSl r te tl th):=by
 intro pins s σ H Q I h
 refine Subscript_ (thn (he pins s σ H _ I h) fun v s1 ⟨x,H1,I1,r1,q1⟩=>?_)
 refine wpAny_Slice (thn (hl pins s1 σ H1 _ I1 q1) fun vl s2 ⟨l,H2,I2,pl,q2⟩=>thn (hu pins s2 σ H2 _ I2 q2) fun vu s3 ⟨u,H3,I3,pu,q3⟩=>?_)
 rw[evalPart_none]
 refine wpAny_pure ?_
 have I4:Inv X pins σ H3 { s3 with heap:=s3.heap.push { cls:=.type "slice",data:=.fields #[vl,vu,.none] } }:=I3.kept (t':=s3.toks) fun b ob q=>ug _ q
 obtain⟨T,id,hT,ht,hg⟩:=hr pins { s3 with heap:=s3.heap.push { cls:=.type "slice",data:=.fields #[vl,vu,.none] } } σ H3 x v vl vu l u s3.heap.objs.size Q I4 r1 (Heap.IsSliceOf.new ..) pl pu q3
 show wpAny (model X.prog X.w) X.A (subscriptTail e (.Slice lo hi none p2) v (.ref s3.heap.objs.size)) (EP X pins σ Q) X.xe { s3 with heap:=s3.heap.push { cls:=.type "slice",data:=.fields #[vl,vu,.none] } }
 exact tail_any (ops:=[.ref s3.heap.objs.size,v]) ht hT hg (by with_unfolding_all rfl)
def cutV(xs:List V)(lo hi:Option Int):List V:=(xs.drop (HT.sIx xs.length 0 lo)).take (HT.sIx xs.length xs.length hi-HT.sIx xs.length 0 lo)
theorem wL(xs:List V)(lo hi:Option Int):(cutV xs lo hi).length<=xs.length:=by
 unfold cutV
 rw[uD,List.length_drop]
 lia
def rSlT(K:ub):V->Option Int->Option Int->Hp->VK->Prop:=fun x lo hi H Q=>∃a xs,x=.ref a/\SqT K H a xs /\
 ¬ (HT.sIx xs.length 0 lo=0/\HT.sIx xs.length xs.length hi=xs.length)/\∀p,H p=none->Q (.ref p) (upd H p (.tup (cutV xs lo hi)))
theorem zbI:SlR X (rSlT X.K):=by
 intro pins s σ H x v vl vu lo hi sl Q I rx hs pl pu h
 obtain⟨a,xs,rfl,hx,hw,q⟩:=h
 cases rx
 obtain⟨its,r,ht,hz⟩:=I.tuple hx
 have hlen:its.toArray.size=xs.length:=by rw[ut];exact r.length.symm
 refine⟨"tuple",_,Uj.lookup,ht.typeIs,?_⟩
 refine HT.getItem_tuple_cut ht hs pl pu (by rw[hlen];exact hw) ?_ (by rw[hlen];exact hz)
 rw[hlen]
 refine⟨.ref s.heap.objs.size,_,I.laid (t':=s.toks) (o:=.tup (cutV xs lo hi)) (fun b ob q=>ug _ q) (ud _) ?_,rfl,q _ (I.hok.fresh (ud _))⟩
 exact⟨Ua (wL xs lo hi) hz,_,(r.drop (HT.sIx xs.length 0 lo)).take (HT.sIx xs.length xs.length hi-HT.sIx xs.length 0 lo),IsTupN.new _ _⟩
def zaQ(K:ub):R2:=fun x y H Q=>∃a b xs ys,x=.ref a/\y=.ref b/\SqT K H a xs/\SqT K H b ys/\xs≠[]/\xs.length+ys.length<=sizeLine /\
 (ys=[]->Q (.ref a) H)/\(ys≠[]->∀p,H p=none->Q (.ref p) (upd H p (.tup (xs++ys))))
theorem Vals.nil_iff{xs:List V}{us:List Value}(r:Vals xs us):us=[]↔xs=[]:=by
 cases r with
 |nil=>simp
 |cons _ _=>simp
theorem Qi:OpR X (binaryOp .Add) (zaQ X.K):=by
 intro pins s σ H x y v u Q I rx ry h
 obtain⟨a,b,xs,ys,rfl,rfl,ha,hb,hx,hz,q1,q2⟩:=h
 cases rx
 cases ry
 obtain⟨its,r1,p1,_⟩:=I.tuple ha
 obtain⟨its2,r2,p2,_⟩:=I.tuple hb
 refine HT.cat_tup p1 p2 (fun z=>hx (r1.nil_iff.mp z)) (fun z=>⟨.ref a,H,I,rfl,q1 (r2.nil_iff.mp z)⟩) (fun z=>?_) (by rw[<- r1.length,<- r2.length];exact hz)
 refine⟨.ref s.heap.objs.size,_,I.laid (t':=s.toks) (o:=.tup (xs++ys)) (fun b ob q=>ug _ q) (ud _) ?_,rfl,q2 (fun w=>z (r2.nil_iff.mpr w)) _ (I.hok.fresh (ud _))⟩
 exact⟨by rw[uf];exact hz,_,r1.append r2,IsTupN.new _ _⟩
end
def ixN(n:Nat)(i:Int):Option Nat:=if 0<=i then(if i < n then some i.toNat else none)else if -(n:Int)<=i then some (i+n).toNat else none
def atI{α:Type}(xs:List α)(i:Int):Option α:=(ixN xs.length i).bind fun j=>xs[j]?
theorem Y9{n:Nat}{i:Int}{j:Nat}(h:ixN n i=some j):seqIndex? i n=some j/\j < n/\-(n:Int)<=i/\i < n:=by
 unfold ixN at h
 by_cases h0:0<=i
 ·rw[if_pos h0]at h
  by_cases h1:i < n
  ·rw[if_pos h1]at h
   have e:i.toNat=j:=uP.inj h
   exact⟨by rw[seqIndex_of h0 h1,e],by lia,by lia,h1⟩
  ·rw[if_neg h1]at h;cases h
 ·rw[if_neg h0]at h
  by_cases h1:-(n:Int)<=i
  ·rw[if_pos h1]at h
   have e:(i+n).toNat=j:=uP.inj h
   exact⟨by rw[seqIndex_neg (by lia) h1,e],by lia,h1,by lia⟩
  ·rw[if_neg h1]at h;cases h
theorem jH{α:Type}{xs:List α}{i:Int}{v:α}(h:atI xs i=some v):∃j,seqIndex? i xs.length=some j/\xs[j]?=some v/\j < xs.length/\-(xs.length:Int)<=i/\i < xs.length:=by
 unfold atI at h
 cases e:ixN xs.length i with
 |none=>rw[e]at h;cases h
 |some j =>
  rw[e]at h
  obtain⟨h1,h2,h3,h4⟩:=Y9 e
  exact⟨j,h1,h,h2,h3,h4⟩
theorem zP{α:Type}{xs:List α}{j:Nat}{v:α}(h:xs[j]?=some v):atI xs (j:Int)=some v:=by
 have hj:j < xs.length:=(uc.mp h).1
 have e:ixN xs.length (j:Int)=some j:=by
  unfold ixN
  rw[if_pos (by lia),if_pos (by lia)];simp
 unfold atI;rw[e];exact h
theorem aI0{α:Type}{a:α}{r:List α}:atI (a::r) 0=some a:=zP (j:=0) rfl
theorem aI1{α:Type}{a b:α}{r:List α}:atI (a::b::r) 1=some b:=zP (j:=1) rfl
theorem aI2{α:Type}{a b c:α}{r:List α}:atI (a::b::c::r) 2=some c:=zP (j:=2) rfl
theorem aI3{α:Type}{a b c d:α}{r:List α}:atI (a::b::c::d::r) 3=some d:=zP (j:=3) rfl
theorem Zv{α:Type}(xs:List α)(v:α):atI (xs++[v]) (-1)=some v:=by
 have hl:(xs++[v]).length=xs.length+1:=by simp
 have e:ixN (xs++[v]).length (-1)=some xs.length:=by
  unfold ixN
  rw[hl,if_neg (by decide),if_pos (by lia)]
  congr 1
  lia
 unfold atI
 rw[e]
 show(xs++[v])[xs.length]?=some v
 simp
def jJ(b:Expr):Prop:=∀o i,subscripted b false o i=operate [o,i] (getItem o i)
def IxR(X:Cx)(r:R2):Prop :=
 ∀(value slice:Expr)(pins:List (Addr×Obj))(s:Shared)(σ:St)(H:Hp)(x y:V)(v u:Value)(Q:VK),Inv X pins σ H s->RelV x v->RelV y u->r x y H Q ->
  subscripted slice false v u=operate [v,u] (getItem v u)->wpAny (model X.prog X.w) X.A (subscriptTail value slice v u) (EP X pins σ Q) X.xe s
def MtR(X:Cx)(id:String)(r:V->List V->Hp->VK->Prop):Prop :=
 ∀(pins:List (Addr×Obj))(s:Shared)(σ:St)(H:Hp)(x:V)(xs:List V)(v:Value)(us:List Value)(Q:VK),Inv X pins σ H s->RelV x v->Vals xs us->r x xs H Q ->
  wpAny (model X.prog X.w) X.A (call (.builtin id) (v::us)) (EP X pins σ Q) X.xe s
section
variable{X:Cx}{a b:Expr}{ta tb:TE}{pos:Pos}
theorem zcT{r:R2}(hr:IxR X r)(ha:PE X a ta)(hb:PE X b tb)(hs:jJ b):PE X (.Subscript a b pos) (tOp r ta tb):=by
 intro pins s σ H Q I h
 exact Subscript_ (binT ha hb I h fun v u s2 x y H2 I2 rx ry q=>hr a b pins s2 σ H2 x y v u Q I2 rx ry q (hs _ _))
def rIxL(K:ub):R2:=fun x y H Q=>∃p xs i v,x=.ref p/\y=.int i/\SqL K H p xs/\atI xs i=some v/\Q v H
def rIxT(K:ub):R2:=fun x y H Q=>∃p xs i v,x=.ref p/\y=.int i/\SqT K H p xs/\atI xs i=some v/\Q v H
def rIxS:R2:=fun x y H Q=>∃z i c,x=.str z/\y=.int i/\z.length<=sizeLine/\atI z.cps.toList i=some c/\Q (.str ⟨#[c]⟩) H
theorem Qj:IxR X (rIxL X.K):=by
 intro value slice pins s σ H x y v u Q I rx ry h hs
 obtain⟨p,xs,i,z,rfl,rfl,hq,he,q⟩:=h
 cases rx
 obtain⟨t,rfl⟩:=ry
 obtain⟨its,r,pl,hz⟩:=I.list hq
 obtain⟨j,h1,h2,h3,h4,h5⟩:=jH he
 obtain⟨w,ew,rw'⟩:=r.get h2
 have hl:=r.length
 have hn:=vf
 have fin:EP X pins σ Q w s:=⟨z,H,I,rw',q⟩
 by_cases h0:0<=i
 ·have hj:i.toNat=j:=by
   rw[seqIndex_of h0 h5]at h1
   exact uP.inj h1
  exact item_listR pl.isList h0 (by lia) (by rw[hj];simpa using ew) fin hs
 ·have hj:(i+(its.toArray.size:Int)).toNat=j:=by
   rw[seqIndex_neg (by lia) h4]at h1
   rw[ut,<- hl]
   exact uP.inj h1
  exact subscriptTail_builtinR (x:=w) pl.isList.typeIs slot_list_getitem.lookup
   (wpAny_getItem_list_neg (Q:=fun r s'=>r=w/\EP X pins σ Q r s') pl.isList (by lia) (by rw[ut]<;>lia) (by lia) (by rw[hj];simpa using ew) ⟨rfl,fin⟩) hs
theorem zbJ:IxR X (rIxT X.K):=by
 intro value slice pins s σ H x y v u Q I rx ry h hs
 obtain⟨p,xs,i,z,rfl,rfl,hq,he,q⟩:=h
 cases rx
 obtain⟨t,rfl⟩:=ry
 obtain⟨its,r,pl,hz⟩:=I.tuple hq
 obtain⟨j,h1,h2,h3,h4,h5⟩:=jH he
 obtain⟨w,ew,rw'⟩:=r.get h2
 have hl:=r.length
 have hn:=vf
 have fin:EP X pins σ Q w s:=⟨z,H,I,rw',q⟩
 exact subscriptTail_builtinR (x:=w) pl.typeIs slot_tuple_getitem.lookup
  (getItem_tuple (j:=j) (Q:=fun r s'=>r=w/\EP X pins σ Q r s') pl (by lia) (by lia) (by rw[ut,<- hl];exact h1) (by simpa using ew) ⟨rfl,fin⟩) hs
theorem zbK:IxR X rIxS:=by
 intro value slice pins s σ H x y v u Q I rx ry h hs
 obtain⟨z,i,c,rfl,rfl,hz,he,q⟩:=h
 obtain⟨t,rfl⟩:=rx
 obtain⟨t',rfl⟩:=ry
 obtain⟨j,h1,h2,h3,h4,h5⟩:=jH he
 have hl:z.cps.toList.length=z.length:=by simp[Str.length]
 rw[hl]at h1 h4 h5
 have hn:=vf
 exact tail_any (typeIs_str s z t) slot_str_getitem.lookup (getItem_str (c:=c) (by
  have e1:decide (i < -(2 ^ 63:Int))=false:=decide_eq_false (by lia)
  have e2:decide (i ≥ 2 ^ 63)=false:=decide_eq_false (by lia)
  rw[e1,e2,Bool.or_false]) (by rw[h1];simpa using h2) ⟨.str ⟨#[c]⟩,H,I.tok _,⟨_,rfl⟩,q⟩) hs
theorem Yl(its:List Value)(n j:Nat)(u:Value):Obj.mapSeq (·.setIfInBounds j u) { cls:=.type "list",data:=.seq its.toArray n }={ cls:=.type "list",data:=.seq (its.set j u).toArray n }:=by
 simp[Obj.mapSeq]
theorem Inv.lst{pins:List (Addr×Obj)}{σ:St}{H:Hp}{s:Shared}{p:Addr}{xs:List V}(I:Inv X pins σ H s)(h:H p=some (.lst xs)):
  ∃(its:List Value)(n:Nat),Vals xs its/\s.heap.get? p=some { cls:=.type "list",data:=.seq its.toArray n }/\xs.length<=sizeLine:=by
 obtain⟨z,its,n,r,e⟩:=I.hok p _ h
 exact⟨its,n,r,e,z⟩
theorem Inv.lstUpd{pins:List (Addr×Obj)}{σ:St}{H:Hp}{s:Shared}{p:Addr}{xs ys:List V}{its its':List Value}{n n':Nat}{f:Obj->Obj}(I:Inv X pins σ H s)(h:H p=some (.lst xs))
  (ho:s.heap.get? p=some { cls:=.type "list",data:=.seq its.toArray n }) (hf:f { cls:=.type "list",data:=.seq its.toArray n }={ cls:=.type "list",data:=.seq its'.toArray n' }) (r:Vals ys its') (hz:ys.length<=sizeLine) (t:Nat) :
  Inv X pins σ (upd H p (.lst ys)) { s with heap:=s.heap.update p f,toks:=t }:=by
 have e:(s.heap.update p f).get? p=some { cls:=.type "list",data:=.seq its'.toArray n' }:=by
  rw[UC f ho (by rw[hf]<;>rfl),hf]
 refine I.write (x:=p) (e:=p) (by rw[h];trivial) (.inl rfl) (fun b u hb q=>(UL _ _ (Ne.symm hb)).trans q) ⟨_,e⟩ ?_
 exact⟨hz,its',n',r,e⟩
def zaR:V->V->V->Hp->(Hp->Prop)->Prop:=fun o i v H Q=>∃p xs k j,o=.ref p/\i=.int k/\H p=some (.lst xs)/\ixN xs.length k=some j/\Q (upd H p (.lst (xs.set j v)))
theorem W1:PSet X zaR:=by
 intro pins s σ H o i v ov iv u Q I ro ri rv h
 obtain⟨p,xs,k,j,rfl,rfl,hp,hj,q⟩:=h
 cases ro
 obtain⟨t,rfl⟩:=ri
 obtain⟨its,n,r,ho,hz⟩:=I.lst hp
 obtain⟨h1,h2,h3,h4⟩:=Y9 hj
 have hl:=r.length
 have hn:=vf
 have I':Inv X pins σ (upd H p (.lst (xs.set j v))) { s with heap:=s.heap.update p (Obj.mapSeq (·.setIfInBounds j u)) } :=
  I.lstUpd hp ho (Yl its n j u) (r.set rv j) (by rw[List.length_set];exact hz) s.toks
 by_cases h0:0<=k
 ·have hk:k.toNat=j:=by
   rw[seqIndex_of h0 h4]at h1
   exact uP.inj h1
  exact PySem.W.ki_setAt ho h0 (by lia) (by rw[ut,<- hl];exact h4) (by rw[hk];exact⟨_,I',q⟩)
 ·have hk:(k+(its.toArray.size:Int)).toNat=j:=by
   rw[seqIndex_neg (by lia) h3]at h1
   rw[ut,<- hl]
   exact uP.inj h1
  exact PySem.W.ki_setBack ho (by lia) (by rw[ut,<- hl];exact h3) (by lia) (by rw[hk];exact⟨_,I',q⟩)
theorem jK(lo hi:Option Int)(n:Nat):(sliceBounds lo hi none n).1=((HT.sIx n 0 lo:Nat):Int)/\(sliceBounds lo hi none n).2.1=((HT.sIx n n hi:Nat):Int)/\(sliceBounds lo hi none n).2.2=1:=by
 refine⟨?_,?_,rfl⟩
 ·cases lo with
  |none=>simp[sliceBounds,HT.sIx]
  |some i =>
   simp only[sliceBounds,HT.sIx,Option.getD_none,show(1:Int) > 0 by decide,if_true]
   by_cases h:i < 0
   ·simp only[h,if_true]<;>lia
   ·simp only[h,if_false]<;>lia
 ·cases hi with
  |none=>simp[sliceBounds,HT.sIx]
  |some i =>
   simp only[sliceBounds,HT.sIx,Option.getD_none,show(1:Int) > 0 by decide,if_true]
   by_cases h:i < 0
   ·simp only[h,if_true]<;>lia
   ·simp only[h,if_false]<;>lia
theorem vV(its:List Value)(lo hi:Option Int):slicePick its.toArray lo hi none=((its.drop (HT.sIx its.length 0 lo)).take (HT.sIx its.length its.length hi-HT.sIx its.length 0 lo)).toArray:=by
 obtain⟨h1,h2,h3⟩:=jK lo hi its.toArray.size
 unfold slicePick
 rw[h1,h2,h3]
 simp only[sliceRange_one,pick_run,ut]<;>rfl
def rSlL(K:ub):V->Option Int->Option Int->Hp->VK->Prop:=fun x lo hi H Q=>∃a xs,x=.ref a/\SqL K H a xs/\∀p,H p=none->Q (.ref p) (upd H p (.lst (cutV xs lo hi)))
theorem Qk:SlR X (rSlL X.K):=by
 intro pins s σ H x v vl vu lo hi sl Q I rx hs pl pu h
 obtain⟨a,xs,rfl,hx,q⟩:=h
 cases rx
 obtain⟨its,r,ht,hz⟩:=I.list hx
 have hlen:=r.length
 refine⟨"list",_,slot_list_getitem.lookup,ht.isList.typeIs,?_⟩
 refine wpAny_getItem_list_slice ht.isList hs pl pu .none (by simp) ?_ (by rw[ut]<;>lia)
 rw[vV,<- hlen]
 refine⟨.ref s.heap.objs.size,_,I.laid (t':=s.toks) (o:=.lst (cutV xs lo hi)) (fun b ob q=>ug _ q) (ud _) ?_,rfl,q _ (I.hok.fresh (ud _))⟩
 exact⟨Ua (wL xs lo hi) hz,_,0,(r.drop (HT.sIx xs.length 0 lo)).take (HT.sIx xs.length xs.length hi-HT.sIx xs.length 0 lo),uy _ rfl⟩
def yx:V->Bool
 |.non=>true
 |.bl _=>true
 |.int _=>true
 |.str _=>true
 |_=>false
def eqV:V->V->Bool
 |.non,.non=>true
 |.bl a,.bl b=>a == b
 |.bl a,.int b=>(if a then 1 else 0) == b
 |.int a,.bl b=>a == (if b then 1 else 0)
 |.int a,.int b=>a == b
 |.str a,.str b=>a == b
 |_,_=>false
theorem W3{A:Around}{s:Shared}{y x:V}{u v:Value}(ry:RelV y u)(rx:RelV x v)(fy:yx y=true)(fx:yx x=true):SeqAt.EqAt A s u v (eqV y x):=by
 cases y with
 |non =>
  cases ry
  cases x with
  |non=>cases rx;exact SeqAt.EqAt.same _
  |bl b=>cases rx;exact SeqAt.EqAt.none_bool b
  |int b=>obtain⟨t,rfl⟩:=rx;exact SeqAt.EqAt.none_int b t
  |str b=>obtain⟨t,rfl⟩:=rx;exact SeqAt.EqAt.none_str b t
  |_=>exact absurd (show false=true from fx) ux
 |bl a =>
  cases ry
  cases x with
  |non=>cases rx;exact SeqAt.EqAt.bool_none a
  |bl b=>cases rx;exact SeqAt.EqAt.bool_bool a b
  |int b=>obtain⟨t,rfl⟩:=rx;exact SeqAt.EqAt.bool_int a b t
  |str b=>obtain⟨t,rfl⟩:=rx;exact SeqAt.EqAt.bool_str a b t
  |_=>exact absurd (show false=true from fx) ux
 |int a =>
  obtain⟨t',rfl⟩:=ry
  cases x with
  |non=>cases rx;exact SeqAt.EqAt.int_none a t'
  |bl b=>cases rx;exact SeqAt.EqAt.int_bool a t' b
  |int b=>obtain⟨t,rfl⟩:=rx;exact SeqAt.EqAt.int_int a t' b t
  |str b=>obtain⟨t,rfl⟩:=rx;exact SeqAt.EqAt.int_str a t' b t
  |_=>exact absurd (show false=true from fx) ux
 |str a =>
  obtain⟨t',rfl⟩:=ry
  cases x with
  |non=>cases rx;exact SeqAt.EqAt.str_none a t'
  |bl b=>cases rx;exact SeqAt.EqAt.str_bool a t' b
  |int b=>obtain⟨t,rfl⟩:=rx;exact SeqAt.EqAt.str_int a t' b t
  |str b=>obtain⟨t,rfl⟩:=rx;exact SeqAt.EqAt.str_str a t' b t
  |_=>exact absurd (show false=true from fx) ux
 |_=>exact absurd (show false=true from fy) ux
def eqU(x:V)(u:Value):Bool:=match u with
 |.none=>eqV .non x
 |.bool b=>eqV (.bl b) x
 |.int i _=>eqV (.int i) x
 |.str z _=>eqV (.str z) x
 |_=>false
theorem W4{x y:V}{u:Value}(r:RelV y u)(f:yx y=true):eqU x u=eqV y x:=by
 cases y with
 |non=>cases r;rfl
 |bl b=>cases r;rfl
 |int i=>obtain⟨t,rfl⟩:=r;rfl
 |str z=>obtain⟨t,rfl⟩:=r;rfl
 |_=>exact absurd (show false=true from f) ux
theorem xO{x:V}:∀{xs:List V}{us:List Value},Vals xs us->xs.all yx=true->us.any (eqU x)=xs.any fun y=>eqV y x
 |_,_,.nil,_=>rfl
 |y::xs,u::us,.cons r t,f=>by
  rw[List.all_cons,u9]at f
  rw[tD,tD,W4 r f.1,xO t f.2]
theorem xh{A:Around}{s:Shared}{x:V}{v:Value}(rx:RelV x v)(fx:yx x=true):∀{xs:List V}{us:List Value},Vals xs us->xs.all yx=true->∀u∈us,SeqAt.EqAt A s u v (eqU x u)
 |_,_,.nil,_=>fun u hu=>by cases hu
 |y::xs,u::us,.cons r t,f=>fun u' hu=>by
  rw[List.all_cons,u9]at f
  rcases um.mp hu with rfl|hu
  ·rw[W4 r f.1];exact W3 r rx f.1 fx
  ·exact xh rx fx t f.2 u' hu
def inV(x:V)(xs:List V):Bool:=xs.any fun y=>eqV y x
def rIn(K:ub)(neg:Bool):R2:=fun x y H Q=>∃p xs,y=.ref p/\(SqL K H p xs\/SqT K H p xs)/\yx x=true/\xs.all yx=true/\Q (.bl (if neg then !inV x xs else inV x xs)) H
theorem X5:OpR X (compareOp .In) (rIn X.K false):=by
 intro pins s σ H x y v u Q I rx ry h
 obtain⟨p,xs,rfl,hq,fx,fs,q⟩:=h
 cases ry
 rcases hq with hq|hq
 ·obtain⟨its,r,pl,hz⟩:=I.list hq
  refine SeqAt.in_listAt (eqU x) pl.isList (fun w hw=>xh rx fx r fs w (by simpa using hw)) ⟨.bl _,H,I,rfl,?_⟩
  rw[show its.toArray.any (eqU x)=its.any (eqU x) by simp,xO r fs]
  exact q
 ·obtain⟨its,r,pl,hz⟩:=I.tuple hq
  refine SeqAt.in_tupleAt (eqU x) pl (fun w hw=>xh rx fx r fs w (by simpa using hw)) ⟨.bl _,H,I,rfl,?_⟩
  rw[show its.toArray.any (eqU x)=its.any (eqU x) by simp,xO r fs]
  exact q
theorem jM:OpR X (compareOp .NotIn) (rIn X.K true):=by
 intro pins s σ H x y v u Q I rx ry h
 obtain⟨p,xs,rfl,hq,fx,fs,q⟩:=h
 cases ry
 rcases hq with hq|hq
 ·obtain⟨its,r,pl,hz⟩:=I.list hq
  refine SeqAt.notIn_listAt (eqU x) pl.isList (fun w hw=>xh rx fx r fs w (by simpa using hw)) ⟨.bl _,H,I,rfl,?_⟩
  rw[show its.toArray.any (eqU x)=its.any (eqU x) by simp,xO r fs]
  exact q
 ·obtain⟨its,r,pl,hz⟩:=I.tuple hq
  refine SeqAt.notIn_tupleAt (eqU x) pl (fun w hw=>xh rx fx r fs w (by simpa using hw)) ⟨.bl _,H,I,rfl,?_⟩
  rw[show its.toArray.any (eqU x)=its.any (eqU x) by simp,xO r fs]
  exact q
theorem jN:xN X (.builtin "len") (fun xs H Q=>∃p ys,xs=[.ref p]/\(SqL X.K H p ys\/SqT X.K H p ys)/\Q (.int ys.length) H):=by
 intro pins s σ H xs us Q I r h
 obtain⟨p,ys,rfl,hq,q⟩:=h
 obtain⟨u,rfl,rx⟩:=vZ r
 cases rx
 have hn:=vf
 rcases hq with hq|hq
 ·obtain⟨its,r',pl,hz⟩:=I.list hq
  have hlen:=r'.length
  exact Calls.call_len_list pl.isList (by simp only[ut]<;>lia) ⟨.int ys.length,H,I.tok _,⟨s.toks+1,by rw[ut,hlen]⟩,q⟩
 ·obtain⟨its,r',pl,hz⟩:=I.tuple hq
  have hlen:=r'.length
  exact len_tuple pl (by simp only[ut]<;>lia) ⟨.int ys.length,H,I.tok _,⟨s.toks+1,by rw[ut,hlen]⟩,q⟩
theorem vW:xN X (.type "tuple") (fun xs H Q=>∃p ys,xs=[.ref p]/\((SqL X.K H p ys/\∀l,H l=none->Q (.ref l) (upd H l (.tup ys)))\/(SqT X.K H p ys/\Q (.ref p) H))):=by
 intro pins s σ H xs us Q I r h
 obtain⟨p,ys,rfl,h⟩:=h
 obtain⟨u,rfl,rx⟩:=vZ r
 cases rx
 rcases h with⟨hq,q⟩|⟨hq,q⟩
 ·obtain⟨its,r',pl,hz⟩:=I.list hq
  have hlen:=r'.length
  refine call_tuple_list pl.isList (fun h' kp=>?_) (by simp only[ut]<;>lia)
  have I1:Inv X pins σ H { s with heap:=h' }:=I.kept (t':=s.toks) kp
  have I2:Inv X pins σ (upd H h'.objs.size (.tup ys)) { s with heap:=h'.push { cls:=.type "tuple",data:=.seq its.toArray } } :=
   I1.laid (t':=s.toks) (fun b o e=>ug _ e) (ud _) (show ObjOk X.prog X.w _ _ _ (.tup ys)from⟨hz,its,r',IsTupN.new _ _⟩)
  exact⟨.ref h'.objs.size,_,I2,rfl,q _ (I1.hok.fresh (ud _))⟩
 ·obtain⟨its,r',pl,hz⟩:=I.tuple hq
  exact call_tuple_same pl ⟨.ref p,H,I,rfl,q⟩
def tyV(K:ub)(T:String)(x:V)(H:Hp):Prop:=match x with
 |.str _=>T="str"
 |.int _=>T="int"
 |.ref p=>(T="list"/\∃xs,SqL K H p xs)\/(T="tuple"/\((∃o,K.lookup p=some o/\o.cls=.type "tuple"/\o.dict=none)\/∃xs,H p=some (.tup xs))) \/
   (T="dict"/\((∃kvs,H p=some (.dK kvs))\/∃kvs,H p=some (.dT kvs)))\/(T="set"/\∃S n,H p=some (.set S n))
 |_=>False
theorem W5{pins:List (Addr×Obj)}{σ:St}{H:Hp}{s:Shared}{T:String}{x:V}{v:Value}(I:Inv X pins σ H s)(r:RelV x v)(ty:tyV X.K T x H):
  s.TypeIs v T/\∀a,v=.ref a->∃ob,s.heap.get? a=some ob/\ob.dict=none:=by
 cases x with
 |str z =>
  obtain⟨t,rfl⟩:=r
  cases(show T="str"from ty)
  exact⟨typeIs_str s z t,fun _ e=>nomatch e⟩
 |int i =>
  obtain⟨t,rfl⟩:=r
  cases(show T="int"from ty)
  exact⟨typeIs_int s i t,fun _ e=>nomatch e⟩
 |ref p =>
  cases r
  rcases ty with⟨rfl,xs,hq⟩|⟨rfl,⟨o,hk,hc,hd⟩|⟨xs,hk⟩⟩|⟨rfl,hk⟩|⟨rfl,S,n,hk⟩
  ·obtain⟨its,_,pl,_⟩:=I.list hq
   refine⟨pl.isList.typeIs,fun a e=>?_⟩
   cases e
   obtain⟨o,n,e,c,hd,_⟩:=pl
   exact⟨o,e,hd⟩
  ·refine⟨⟨o,I.kIn p o hk,hc⟩,fun a e=>?_⟩
   cases e
   exact⟨o,I.kIn _ o hk,hd⟩
  ·obtain⟨_,_,_,o,ho,hc,hd,_⟩:=I.hok p _ hk
   refine⟨⟨o,ho,hc⟩,fun a e=>?_⟩
   cases e
   exact⟨o,ho,hd⟩
  ·have z:∃o,s.heap.get? p=some o/\o.ExactDict:=by
    rcases hk with⟨kvs,hk⟩|⟨kvs,hk⟩
    ·obtain⟨_,_,_,_,o,_,_,e,ex,_⟩:=I.hok p _ hk
     exact⟨o,e,ex⟩
    ·obtain⟨_,_,_,_,o,_,_,e,ex,_⟩:=I.hok p _ hk
     exact⟨o,e,ex⟩
   obtain⟨o,e,ex⟩:=z
   refine⟨⟨o,e,ex.1⟩,fun a e2=>?_⟩
   cases e2
   exact⟨o,e,ex.2.1⟩
  ·obtain⟨o,_,_,_,e,ex,_⟩:=I.hok p _ hk
   refine⟨⟨o,e,ex.1⟩,fun a e2=>?_⟩
   cases e2
   exact⟨o,e,ex.2.1⟩
 |_=>exact False.elim ty
def tBM0(K:ub)(T:String)(r:V->List V->Hp->VK->Prop)(to:TE):TE:=fun σ H Q=>to σ H fun x H1=>tyV K T x H1/\r x [] H1 Q
def tBM(K:ub)(T:String)(r:V->List V->Hp->VK->Prop)(to:TE)(t:TA):TE:=fun σ H Q=>to σ H fun x H1=>tyV K T x H1/\t σ H1 fun xs H2=>r x xs H2 Q
variable{o e:Expr}{es:List Expr}{to:TE}{t:TA}{name:Str}{apos cpos:Pos}{T id:String}{r:V->List V->Hp->VK->Prop}
theorem zbL(pa:PlainAttrs T)(slot:Slot T name id)(hty:typeOf (.builtin id)=pure (.type "method_descriptor"))(hm:MtR X id r)(ho:PE X o to)
  (hbase:attributeBase o name X.env (eval o X.env)=eval o X.env:=by rfl) (hline:(apos.endLine == cpos.line)=true:=by rfl):PE X (.Call (.Attribute o name apos) [] [] cpos) (tBM0 X.K T r to):=by
 intro pins s σ H Q I h
 refine wpAny_Call_method0_late hbase hline (thn (ho pins s σ H _ I h) fun v s1 ⟨x,H1,I1,r1,ty,q1⟩=>?_)
 obtain⟨h1,h2⟩:=W5 I1 r1 ty
 exact⟨T,id,pa,slot,hty,h1,h2,Calls.callWith_builtin rfl (PySem.evalArgs_none (hm pins s1 σ H1 x [] v [] Q I1 r1 .nil q1))⟩
theorem zcU(pa:PlainAttrs T)(slot:Slot T name id)(hty:typeOf (.builtin id)=pure (.type "method_descriptor"))(hm:MtR X id r)(ho:PE X o to)(ha:PA X (e::es) t)
  (hbase:attributeBase o name X.env (eval o X.env)=eval o X.env:=by rfl)
  (hfew:((backTo cpos (starEach (e::es) X.env)).all (fun x=>!x.1) && (backToKw cpos (keywordEach [] X.env)).all (fun x=>x.1.isSome)
   && decide ((e::es).length+([]:List Keyword).length+(if([]:List Keyword).isEmpty then 0 else 1) < 30))=true:=by rfl)
  (hline:(apos.endLine == cpos.line)=true:=by rfl) (hs:starEach (e::es) X.env=(false,eval e X.env)::starEach es X.env:=by rfl) (hplain:(backTo cpos (starEach es X.env)).any (·.1)=false:=by rfl) :
  PE X (.Call (.Attribute o name apos) (e::es) [] cpos) (tBM X.K T r to t):=by
 intro pins s σ H Q I h
 refine wpAny_Call_method_late hbase hfew hline rfl (thn (ho pins s σ H _ I h) fun v s1 ⟨x,H1,I1,r1,ty,q1⟩=>?_)
 obtain⟨h1,h2⟩:=W5 I1 r1 ty
 refine⟨T,id,pa,slot,hty,h1,h2,?_⟩
 have hA:=ha cpos pins s1 σ H1 _ I1 q1
 rw[hs]at hA ⊢
 refine Calls.callWith_builtin (by show(false || (backTo cpos (starEach es X.env)).any (·.1))=false;rw[hplain]<;>rfl) (Calls.evalArgs_plain ?_)
 exact thn hA fun us s2 ⟨vs,H2,I2,r2,q2⟩=>hm pins s2 σ H2 x vs v us Q I2 r1 r2 q2
end
def MtM(X:Cx)(id:String)(r:V->List V->Hp->VK->Prop):Prop :=
 ∀(pins:List (Addr×Obj))(s:Shared)(σ:St)(H:Hp)(x:V)(xs:List V)(v:Value)(us:List Value)(Q:VK),Inv X pins σ H s->RelV x v->Vals xs us->r x xs H Q ->
  wpAny (model X.prog X.w) X.A (call (.builtin id) (v::us)) (EP X pins σ Q) X.xe s
theorem Vals.one:∀{x:V}{us:List Value},Vals [x] us->∃u,us=[u]/\RelV x u
 |_,_,.cons r .nil=>⟨_,rfl,r⟩
theorem Vals.zero:∀{us:List Value},Vals [] us->us=[]
 |_,.nil=>rfl
theorem Vals.dropLast{xs:List V}{us:List Value}(h:Vals xs us):Vals xs.dropLast us.dropLast:=by
 induction h with
 |nil=>exact .nil
 |cons r t ih =>
  cases t with
  |nil=>exact .nil
  |cons q t'=>exact .cons r ih
theorem Vals.reverse{xs:List V}{us:List Value}(h:Vals xs us):Vals xs.reverse us.reverse:=by
 induction h with
 |nil=>exact .nil
 |cons r t ih=>rw[U9,U9];exact Vals.append ih (.cons r .nil)
theorem Vals.rep{xs:List V}{us:List Value}(h:Vals xs us):∀k:Nat,Vals (uT k xs).flatten (uT k us).flatten
 |0=>.nil
 |k+1=>by
  rw[Uz,Uz,tK,tK]
  exact Vals.append h (Vals.rep h k)
theorem Ym{α:Type}(l:List α):l.eraseIdx (l.length-1)=l.dropLast:=by
 induction l with
 |nil=>rfl
 |cons a r ih =>
  cases r with
  |nil=>rfl
  |cons b r =>
   have e:(a::b::r).length-1=((b::r).length-1)+1:=by
    have h1:(a::b::r).length=r.length+2:=rfl
    have h2:(b::r).length=r.length+1:=rfl
    lia
   rw[e,List.eraseIdx_cons_succ,ih]
   all_goals rfl
theorem jc(its:List Value):∀(k:Nat)(acc:List Value),
  List.foldl (fun x1 x2=>x1++x2) acc.toArray (uT k its.toArray)=(acc++(uT k its).flatten).toArray
 |0,acc=>by simp
 |k+1,acc=>by
  have e:acc.toArray++its.toArray=(acc++its).toArray:=by simp
  have e2:(acc++its)++(uT k its).flatten=acc++(uT (k+1) its).flatten:=by
   rw[Uz,tK,Ui]
  rw[<- e2,<- jc its k (acc++its),<- e,Uz,Uh]
section
variable{X:Cx}{pins:List (Addr×Obj)}{σ:St}{H:Hp}{s:Shared}{l b:Addr}{xs ys zs:List V}
theorem Inv.lset{its its':List Value}{n:Nat}{f:Array Value->Array Value}{t':Nat}(I:Inv X pins σ H s)(hH:H l=some (.lst xs))
  (e:s.heap.get? l=some { cls:=.type "list",data:=.seq its.toArray n }) (hf:f its.toArray=its'.toArray) (hv:Vals ys its') (hz:ys.length<=sizeLine) :
  Inv X pins σ (upd H l (.lst ys)) { s with heap:=s.heap.update l (Obj.mapSeq f),toks:=t' }:=by
 have q:=PySem.IsL.update e f
 rw[hf]at q
 refine I.write (x:=l) (e:=l) (by rw[hH];exact trivial) (.inl rfl) (fun b' u hb hu=>(UL s.heap (Obj.mapSeq f) (Ne.symm hb)).trans hu) ⟨_,q⟩ ?_
 exact⟨hz,its',_,hv,q⟩
theorem Inv.lnew{its:List Value}{t':Nat}(I:Inv X pins σ H s)(hv:Vals ys its)(hz:ys.length<=sizeLine):
  Inv X pins σ (upd H s.heap.objs.size (.lst ys)) { s with heap:=s.heap.push { cls:=.type "list",data:=.seq its.toArray },toks:=t' } :=
 I.laid (fun _ _ q=>ug _ q) (ud _) ⟨hz,its,0,hv,uy _ rfl⟩
theorem Inv.fresh(I:Inv X pins σ H s):H s.heap.objs.size=none:=I.hok.fresh (ud _)
theorem Inv.lstM(I:Inv X pins σ H s)(hH:H l=some (.lst xs)):xs.length<=sizeLine/\∃(its:List Value)(n:Nat),Vals xs its/\xs.length=its.length/\s.heap.get? l=some { cls:=.type "list",data:=.seq its.toArray n }:=by
 obtain⟨z,its,n,r,e⟩:=I.hok l _ hH
 exact⟨z,its,n,r,r.length,e⟩
theorem Zw{n:Nat}(h:n<=sizeLine):Builtin.List.listTooLong n=false:=by
 unfold Builtin.List.listTooLong
 exact decide_eq_false (by lia)
end
section
variable{X:Cx}
def Xa:V->List V->Hp->VK->Prop:=fun x vs H Q=>∃l xs y,x=.ref l/\vs=[y]/\H l=some (.lst xs)/\xs.length < sizeLine/\Q .non (upd H l (.lst (xs++[y])))
theorem X6:MtM X "list.append" Xa:=by
 intro pins s σ H x vs v us Q I rx rv h
 obtain⟨l,xs,y,rfl,rfl,hH,hz,q⟩:=h
 cases rx
 obtain⟨u,rfl,ru⟩:=rv.one
 obtain⟨z,its,n,r,hl,e⟩:=I.lstM hH
 refine call_meets F.slot_list_append ⟨_,e,rfl⟩ F.entry_list_append (F.args_list_append_2 _ _) (PySem.list_append l its.toArray n u (by rw[ut];lia)) ⟨e,?_⟩
 refine⟨.non,_,I.lset (its':=its++[u]) hH e (by simp) (r.append (.cons ru .nil)) ?_,rfl,q⟩
 rw[uf,uU]
 lia
def Xb:V->List V->Hp->VK->Prop:=fun x vs H Q=>∃l b xs zs,x=.ref l/\vs=[.ref b]/\H l=some (.lst xs)/\H b=some (.lst zs)/\xs.length+zs.length<=sizeLine/\Q .non (upd H l (.lst (xs++zs)))
theorem X7:MtM X "list.extend" Xb:=by
 intro pins s σ H x vs v us Q I rx rv h
 obtain⟨l,b,xs,zs,rfl,rfl,hH,hB,hz,q⟩:=h
 cases rx
 obtain⟨u,rfl,ru⟩:=rv.one
 cases ru
 obtain⟨z,its,n,r,hl,e⟩:=I.lstM hH
 obtain⟨z2,its2,n2,r2,hl2,e2⟩:=I.lstM hB
 have hsz:its.toArray.size+its2.toArray.size<=sizeLine:=by rw[ut,ut];lia
 have hlong:¬ (!its.toArray.isEmpty && Builtin.List.listTooLong (its.toArray.size+its2.toArray.size))=true:=by
  rw[Zw hsz,Bool.and_false]
  exact ux
 refine call_meets F.slot_list_extend ⟨_,e,rfl⟩ F.entry_list_extend (F.args_list_extend_2 _ _)
  (AutoSeq1.list_extend_list_list_0 l its.toArray n b its2.toArray n2 hlong (by rw[ut];lia) (by lia)) ⟨e,e2,?_⟩
 refine⟨.non,_,I.lset (its':=its++its2) hH e (by simp) (r.append r2) ?_,rfl,q⟩
 rw[uf]
 lia
def rPop:V->List V->Hp->VK->Prop:=fun x vs H Q=>∃l xs y,x=.ref l/\vs=[]/\H l=some (.lst xs)/\xs[xs.length-1]?=some y/\Q y (upd H l (.lst xs.dropLast))
theorem zbM:MtM X "list.pop" rPop:=by
 intro pins s σ H x vs v us Q I rx rv h
 obtain⟨l,xs,y,rfl,rfl,hH,hy,q⟩:=h
 cases rx
 have hus:=rv.zero
 subst hus
 obtain⟨z,its,n,r,hl,e⟩:=I.lstM hH
 obtain⟨u,hu,ru⟩:=r.get hy
 have hy':its.toArray[its.toArray.size-1]?=some u:=by
  show its.toArray[its.length-1]?=some u
  rw[<- Array.getElem?_toList,<- hl]
  exact hu
 refine call_meets F.slot_list_pop ⟨_,e,rfl⟩ F.entry_list_pop (F.args_list_pop_1 _) (MeetsSeq.list_pop_last l its.toArray n u hy' (by rw[ut];lia)) ⟨e,?_⟩
 refine⟨y,_,I.lset (its':=its.dropLast) hH e ?_ r.dropLast ?_,ru,q⟩
 ·show its.toArray.eraseIdxIfInBounds (its.toArray.size-1)=its.dropLast.toArray
  rw[ut,List.eraseIdxIfInBounds_toArray,Ym]
 ·rw[List.length_dropLast]
  lia
def Zx:V->List V->Hp->VK->Prop:=fun x vs H Q=>∃l xs,x=.ref l/\vs=[]/\H l=some (.lst xs)/\Q .non (upd H l (.lst xs.reverse))
theorem Yn:MtM X "list.reverse" Zx:=by
 intro pins s σ H x vs v us Q I rx rv h
 obtain⟨l,xs,rfl,rfl,hH,q⟩:=h
 cases rx
 have hus:=rv.zero
 subst hus
 obtain⟨z,its,n,r,hl,e⟩:=I.lstM hH
 refine call_meets F.slot_list_reverse ⟨_,e,rfl⟩ F.entry_list_reverse (F.args_list_reverse_1 _) (AutoSeq1.list_reverse_list_0 l its.toArray n (by rw[ut];lia)) ⟨e,?_⟩
 refine⟨.non,_,I.lset (its':=its.reverse) hH e (by simp) r.reverse ?_,rfl,q⟩
 rw[Uk]
 lia
def rCat:R2:=fun x y H Q=>∃l b xs zs,x=.ref l/\y=.ref b/\H l=some (.lst xs)/\H b=some (.lst zs)/\xs.length+zs.length<=sizeLine/\∀p,H p=none->Q (.ref p) (upd H p (.lst (xs++zs)))
theorem zbN:OpR X (binaryOp .Add) rCat:=by
 intro pins s σ H x y v u Q I rx ry h
 obtain⟨l,b,xs,zs,rfl,rfl,hH,hB,hz,q⟩:=h
 cases rx
 cases ry
 obtain⟨z,its,n,r,hl,e⟩:=I.lstM hH
 obtain⟨z2,its2,n2,r2,hl2,e2⟩:=I.lstM hB
 refine PySem.P.add_list e e2 ?_ (by rw[ut,ut];lia)
 have ea:its.toArray++its2.toArray=(its++its2).toArray:=by simp
 rw[ea]
 exact⟨.ref _,_,I.lnew (t':=s.toks) (r.append r2) (by rw[uf];lia),rfl,q _ I.fresh⟩
def rRep:R2:=fun x y H Q=>∃l k xs,x=.ref l/\y=.int k/\H l=some (.lst xs)/\-(2 ^ 63)<=k/\k < 2 ^ 63/\xs.length*k.toNat<=sizeLine /\
 ∀p,H p=none->Q (.ref p) (upd H p (.lst (uT k.toNat xs).flatten))
theorem Ql{α:Type}(xs:List α)(k:Nat):(uT k xs).flatten.length=k*xs.length:=by
 induction k with
 |zero=>simp
 |succ k ih=>rw[Uz,tK,uf,ih,Nat.succ_mul,Nat.add_comm]
theorem zbO:OpR X (binaryOp .Mult) rRep:=by
 intro pins s σ H x y v u Q I rx ry h
 obtain⟨l,k,xs,rfl,rfl,hH,h1,h2,hz,q⟩:=h
 cases rx
 obtain⟨t,rfl⟩:=ry
 obtain⟨z,its,n,r,hl,e⟩:=I.lstM hH
 have hlen:its.toArray.size*k.toNat<=sizeLine:=by rw[ut,<- hl];exact hz
 have hcap:¬ its.toArray.size*k.toNat > (2 ^ 63-1) / 8:=by
  have:(sizeLine:Nat)<=(2 ^ 63-1) / 8:=by decide
  lia
 have hfit:¬ (!Builtin.List.listFitsIndex k)=true:=by
  rw[fitsIndex_both h1 h2]
  exact ux
 have hlong:¬ Builtin.List.listTooLong (its.toArray.size*k.toNat)=true:=by
  rw[Zw hlen]
  exact ux
 have hnew:List.foldl (fun x1 x2=>x1++x2) #[] (uT (if its.toArray.isEmpty=true then 0 else k.toNat) its.toArray)=(uT k.toNat its).flatten.toArray:=by
  have f0:∀m:Nat,List.foldl (fun x1 x2=>x1++x2) #[] (uT m its.toArray)=(uT m its).flatten.toArray:=fun m=>by
   have:=jc its m []
   rw[List.nil_append]at this
   exact this
  rw[f0]
  cases its with
  |nil=>simp
  |cons a r'=>rw[if_neg (by simp)]
 refine wpAny_binaryOp_repeat_ref (T:="list") (U:="int") (by decide) ⟨_,e,rfl⟩ (fun s'=>typeIs_int s' k t) noFill_list_mul F.fills_int_mul F.slot_int_rmul repeat_list F.slot_int_index.lookup
  (call_meets F.slot_int_rmul (typeIs_int s k t) F.entry_int_rmul (F.args_int_rmul_2 _ _) (int___rmul___int_list k t l its.toArray n)
   ⟨e,rfl,⟨_,e,rfl⟩,call_meets F.slot_list_mul ⟨_,e,rfl⟩ F.entry_list_mul (F.args_list_mul_2 _ _) (AutoListH.list___mul___list_int_3 l its.toArray n k t hfit hcap hlong) ⟨e,?_⟩⟩)
 rw[hnew]
 exact⟨.ref _,_,I.lnew (t':=s.toks) (r.rep k.toNat) (by rw[Ql,Nat.mul_comm];exact hz),rfl,q _ I.fresh⟩
end
section
variable{prog:Program}{w:World}{A:Around}{E:Value->Shared->Prop}{s:Shared}
end
section
variable{X:Cx}
end
end L2
namespace Att
open PySem PySem.W PySem.Calls PyProof.Rows
theorem wP{P:Params}{h:Heap}:∀(ns:List Int)(vs:List Value),WellAll P h vs (ns.map WData.int)->IntsAre vs ns:=by
 intro ns
 induction ns with
 |nil =>
  intro vs w
  rw[List.map_nil]at w
  cases w
  exact .nil
 |cons n ns ih =>
  intro vs w
  rw[uH]at w
  cases w with
  |cons a b =>
   cases a
   exact .cons _ _ (ih _ b)
theorem X8{l:OpenLaw}{n:Nat}(hn:l.most=some n){P:Params}{h:Heap}{args:List WData}{vals:List Value}
  (hpre:l.row.toRowW.claim.pre args=true) (hwl:WellAll P h vals args) :
  ∃a vs ns,vals=[Value.ref a]/\args=[WData.list (ns.map WData.int)]/\h.get? a=some { cls:=.type "list",data:=.seq vs.toArray }/\IntsAre vs ns/\ns.length<=n:=by
 have hsh:WShape.hasAll [] args [.list .int]=true:=(pre_splitW hpre).1
 have hc:l.pre.holds [] { args:=args }=true:=(pre_splitW hpre).2
 obtain⟨d,r,rfl,h1,h2⟩:=hasAllW_cons hsh
 obtain rfl:=hasAllW_nil h2
 obtain⟨xs,rfl,h3⟩:=hasW_list h1
 obtain⟨ns,rfl⟩:=items_int h3
 have hlen:ns.length<=n:=by
  unfold OpenLaw.pre at hc
  have h4:(WTm.not (.lt (.lit (.int (n:Int))) (.len (.arg 0)))).holds [] { args:=[.list (ns.map .int)] }=true:=by
   have h4:=(holds_andW hc).1
   rw[hn]at h4
   exact h4
  have h5:=condW_of h4 (w_not (w_lt w_lit (w_len_list (w_arg rfl))))
  rw[ua]at h5
  refine Nat.le_of_not_lt fun q=>?_
  have q':(n:Int) < ((ns.length:Nat):Int):=by lia
  first
   | (rw[decide_eq_true q']at h5;exact absurd h5 (by decide))
   | (simp at h5;lia)
 cases hwl with
 |cons w1 w2 =>
  cases w2
  cases w1 with
  |list ho hall=>exact⟨_,_,ns,rfl,rfl,ho,wP ns _ hall,hlen⟩
theorem X9(l:OpenLaw)(args:List WData):l.row.toRowW.claim.post args (.bool true) args=true :=
 postW_of (r:=l.row.toRowW) (X:=(true == true))
  (show WShape.has [] (.bool true) .bool=true by first|rfl|decide|simp[WShape.has,WShape.arms,WShape.armsAll])
  (show(WTm.eq .res (.lit (.bool true))).value [] { args:=args,res:=some (.bool true),after:=args }=some (.bool (true == true))from w_eq_bool (w_res rfl) w_lit) rfl
theorem attach_call{l:OpenLaw}{n:Nat}{q:Program}{loose:List Str}{XP:(Str->Option Value)->Heap->Prop}{YP:World->Heap->Prop}{d:DefRec}
  (hn:l.most=some n) (hdf:d.params.defaults=[])
  (call:∀(w:World)(s₀ s₁:Shared)(mg mb:Str->Option Value)(fa:Addr)(o:Obj)(pm cd doc:Value)(a:Addr)(vs:List Value)(ns:List Int),
   Ground q loose [] XP w s₀ mg mb s₁.heap->YP w s₁.heap ->
   s₁.heap.get? fa=some o->o.data=.func (docDef d.name d.params d.body d.scope pm cd doc)->s₁.heap.CodeRec cd d.name->mg d.name=some (.ref fa) ->
   s₁.heap.get? a=some { cls:=.type "list",data:=.seq vs.toArray }->IntsAre vs ns->ns.length<=n->s₁.gens=#[] ->
   codeAny (model l.prog w) callerA (.call (.ref fa) ⟨[.ref a],[]⟩) (fun r s'=>r=.ok (.ret (.bool true))/\OldK s₁.heap s'.heap/\s'.os=s₁.os/\AllBare s'.gens) s₁) :
  WalkO q loose XP YP l.row.toRowW d [] (fun f vs=>PySem.call f vs):=by
 intro w s₀ s₁ mg mb G Y fa o pm cd doc dV kV ho hd hcd hD hmg hg args vals as hpre hlay hrd hwl hlo
 obtain rfl:dV=.none:=Dflts.none hD hdf
 obtain rfl:kV=.none:=Dflts.noKw hD
 obtain⟨a,vs,ns,rfl,rfl,hobj,hints,hlen⟩:=X8 hn hpre hwl
 refine enter_call (codeAny_mono (call w s₀ s₁ mg mb fa o pm cd doc a vs ns G Y ho (fd_plain hd) hcd hmg hobj hints hlen hg) fun r s' hq=>?_)
 obtain⟨rfl,h2,h3,h4⟩:=hq
 exact⟨.inl ⟨.bool true,.bool true,[],rfl,fun _=>rfl,.bool true,X9 l _,fun _=>⟨List.Pairwise.nil,fun _ hm=>(nomatch hm)⟩⟩,h2,h3,h4⟩
section
variable{prog:Program}{w:World}{A:Around}{E:Value->Shared->Prop}{s:Shared}{K:Frag}
def zc4(h:Heap)(L d:Addr):List (Addr×Obj):=(uE h.objs.size).filterMap fun a=>if a=L\/a=d then none else(h.get? a).map fun o=>(a,o)
end
end Att
namespace L2
open PySem PySem.Spec PyProof.Rows
theorem jd:∀{vs:List Value}{ns:List Int},IntsAre vs ns->Vals (ns.map V.int) vs
 |_,_,.nil=>.nil
 |_,_,.cons n t h=>.cons ⟨t,rfl⟩ (jd h)
end L2
/- THE LAST THEOREM (shape; LID, My.* are yours):
   My.Adr: a structure of the addresses that your layer names (classes,functions);My.Txt K t: a structure (Prop) of the equations over K;
   My.txt_mk:{K} {implicit addresses ..} (e1:nsIn K mainGlobals "law"=some (some (.ref f))) (e2:K.lookup f=some ⟨oc,od,.func (fnOf "law" "law" params body scope dV kV doc pm an cdv ct),sl⟩) (e3:codeIn K cdv "law"=true) ..:∃t,My.Txt K t
set_option maxRecDepth 100000 in
set_option maxHeartbeats 0 in
theorem PySem.Challenge.cw_LID_holds : PySem.Challenge.rw_LID.Holds := by
 w_on;o_law;k_head;(case hw=>w_witness2)
 k_fill
 refine L2.walk_of (l:=PySem.Challenge.rw_LID) (n:=63) (k:=40) (x:="script") (CX:=fun w=>..) (sp:=fun _=>My.sp_law) rfl (by decide) rfl ⟨rfl,by decide,by decide⟩ (fun w h Y=>PySem.W.kIn_of Y) ?F ?S ?C
 case F =>
  intro w mg fa h KX G hmg
  have T:∃t,My.Txt (L2.KOf KX) t:=by
   dsimp only [L2.KOf]                          -- K must stand as «<heap const> w.params» for k_is
   refine' My.txt_mk ?e1 ?e2 ?e3 ..
   (case e1 => PySem.W.k_is)                    -- in the order: a name -> its address -> its object -> its parts
   (case e2=>PySem.W.k_is)
   ..
  obtain⟨t,T⟩:=T
  have e0:=hmg.symm.trans (tV KX G T.law)
  cases e0                                       -- fa is the law's own address
  exact ⟨_, fun s u => .of_eq rfl, fun base kb nb => My.law_fn T kb nb⟩     -- if «.of_eq rfl» comes too early: refine' ⟨_, ?b, fun base kb nb => My.law_fn T kb nb⟩; exact fun s u => .of_eq rfl
 case S=>exact fun w H a ns hl hO hS=>..
 case C=>exact ..
(the tactic k_is has no namespace: write k_is) -/
namespace L2
open PySem PySem.Spec PyProof.Rows
def wQ(s:Stmt)(j:Nat):Stmt:=match s with
 |.ClassDef _ _ _ body _ _ _ _ _ _ _=>body.getD j (.Pass ⟨0,0,0,0⟩)
 |_=>.Pass ⟨0,0,0,0⟩
def z6(s:Stmt):Arguments:=match s with
 |.FunctionDef _ a _ _ _ _ _ _ _ _=>a
 |_=>{ posonlyargs:=[],args:=[],vararg:=none,kwonlyargs:=[],kw_defaults:=[],kwarg:=none,defaults:=[] }
def zM(s:Stmt):List Stmt:=match s with
 |.FunctionDef _ _ b _ _ _ _ _ _ _=>b
 |_=>[]
def zo(s:Stmt):Scope:=match s with
 |.FunctionDef _ _ _ _ _ _ sc _ _ _=>sc
 |_=>{ kind:=.function,names:=[],isGenerator:=false,isCoroutine:=false }
abbrev CX0:CXT:=fun _ _ _ _ _ _=>False
abbrev E0:XK:=fun _ _ _=>False
theorem xi{X:Cx}:yt CX0 X E0:=fun _ _ _ _ _ _ _ h=>h.elim
structure Fun(K:ub)(x qual:Str)(st:Stmt)(f:Addr)(fd:FuncData):Prop where
 ex:∃(oc:Value)(od:Option Addr)(kV doc pm:Value)(an:Option Addr)(cdv ct:Value)(osl:Array (Option Value)),
  fd=Uf x qual (z6 st) (zM st) (zo st) .none kV doc pm an cdv ct/\K.lookup f=some ⟨oc,od,.func fd,osl⟩/\UK K cdv qual=true
 kp:uY K (.ref f)=true
section
variable{P:Program}{w:World}{K:ub}{mg:Str->Option Value}{base:Heap}
theorem Fun.ok{x qual:Str}{st:Stmt}{f:Addr}{fd:FuncData}{N ps:List Str}{k:Nat}{sp:Sp}(F:Fun K x qual st f fd)(S:FnScope N ps (zo st))(len:∀vs H Q E,sp vs H Q E->vs.length=ps.length)
  (hbody:∀(cdv:Value)(A:Around)(outer:List Env)(s:Shared)(H:Hp)(vs:List V)(Q:VK)(E:XK),Room k (A.deeper (envOfC qual (zo st) s.heap.objs.size f cdv))->sp vs H Q E ->
   ∃t,PSs (cxOf CX0 P w K mg base N qual (zo st) f cdv A outer s H E).nox (zM st) t/\t { nx:=fun _ H'=>Q .non H',rt:=Q } (start N vs) H):FnOk P w K mg base CX0 (k+1) f fd ps sp:=by
 obtain⟨oc,od,kV,doc,pm,an,cdv,ct,osl,rfl,lk,hcd⟩:=F.ex
 refine zaO lk hcd S len fun A outer s H vs Q E hr hsp=>?_
 obtain⟨t,h,q⟩:=hbody cdv A outer s H vs Q E hr hsp
 exact⟨t,h.nox,q⟩
theorem Fun.binds{x qual:Str}{st:Stmt}{f:Addr}{fd:FuncData}{ps:List Str}(F:Fun K x qual st f fd)
  (h:∀(kV doc pm:Value)(an:Option Addr)(cdv ct:Value)(us:List Value),us.length=ps.length->bindArgs (Uf x qual (z6 st) (zM st) (zo st) .none kV doc pm an cdv ct) ⟨us,[]⟩=pure (ps.zip us)):Binds K fd ps []:=by
 obtain⟨oc,od,kV,doc,pm,an,cdv,ct,osl,rfl,lk,hcd⟩:=F.ex
 exact .all (h kV doc pm an cdv ct)
theorem W7{x qual:Str}{st:Stmt}{f:Addr}{oc:Value}{od an:Option Addr}{osl:Array (Option Value)}{kV doc pm cdv ct:Value}(l:K.lookup f=some ⟨oc,od,.func (Uf x qual (z6 st) (zM st) (zo st) .none kV doc pm an cdv ct),osl⟩)
  (c:UK K cdv qual=true) (k:uY K (.ref f)=true):Fun K x qual st f (Uf x qual (z6 st) (zM st) (zo st) .none kV doc pm an cdv ct):=⟨⟨oc,od,kV,doc,pm,an,cdv,ct,osl,rfl,l,c⟩,k⟩
end
theorem Zy{A:Around}{k:Nat}(hr:Room k A):A.units+1 < cLine:=Nat.lt_of_le_of_lt (Nat.add_le_add_left (by decide:1<=64) _) hr.units
section
variable{X:Cx}
theorem pv(i:Nat){x:Str}{pos:Pos}(hN:X.N[i]?=some x:=by rfl)(hv:Vis X.env.scope x:=by first|exact Or.inl rfl|exact Or.inr (Or.inl rfl)|exact Or.inr (Or.inr rfl))(hd:(x == ("__debug__":Str))=false:=by decide)
  (hcd:(x == ("__classdict__":Str))=false:=by decide):PE X (.Name x pos) (tVar i):=zbf hN hv hd hcd
end
theorem iteF{A B:Prop}(h:B):if false=true then A else B:=by
 rw[if_neg ux]
 exact h
theorem iteT{A B:Prop}(h:A):if true=true then A else B:=by
 rw[if_pos rfl]
 exact h
theorem ite2{c A B:Prop}[Decidable c](h1:c->A)(h2:¬ c->B):if c then A else B:=by
 by_cases h:c
 ·rw[if_pos h]
  exact h1 h
 ·rw[if_neg h]
  exact h2 h
def Same(H H':Hp):Prop:=∀b o,H b=some o->H' b=some o
theorem Same.refl(H:Hp):Same H H:=fun _ _ h=>h
theorem Same.trans{H H1 H2:Hp}(a:Same H H1)(b:Same H1 H2):Same H H2:=fun c o h=>b c o (a c o h)
theorem Same.free{H H':Hp}(e:Same H H'){l:Addr}(h:H' l=Option.none):H l=Option.none:=by
 cases q:H l with
 |none=>rfl
 |some o =>
  rw[e l o q]at h
  cases h
theorem Same.seq{K:ub}{H H':Hp}{a:Addr}{xs:List V}(e:Same H H')(h:SqL K H a xs):SqL K H' a xs:=by
 rcases h with(h|⟨o,h⟩)|h
 ·exact .inl (.inl (e _ _ h))
 ·exact .inl (.inr ⟨o,e _ _ h⟩)
 ·exact .inr h
def AllIn(env:Env):List (Str×Addr)->Prop
 |[]=>True
 |p::r=>env.cells.lookup p.1=some p.2/\AllIn env r
theorem AllIn.get{env:Env}:∀{cl:List (Str×Addr)}{y:Str}{c:Addr},AllIn env cl->cl.lookup y=some c->env.cells.lookup y=some c
 |[],_,_,_,h=>by simp at h
 | (n,a)::r,y,c,⟨e,t⟩,h=>by
  rw[UH]at h
  by_cases q:y=n
  ·subst q
   rw[beq_self_eq_true]at h
   cases h
   exact e
  ·have q':(y == n)=false:=beq_eq_false_iff_ne.mpr q
   rw[q']at h
   exact AllIn.get t h
def xP:List Nat->St->St
 |[],σ=>σ
 |i::S,σ=>xP S (σ.set i none)
theorem xt:∀(S:List Nat)(σ:St),(xP S σ).length=σ.length
 |[],_=>rfl
 |i::S,σ=>by rw[xP,xt S,List.length_set]
theorem je:∀(S:List Nat)(σ:St){j:Nat}{v:V},(xP S σ)[j]?=some (some v)->σ[j]?=some (some v)/\j∉S
 |[],_,_,_,h=>⟨h,by simp⟩
 |i::S,σ,j,v,h=>by
  obtain⟨h1,h2⟩:=je S (σ.set i none) h
  rw[List.getElem?_set]at h1
  by_cases e:i=j
  ·rw[if_pos e]at h1
   split at h1<;>cases h1
  ·rw[if_neg e]at h1
   exact⟨h1,fun z=>(um.mp z).elim (fun z=>e z.symm) h2⟩
structure LcOk(X:Cx)(scope:Scope)(cl:List (Str×Addr))(S:List Nat):Prop where
 clos:closureFor scope X.env=pure cl
 kind:scope.kind=.function
 noC:scope.names.all (fun y=>y.2 != .cell)=true
 loc:scope.names.all (fun y=>y.2 != .local || scope.names.lookup y.1 == some .local)=true
 own:X.N.zipIdx.all (fun y=>S.contains y.2 || scope.names.lookup y.1 != some .local)=true
 sub:AllIn X.env cl
 has:scope.names.all (fun p=>p.2 != .free || ((cl.lookup p.1).isSome && (X.env.kindOf p.1 == some .cell || X.env.kindOf p.1 == some .free)))=true
section
variable{X:Cx}{scope:Scope}{cl:List (Str×Addr)}{S:List Nat}
theorem LcOk.nocell(L:LcOk X scope cl S):∀y∈scope.names,y.2≠.cell:=fun y hy=>by
 have h:=Uq.mp L.noC y hy
 exact bne_iff_ne.mp h
theorem LcOk.locs(L:LcOk X scope cl S):∀y∈scope.names,y.2=.local->scope.names.lookup y.1=some .local:=fun y hy e=>by
 have h:=Uq.mp L.loc y hy
 rw[e]at h
 simpa using h
theorem LcOk.apart(L:LcOk X scope cl S):∀(i:Nat)(y:Str),X.N[i]?=some y->i∉S->scope.names.lookup y≠some .local:=fun i y hy hi=>by
 have h:=Uq.mp L.own (y,i) (UU.mpr hy)
 have hc:S.contains i=false:=by simpa using hi
 rw[hc,tW]at h
 exact bne_iff_ne.mp h
theorem LcOk.free(L:LcOk X scope cl S){y:Str}(h:scope.names.lookup y=some .free):(∃c,cl.lookup y=some c)/\(X.env.kindOf y=some .cell\/X.env.kindOf y=some .free):=by
 have h1:=Uq.mp L.has _ (uZ h)
 simp only[bne_self_eq_false,tW,u9,Uw,beq_iff_eq]at h1
 exact⟨tU.mp h1.1,h1.2⟩
theorem yI(names:List (Str×NameKind))(env:Env)(y:Str):
  (names.map fun(n,k)=>if(k == NameKind.free && env.scope.kind == .function && env.kindOf n == some .cell)then(n,NameKind.cell)else(n,k)).lookup y =
   (names.lookup y).map fun k=>if(k == NameKind.free && env.scope.kind == .function && env.kindOf y == some .cell)then NameKind.cell else k:=by
 induction names with
 |nil=>rfl
 |cons p r ih =>
  obtain⟨n,k⟩:=p
  rw[uH]
  by_cases q:y=n
  ·subst q
   by_cases hc:(k == NameKind.free && env.scope.kind == .function && env.kindOf y == some .cell)=true
   ·show UY y ((if(k == NameKind.free && env.scope.kind == .function && env.kindOf y == some .cell)=true then(y,NameKind.cell)else(y,k))::_)=_
    rw[if_pos hc,UH,UH,beq_self_eq_true]
    show some NameKind.cell=some (if _ then _ else _)
    rw[if_pos hc]
   ·show UY y ((if(k == NameKind.free && env.scope.kind == .function && env.kindOf y == some .cell)=true then(y,NameKind.cell)else(y,k))::_)=_
    rw[if_neg hc,UH,UH,beq_self_eq_true]
    show some k=some (if _ then _ else _)
    rw[if_neg hc]
  ·have q':(y == n)=false:=beq_eq_false_iff_ne.mpr q
   by_cases hc:(k == NameKind.free && env.scope.kind == .function && env.kindOf n == some .cell)=true
   ·show UY y ((if(k == NameKind.free && env.scope.kind == .function && env.kindOf n == some .cell)=true then(n,NameKind.cell)else(n,k))::_)=_
    rw[if_pos hc,UH,UH,q']
    exact ih
   ·show UY y ((if(k == NameKind.free && env.scope.kind == .function && env.kindOf n == some .cell)=true then(n,NameKind.cell)else(n,k))::_)=_
    rw[if_neg hc,UH,UH,q']
    exact ih
theorem LcOk.kinds(L:LcOk X scope cl S){y:Str}(h:(relabel scope X.env).names.lookup y=some .cell\/(relabel scope X.env).names.lookup y=some .free):scope.names.lookup y=some .free:=by
 have e:(relabel scope X.env).names.lookup y=(scope.names.lookup y).map fun k=>if(k == NameKind.free && X.env.scope.kind == .function && X.env.kindOf y == some .cell)then NameKind.cell else k:=yI scope.names X.env y
 rw[e]at h
 cases q:scope.names.lookup y with
 |none=>rw[q]at h;rcases h with h|h<;>cases h
 |some k =>
  have hk:k≠.cell:=L.nocell _ (uZ q)
  rw[q]at h
  by_cases hf:k=.free
  ·rw[hf]
  ·have z:(k == NameKind.free)=false:=beq_eq_false_iff_ne.mpr hf
   rw[U7,z,Uu,Uu,if_neg ux]at h
   rcases h with h|h
   ·exact absurd (uP.inj h) hk
   ·exact absurd (uP.inj h) hf
def cxLC(X:Cx)(scope:Scope)(cl:List (Str×Addr))(M:List Str)(C:Addr)(s₀:Shared)(H₀:Hp)(ex:List Addr)(E:Value->Shared->Prop):Cx where
 prog:=X.prog
 w:=X.w
 K:=X.K
 mg:=X.mg
 base:=X.base
 A:=X.A
 N:=X.N++M
 s₀:=s₀
 H₀:=H₀
 env:=compEnvC scope cl C X.env
 outer:=X.stack
 stack:=X.stack
 ex:=ex
 fn:=fun _=>false
 calm:=X.calm
 pn:=[]
 xe:=E
variable{pins:List (Addr×Obj)}{σ:St}{H:Hp}{s:Shared}{ex:List Addr}{M:List Str}{C:Addr}
theorem W8{E:Value->Shared->Prop}{h1:Heap}{tk:Nat}{m:Str->Option Value}(I:Inv X pins σ H s)(L:LcOk X scope cl S)(hf:∀b∈ex,FpOk X pins H b)(hlt:∀b∈ex,b < s.heap.objs.size)
  (hk:∀b o,s.heap.get? b=some o->h1.get? b=some o) (hC:s.heap.objs.size<=C) (hns:h1.Ns C m) :
  Inv (cxLC X scope cl M C s H ex E) [] (xP S σ++uT M.length none) H { s with heap:=h1,toks:=tk }:=by
 refine⟨⟨I.ok.mod,L.kind,I.ok.glob,I.ok.blt,hC,fun x y c a b=>I.ok.inj x y c (L.sub.get a) (L.sub.get b),fun y hy=>(L.free (L.kinds hy)).1,(fun x c z=>nomatch z),I.ok.hd,I.ok.frames,.inl rfl,fun b hb=>⟨?_,fun x c e=>?_⟩,
   I.bs,Ua I.ok.bsz I.sz,fun b o e hb=>?_,fun b hb z=>?_,I.stack,I.stkFree⟩,
  rfl,I.bare,Un.kept hk,⟨m,hns,fun i y v e1 e2 e3=>?_⟩,fun y c e=>?_,I.hok.fresh hC,fun y c e=>I.freeC y c (L.sub.get e),fun p hp=>absurd (show p∈([]:List (Addr×Obj))from hp) (by simp),I.hok.kept hk,?_⟩
 ·exact uS (uI (hlt b hb) hC)
 ·exact(hf b hb).2.2.2.2.1 x c (L.sub.get e)
 ·rcases(hf b hb).2.2.2.1 with z|z
  ·exact I.ok.noex b o e z
  ·exact absurd (uI (uw e) (Ua I.ok.bsz z)) (UE _)
 ·rcases um.mp (I.stkSub b z)with q|q
  ·exact(hf b hb).2.1 q
  ·exact(hf b hb).2.2.1 q
 ·have e1':(X.N++M)[i]?=some y:=e1
  by_cases hi:i < σ.length
  ·rw[Uc (by rw[xt];exact hi)]at e2
   obtain⟨e2,hiS⟩:=je S σ e2
   rw[Uc (by rw[<- I.len];exact hi)]at e1'
   obtain⟨m0,hn0,hl⟩:=I.loc
   have hy:scope.names.lookup y=some .free:=by
    rcases e3 with e3|e3
    ·have q:=yI scope.names X.env y
     have e3':(relabel scope X.env).names.lookup y=some .local:=e3
     cases z:scope.names.lookup y with
     |none =>
      rw[z]at q
      have q':(relabel scope X.env).names.lookup y=none:=q
      rw[e3']at q';cases q'
     |some k =>
      have hk1:k≠.local:=fun w=>L.apart i y e1' hiS (w ▸ z)
      rw[z,U7]at q
      have q':some NameKind.local=some (if(k == NameKind.free && X.env.scope.kind == .function && X.env.kindOf y == some .cell)=true then NameKind.cell else k):=e3'.symm.trans q
      have q2:=uP.inj q'
      by_cases hc:(k == NameKind.free && X.env.scope.kind == .function && X.env.kindOf y == some .cell)=true
      ·rw[if_pos hc]at q2;cases q2
      ·rw[if_neg hc]at q2;exact absurd q2.symm hk1
    ·exact L.kinds e3
   obtain⟨⟨c,hc⟩,hk2⟩:=L.free hy
   obtain⟨u,r,l⟩:=hl i y v e1' e2 (.inr hk2)
   refine⟨u,r,.inr ⟨?_,c,hc,?_⟩⟩
   ·have q:=yI scope.names X.env y
    rw[hy,U7]at q
    have q':(relabel scope X.env).names.lookup y=some (if(NameKind.free == NameKind.free && X.env.scope.kind == .function && X.env.kindOf y == some .cell)=true then NameKind.cell else NameKind.free):=q
    by_cases hc:(NameKind.free == NameKind.free && X.env.scope.kind == .function && X.env.kindOf y == some .cell)=true
    ·rw[if_pos hc]at q';exact .inl q'
    ·rw[if_neg hc]at q';exact .inr q'
   ·rcases l with⟨l1,_⟩|⟨_,c',e',z⟩
    ·rcases hk2 with w|w<;>(rw[l1]at w;cases w)
    ·have ec:c'=c:=by
      have w:=L.sub.get hc
      rw[e']at w
      exact uP.inj w
     subst ec
     obtain⟨o,ho,hd⟩:=z
     exact⟨o,hk _ _ ho,hd⟩
  ·rw[Ul (by rw[xt];exact Nat.not_lt.mp hi),List.getElem?_replicate]at e2
   split at e2<;>cases e2
 ·obtain⟨v,o,ho,hd⟩:=I.cell y c (L.sub.get e)
  exact⟨v,o,hk _ _ ho,hd⟩
 ·show(xP S σ++uT M.length none).length=(X.N++M).length
  rw[uf,uf,UB,xt,I.len]
def PTs(X:Cx)(ifs:List Expr)(t:TT):Prop :=
 ∀(pins:List (Addr×Obj))(s:Shared)(σ:St)(H:Hp)(Q:Bool->Hp->Prop),Inv X pins σ H s->t σ H Q ->
  wpAny (model X.prog X.w) X.A (forIn ifs true fun c r=>if r=true then do let ok <- isTrue c X.env (eval c X.env);pure (ForInStep.yield ok)else pure (ForInStep.yield r)) (TP X pins σ Q) X.xe s
def tYes:TT:=fun _ H Q=>Q true H
theorem Qm{X:Cx}:PTs X [] tYes:=fun _ _ _ H _ I h=>wpAny_tests_nil ⟨H,I,h⟩
theorem Qn{X:Cx}{c:Expr}{t:TT}(h:PT X c t):PTs X [c] t:=fun pins s σ H Q I q=>wpAny_tests_one (h pins s σ H Q I q)
def lcBy(J:It)(g:TG)(tt:TT)(te:TE)(Q:VK)(W:Nat->Nat->St->List V->Hp->Prop):Prop:=∀i m τ ys H,W i m τ ys H ->
 (J.stop i H/\∀p,H p=none->Q (.ref p) (upd H p (.lst ys))) \/
 (J.go i H/\∃N:St->List V->Hp->Prop,(∀τ' ys' H',N τ' ys' H'->∃m',m' < m/\W (i+1) m' τ' ys' H')/\∀x H',J.yld i H x H'->g x τ H' fun τ2 H2=>tt τ2 H2 fun b H3 =>
  if b=true then te τ2 H3 fun y H4=>ys.length < sizeLine/\N τ2 (ys++[y]) H4 else N τ2 ys H3)
def tLC(wi:TI)(g:TG)(tt:TT)(te:TE)(n:Nat):TE:=fun σ H Q=>wi σ H fun J H1=>∃W,(∃m,W 0 m (σ++uT n none) [] H1)/\lcBy J g tt te Q W
def tLCS(S:List Nat)(wi:TI)(g:TG)(tt:TT)(te:TE)(n:Nat):TE:=fun σ H Q=>wi σ H fun J H1=>∃W,(∃m,W 0 m (xP S σ++uT n none) [] H1)/\lcBy J g tt te Q W
theorem Xc{tg elt iter:Expr}{ifs:List Expr}{pos:Pos}{g:TG}{tt:TT}{te:TE}{J:It}{fp:List Addr}{it:Addr}{tn:Nat->Heap->Prop}{Q:VK}{E:Value->Shared->Prop}{R:Value->Addr->Result->Shared->Prop}{Al:Addr->(Value->Shared->Prop)->Prop}
  {W:Nat->Nat->St->List V->Hp->Prop} {m0:Nat} (L:LcOk X scope cl S) (hc:X.calm=true) (I:Inv X pins σ H s) (T:Turn X.prog X.w X.K tg J fp it tn) (st:tn 0 s.heap) (hf:∀b∈fp,FpOk X pins H b)
  (hg:∀C s H ex E,PG (cxLC X scope cl M C s H ex E) tg g) (ht:∀C s H ex E,PTs (cxLC X scope cl M C s H ex E) ifs tt) (he:∀C E,Al C E->PE (cxLC X scope cl M C s H fp E) elt te)
  (hal:∀C,s.heap.objs.size < C->Al C (notedBy (model X.prog X.w) X.A (compEnvC scope cl C X.env) (fun e s'=>R (.ref s.heap.objs.size) C (.error e) s')))
  (w0:W 0 m0 (xP S σ++uT M.length none) [] H) (turn:lcBy J g tt te Q W)
  (hR:∀D C s' H' ys m,Inv X pins σ (upd H' D (.lst ys)) s'->FpOk X pins (upd H' D (.lst ys)) C->s'.heap.Ns C m->Q (.ref D) (upd H' D (.lst ys))->R (.ref D) C (.ok .next) s') :
  wpAny (model X.prog X.w) X.A (newList []) (fun acc s₃=>wpAny (model X.prog X.w) X.A (newFunctionEnv scope X.env.globals cl [] X.env.qual none .none (some X.env)) (fun cenv s₄ =>
   codeAny (model X.prog X.w) X.A (.compStart (.ListComp elt [⟨tg,iter,ifs,0⟩] scope pos) 0 (.ref it) acc { cenv with scope:=relabel scope X.env }) (R acc cenv.locals) s₄) E s₃) E s:=by
 refine wpAny_newObj_type (wpAny_newFunctionEnv L.nocell (by intro y hy;simp at hy) (fun h₁ hns₁ hsb₁=>?_) L.kind)
 dsimp only at hns₁ hsb₁ ⊢
 generalize hG:s.heap.push { cls:=.type "list",dict:=none,data:=.seq ([]:List Value).toArray }=G at hns₁ hsb₁ ⊢
 have hC:G.objs.size=s.heap.objs.size+1:=by rw[<- hG,Up]
 have hDC:s.heap.objs.size≠G.objs.size:=by rw[hC];exact uS (tP _)
 have hCle:s.heap.objs.size<=G.objs.size:=by rw[hC];exact U8 _
 have old:∀b o,s.heap.get? b=some o->h₁.get? b=some o:=fun b o e =>
  hsb₁.extBut b o (by rw[hC];exact uS (Nat.lt_succ_of_lt (uw e))) (ug _ (hG ▸ ug _ e))
 have hacc:h₁.get? s.heap.objs.size=some { cls:=.type "list",data:=.seq ([]:List Value).toArray }:=hsb₁.extBut _ _ hDC (ug _ (hG ▸ uy _ rfl))
 have fpo:∀b∈fp,b < s.heap.objs.size:=fun b hb=>let ⟨o,e,_⟩:=T.obj 0 _ st b hb;uw e
 have st1:tn 0 h₁:=T.keep 0 _ _ st fun b _ o e=>old b o e
 have nofs:s.heap.objs.size∉frs X.stack:=fun z=>by
  rcases um.mp (I.stkSub _ z)with q|q
  ·exact absurd (q ▸ I.lt) (UE _)
  ·exact I.nofs (ud _) q
 have nocl:∀y c,cl.lookup y=some c->c≠s.heap.objs.size:=fun y c e z=>by
  obtain⟨v,o,ho,_⟩:=I.cell y c (L.sub.get e)
  exact absurd (z ▸ uw ho) (UE _)
 have loop:∀s₃:Shared,s₃={ s with heap:=h₁,toks:=s.toks+([]:List (Str×Value)).length } ->
   codeAny (model X.prog X.w) X.A (.compLoop (.ListComp elt [⟨tg,iter,ifs,0⟩] scope pos) 0 (.ref it) (.ref s.heap.objs.size) (compEnvC scope cl G.objs.size X.env)) (R (.ref s.heap.objs.size) G.objs.size) s₃:=by
  rintro s₃ rfl
  have hAl:=hal G.objs.size (by rw[hC];exact tP _)
  generalize hE:notedBy (model X.prog X.w) X.A (compEnvC scope cl G.objs.size X.env) (fun e s'=>R (.ref s.heap.objs.size) G.objs.size (.error e) s')=E' at hAl ⊢
  have IY:Inv (cxLC X scope cl M G.objs.size s H fp E') [] (xP S σ++uT M.length none) H { s with heap:=h₁,toks:=s.toks+([]:List (Str×Value)).length }:=W8 I L hf fpo old hCle hns₁
  refine codeAny_loop rfl (fun n s'=>∃(i:Nat)(τ:St)(H':Hp)(ys:List V)(its:List Value)(k:Nat),Inv (cxLC X scope cl M G.objs.size s H fp E') [] τ H' s'/\tn i s'.heap/\(∀b∈fp,H' b=none) /\
   s'.heap.get? s.heap.objs.size=some { cls:=.type "list",data:=.seq its.toArray k }/\H' s.heap.objs.size=none/\Vals ys its/\ys.length<=sizeLine/\W i n τ ys H') (fun n s' hI=>?_) m0
   ⟨0,_,H,[],[],_,IY,st1,fun b hb=>(hf b hb).1,hacc,I.hok.fresh (ud _),.nil,uX _,w0⟩
  obtain⟨i,τ,H1,ys,its,k,I1,st1,fr1,eD,fD,rv,hz,w1⟩:=hI
  show wpAny _ X.A ((compTurn (.ListComp elt [⟨tg,iter,ifs,0⟩] scope pos) 0 (.ref it) (.ref s.heap.objs.size) (compEnvC scope cl G.objs.size X.env)).onRaise (fun x=>do noteFrame x (compEnvC scope cl G.objs.size X.env);theTreesLotGoes x)) _ _ s'
  refine wpAny_noted ?_
  rw[hE,compTurn_list]
  have I1':Inv (cxLC X scope cl M G.objs.size s H fp E') [(s.heap.objs.size,{ cls:=.type "list",data:=.seq its.toArray k })] τ H1 s':=I1.pins_of fun p hp=>by
   have e:p=(s.heap.objs.size,{ cls:=.type "list",data:=.seq its.toArray k }):=by simpa using hp
   subst e
   exact⟨eD,fD,hDC,nofs,(fun v z=>nomatch z)⟩
  have stat:∀{H':Hp},(∀b∈fp,H' b=none)->∀b∈fp,FpOk (cxLC X scope cl M G.objs.size s H fp E') [(s.heap.objs.size,{ cls:=.type "list",data:=.seq its.toArray k })] H' b:=fun hn b hb=>by
   refine⟨hn b hb,?_,?_,.inl hb,fun x c e=>(hf b hb).2.2.2.2.1 x c (L.sub.get e),fun p hp z=>?_⟩
   ·exact uS (uI (fpo b hb) hCle)
   ·intro z
    rcases um.mp (I.stkSub b z)with q|q
    ·exact(hf b hb).2.1 q
    ·exact(hf b hb).2.2.1 q
   ·have e:p=(s.heap.objs.size,{ cls:=.type "list",data:=.seq its.toArray k }):=by
     have hp':p∈[(s.heap.objs.size,({ cls:=.type "list",data:=.seq its.toArray k }:Obj))]:=hp
     simpa using hp'
    subst e
    exact absurd (z ▸ fpo b hb) (UE _)
  refine wpAny_bind (wpAny_standAt (wpAny_bind ?_))
  rcases turn i n τ ys H1 w1 with⟨stop,q⟩|⟨go,N,hN,step⟩
  ·refine thn (T.done (cxLC X scope cl M G.objs.size s H fp E') rfl rfl rfl hc i _ s' τ H1 E' I1' (stat fr1) st1 stop) fun r s4 ⟨hr,I4⟩=>?_
   subst hr
   refine wpAny_pure ?_
   obtain⟨eD4,_,_⟩:=I4.pin (s.heap.objs.size,{ cls:=.type "list",data:=.seq its.toArray k }) (ur _ uJ)
   have base4:Un (frs X.stack) fp H H1 s.heap s4.heap:=I4.base
   have un:Un (frs X.stack) fp H (upd H1 s.heap.objs.size (.lst ys)) s.heap s4.heap:=⟨base4.keep,base4.slot,fun b o e n hx=>by rw[zi (uS (uw e))];exact base4.free b o e n hx,base4.there,
    fun b xs e=>by rw[zi (zk (base4.tups b xs e) fD)];exact base4.tups b xs e,fun b o u e=>by rw[zi (zk (base4.frzs b o u e) fD)];exact base4.frzs b o u e,
    fun b ps e=>by
     obtain⟨more,w⟩:=base4.tbls b ps e
     exact⟨more,by rw[zi (zk w fD)];exact w⟩⟩
   have hok:HOk X.prog X.w (upd H1 s.heap.objs.size (.lst ys)) s4.heap:=fun b u e=>by
    by_cases hb:b=s.heap.objs.size
    ·subst hb
     rw[upd_same]at e
     cases e
     exact⟨hz,its,k,rv,eD4⟩
    ·rw[zi hb]at e
     exact(I4.hok b u e).stay (fun c v _ q=>q) (fun c q=>by rw[zi (zk q fD)];exact q) fun c xs q=>by rw[zi (zk q fD)];exact q
   have IX:Inv X pins σ (upd H1 s.heap.objs.size (.lst ys)) s4:=I.call' I4.os un hok I4.bare fun b hb=>⟨(hf b hb).2.2.2.1,(hf b hb).2.1,(hf b hb).2.2.2.2.1,(hf b hb).2.2.2.2.2⟩
   have fC:H1 G.objs.size=none:=I4.free
   obtain⟨m4,n4,_⟩:=I4.loc
   exact hR _ _ s4 H1 ys m4 IX (I.fpOk hCle (by rw[zi (Ne.symm hDC)];exact fC)) n4 (q _ fD)
  ·refine thn (T.item (cxLC X scope cl M G.objs.size s H fp E') rfl rfl rfl hc i _ s' τ H1 E' I1' (stat fr1) st1 go) fun r s4 ⟨u,hr,h4⟩=>?_
   subst hr
   refine wpAny_bind (thn h4 fun _ s5 ⟨x,H5,I5,r5,y5,st5,fr5⟩=>?_)
   have I5':=I5.pinned (stat fr5) (T.obj _ _ st5)
   have kept:∀{τ6:St}{H6:Hp}{s6:Shared},Inv (cxLC X scope cl M G.objs.size s H fp E') ([(s.heap.objs.size,{ cls:=.type "list",data:=.seq its.toArray k })]++w6 fp s5.heap) τ6 H6 s6 ->
     Inv (cxLC X scope cl M G.objs.size s H fp E') [] τ6 H6 s6/\tn (i+1) s6.heap/\(∀b∈fp,H6 b=none)/\s6.heap.get? s.heap.objs.size=some { cls:=.type "list",data:=.seq its.toArray k }/\H6 s.heap.objs.size=none:=fun{τ6 H6 s6} I6=>by
    have pin:∀b∈fp,∀o,s5.heap.get? b=some o->s6.heap.get? b=some o/\H6 b=none:=fun b hb o e =>
     let w:=I6.pin (b,o) (ur _ (ur _ (xB hb e)))
     ⟨w.1,w.2.1⟩
    have pD:=I6.pin (s.heap.objs.size,{ cls:=.type "list",data:=.seq its.toArray k }) (ur _ (uK _ uJ))
    refine⟨I6.pins_of (fun p hp=>nomatch hp),T.keep _ _ _ st5 fun b hb o e=>(pin b hb o e).1,fun b hb=>?_,pD.1,pD.2.1⟩
    obtain⟨o,e,_⟩:=T.obj _ _ st5 b hb
    exact(pin b hb o e).2
   refine wpAny_bind (thn (hg _ _ _ _ _ _ s5 τ H5 x u _ I5' r5 (step x H5 y5)) fun _ s6 ⟨σ6,H6,I6,q6⟩=>?_)
   refine wpAny_bind (thn (ht _ _ _ _ _ _ s6 σ6 H6 _ I6 q6) fun ok s7 ⟨H7,I7,q7⟩=>?_)
   cases ok with
   |false =>
    have q7':N σ6 ys H7:=by simpa using q7
    obtain⟨m',hm,w7⟩:=hN _ _ _ q7'
    obtain⟨K1,K2,K3,K4,K5⟩:=kept I7
    exact wpAny_pure ⟨rfl,m',hm,i+1,σ6,H7,ys,its,k,K1,K2,K3,K4,K5,rv,hz,w7⟩
   |true =>
    have q7':te σ6 H7 fun y H4=>ys.length < sizeLine/\N σ6 (ys++[y]) H4:=by simpa using q7
    refine wpAny_bind (wpAny_bind (thn (he _ _ hAl _ s7 σ6 H7 _ I7 q7') fun y s8 ⟨v8,H8,I8,r8,hz8,n8⟩=>?_))
    obtain⟨m',hm,w8⟩:=hN _ _ _ n8
    obtain⟨K1,K2,K3,K4,K5⟩:=kept I8
    have hl:=rv.length
    refine wpAny_bind (wpAny_list_append_plain (hsz:=by rw[ut];lia) ⟨k,K4⟩ fun h9 hl9 hs9=>wpAny_pure (wpAny_pure ⟨rfl,m',hm,?_⟩))
    obtain⟨k9,e9⟩:=hl9
    have I9:Inv (cxLC X scope cl M G.objs.size s H fp E') [] σ6 H8 { s8 with heap:=h9 }:=K1.turned (t':=s8.toks) (it:=s.heap.objs.size) (fun b o hb e=>(hs9.2 b hb).trans e) K5 hDC (.inr (ud _))
     (fun y c e=>nocl y c e) fun p hp=>nomatch hp
    refine⟨i+1,σ6,H8,ys++[v8],its++[y],k9,I9,T.keep _ _ _ K2 fun b hb o e=>(hs9.2 b (uS (fpo b hb))).trans e,K3,?_,K5,rv.append (.cons r8 .nil),?_,w8⟩
    ·rw[e9]
     simp
    ·rw[uf,uU]
     lia
 exact codeAny_compStart_list (loop _ rfl) (T.self X.A 0 _ _ _ st1 (loop _ rfl))
variable{tg elt iter:Expr}{ifs:List Expr}{pos:Pos}{wi:TI}{g:TG}{tt:TT}{te:TE}
theorem zaS(L:LcOk X scope cl S)(hc:X.calm=true)(hi:PI X tg iter wi)(hg:∀C s H ex E,PG (cxLC X scope cl M C s H ex E) tg g)(ht:∀C s H ex E,PTs (cxLC X scope cl M C s H ex E) ifs tt)(he:∀C s H ex E,PE (cxLC X scope cl M C s H ex E) elt te)
  (hs:∀x,foldedSetIterable iter X.env x=pure x:=by intro _;rfl):PE X (.ListComp elt [⟨tg,iter,ifs,0⟩] scope pos) (tLCS S wi g tt te M.length):=by
 intro pins s σ H Q I h
 rw[eval_ListComp]
 refine wpAny_comprehension_free (use:=none) rfl hs L.clos L.kind L.locs (thn (hi pins s σ H _ I h) fun v s1 h1=>thn h1 fun itv s2 h2=>?_)
 obtain⟨it,fp,tn,J,H2,rfl,I2,T,st2,f2,W,⟨m0,w0⟩,turn⟩:=h2
 refine Xc (R:=fun acc C=>compPost (model X.prog X.w) X.A X.xe none (EP X pins σ Q) acc C) (Al:=fun _ _=>True) L hc I2 T st2 f2 hg ht (fun C E _=>he C _ _ _ E) (fun _ _=>trivial) w0 turn ?_
 intro D C s' H' ys m IX fC ns q
 exact⟨m,ns,fun h' sb=>⟨.ref D,_,IX.turned (t':=s'.toks) (fun b o hb e=>(sb.2 b hb).trans e) fC.1 fC.2.1 fC.2.2.2.1 fC.2.2.2.2.1 fC.2.2.2.2.2,rfl,q⟩⟩
theorem jf{i:Nat}{y:Str}{py spos:Pos}(hN:X.N.Nodup)(hi':X.N[i]?=some y)(hy:Loc X.env.scope y)(L:LcOk X scope cl S)(hc:X.calm=true)(hi:PI X tg iter wi)(hg:∀C s H ex E,PG (cxLC X scope cl M C s H ex E) tg g)
  (ht:∀C s H ex E,PTs (cxLC X scope cl M C s H ex E) ifs tt) (he:∀C s H ex E,PE (cxLC X scope cl M C s H ex E) elt te) (hs:∀x,foldedSetIterable iter X.env x=pure x:=by intro _;rfl)
  (hsw:swapsWith (.ListComp elt [⟨tg,iter,ifs,0⟩] scope pos) (some (.Name y py)) spos.line X.env=pure true:=by rfl)
  (hf:X.fn y=true\/X.env.scope.names.lookup y=some .local:=by first|exact .inl rfl|exact .inr rfl|assumption) :
  PS X (.Assign [.Name y py] (.ListComp elt [⟨tg,iter,ifs,0⟩] scope pos) spos) (fun D σ H=>tLCS S wi g tt te M.length σ H fun v H1=>D.nx (σ.set i (some v)) H1):=by
 intro pins s σ H D I h
 rw[exec_Assign_Name_used _ _ _ _ hsw]
 refine wpAny_bind (wpAny_standAt (wpAny_bind ?_))
 show wpAny _ X.A (do let _ <- comprehension (.ListComp elt [⟨tg,iter,ifs,0⟩] scope pos) scope X.env _ (newList []) false (eval iter X.env) (some (assign (.Name y py) X.env))) _ _ s
 refine wpAny_bind (wpAny_mono (wpAny_comprehension_free (use:=some (assign (.Name y py) X.env)) (Q:=fun _ s'=>SP X pins D .next s') rfl hs L.clos L.kind L.locs
  (thn (hi pins s σ H _ I h) fun v s1 h1=>thn h1 fun itv s2 h2=>?_)) (fun _ s' hq=>wpAny_pure (wpAny_pure hq)) fun _ _ e=>e)
 obtain⟨it,fp,tn,J,H2,rfl,I2,T,st2,f2,W,⟨m0,w0⟩,turn⟩:=h2
 refine Xc (R:=fun acc C=>compPost (model X.prog X.w) X.A X.xe (some (assign (.Name y py) X.env)) (fun _ s'=>SP X pins D .next s') acc C) (Al:=fun _ _=>True) L hc I2 T st2 f2 hg ht (fun C E _=>he C _ _ _ E) (fun _ _=>trivial) w0 turn ?_
 intro D' C s' H' ys m IX fC ns q
 show wpAny _ X.A (assign (.Name y py) X.env (.ref D')) _ _ s'
 refine wpAny_assign_Name (vY IX hN hi' hy (v:=.ref D') rfl (fun s'' I'' ⟨a,sb,ha⟩=>?_) hf)
 refine⟨m,ns.sameBut sb ?_,fun h' sb'=>⟨_,_,I''.turned (t':=s''.toks) (fun b o hb e=>(sb'.2 b hb).trans e) fC.1 fC.2.1 fC.2.2.2.1 fC.2.2.2.2.1 fC.2.2.2.2.2,q⟩⟩
 rcases ha with ha|ha
 ·rw[ha];exact fC.2.1
 ·exact Ne.symm (fC.2.2.2.2.1 y a ha)
end
def clOf(scope:Scope)(env:Env):List (Str×Addr):=scope.names.foldl (fun cs p=>if p.2 == .free then(match env.cells.lookup p.1 with|some a=>(p.1,a)::cs|none=>cs)else cs) []
theorem Xd(env:Env):∀(names:List (Str×NameKind))(acc:List (Str×Addr)),AllIn env acc->AllIn env (names.foldl (fun cs p=>if p.2 == .free then(match env.cells.lookup p.1 with|some a=>(p.1,a)::cs|none=>cs)else cs) acc)
 |[],_,h=>h
 | (n,k)::r,acc,h=>by
  rw[Uh]
  refine Xd env r _ ?_
  by_cases hk:(k == NameKind.free)=true
  ·rw[if_pos hk]
   cases e:env.cells.lookup n with
   |none=>exact h
   |some a=>exact⟨e,h⟩
  ·rw[if_neg hk]
   exact h
section
variable{X:Cx}{scope:Scope}{M:List Str}{tg elt iter:Expr}{ifs:List Expr}{pos:Pos}{wi:TI}{g:TG}{tt:TT}{te:TE}
theorem W9{S:List Nat}(h1:closureFor scope X.env=pure (clOf scope X.env))(h2:scope.kind=.function)(h3:scope.names.all (fun y=>y.2 != .cell)=true)(h4:scope.names.all (fun y=>y.2 != .local || scope.names.lookup y.1 == some .local)=true)
  (h5:X.N.zipIdx.all (fun y=>S.contains y.2 || scope.names.lookup y.1 != some .local)=true) (h6:scope.names.all (fun p=>p.2 != .free || (((clOf scope X.env).lookup p.1).isSome && (X.env.kindOf p.1 == some .cell || X.env.kindOf p.1 == some .free)))=true) :
  LcOk X scope (clOf scope X.env) S:=⟨h1,h2,h3,h4,h5,Xd X.env scope.names [] trivial,h6⟩
theorem lcOk(h1:closureFor scope X.env=pure (clOf scope X.env))(h2:scope.kind=.function)(h3:scope.names.all (fun y=>y.2 != .cell)=true)(h4:scope.names.all (fun y=>y.2 != .local || scope.names.lookup y.1 == some .local)=true)
  (h5:X.N.all (fun y=>scope.names.lookup y != some .local)=true) (h6:scope.names.all (fun p=>p.2 != .free || (((clOf scope X.env).lookup p.1).isSome && (X.env.kindOf p.1 == some .cell || X.env.kindOf p.1 == some .free)))=true) :
  LcOk X scope (clOf scope X.env) []:=W9 h1 h2 h3 h4 (Uq.mpr fun y hy=>by
   have hm:y.1∈X.N:=uo (UU.mp hy)
   rw[Uq.mp h5 y.1 hm,Bool.or_true]) h6
theorem Qo(M:List Str)(hc:X.calm=true)(hi:PI X tg iter wi)(hg:∀C s H ex E,PG (cxLC X scope (clOf scope X.env) M C s H ex E) tg g)(ht:∀C s H ex E,PTs (cxLC X scope (clOf scope X.env) M C s H ex E) ifs tt)
  (he:∀C s H ex E,PE (cxLC X scope (clOf scope X.env) M C s H ex E) elt te) (hs:∀x,foldedSetIterable iter X.env x=pure x:=by intro _;rfl)
  (h1:closureFor scope X.env=pure (clOf scope X.env):=by with_unfolding_all rfl) (h2:scope.kind=.function:=by rfl) (h3:scope.names.all (fun y=>y.2 != .cell)=true:=by rfl) (h4:scope.names.all (fun y=>y.2 != .local || scope.names.lookup y.1 == some .local)=true:=by rfl)
  (h5:X.N.all (fun y=>scope.names.lookup y != some .local)=true:=by rfl) (h6:scope.names.all (fun p=>p.2 != .free || (((clOf scope X.env).lookup p.1).isSome && (X.env.kindOf p.1 == some .cell || X.env.kindOf p.1 == some .free)))=true:=by rfl) :
  PE X (.ListComp elt [⟨tg,iter,ifs,0⟩] scope pos) (tLC wi g tt te M.length):=zaS (lcOk h1 h2 h3 h4 h5 h6) hc hi hg ht he hs
theorem Qp(M:List Str){i:Nat}{y:Str}{py spos:Pos}(hN:X.N.Nodup)(hi':X.N[i]?=some y)(hy:Loc X.env.scope y)(hc:X.calm=true)(hi:PI X tg iter wi)(hg:∀C s H ex E,PG (cxLC X scope (clOf scope X.env) M C s H ex E) tg g)
  (ht:∀C s H ex E,PTs (cxLC X scope (clOf scope X.env) M C s H ex E) ifs tt) (he:∀C s H ex E,PE (cxLC X scope (clOf scope X.env) M C s H ex E) elt te) (hs:∀x,foldedSetIterable iter X.env x=pure x:=by intro _;rfl)
  (hsw:swapsWith (.ListComp elt [⟨tg,iter,ifs,0⟩] scope pos) (some (.Name y py)) spos.line X.env=pure true:=by rfl)
  (hf:X.fn y=true\/X.env.scope.names.lookup y=some .local:=by first|exact .inl rfl|exact .inr rfl|assumption)
  (h1:closureFor scope X.env=pure (clOf scope X.env):=by with_unfolding_all rfl) (h2:scope.kind=.function:=by rfl) (h3:scope.names.all (fun y=>y.2 != .cell)=true:=by rfl) (h4:scope.names.all (fun y=>y.2 != .local || scope.names.lookup y.1 == some .local)=true:=by rfl)
  (h5:X.N.all (fun y=>scope.names.lookup y != some .local)=true:=by rfl) (h6:scope.names.all (fun p=>p.2 != .free || (((clOf scope X.env).lookup p.1).isSome && (X.env.kindOf p.1 == some .cell || X.env.kindOf p.1 == some .free)))=true:=by rfl) :
  PS X (.Assign [.Name y py] (.ListComp elt [⟨tg,iter,ifs,0⟩] scope pos) spos) (fun D σ H=>tLC wi g tt te M.length σ H fun v H1=>D.nx (σ.set i (some v)) H1):=jf hN hi' hy (lcOk h1 h2 h3 h4 h5 h6) hc hi hg ht he hs hsw hf
theorem Va(S:List Nat)(M:List Str)(hc:X.calm=true)(hi:PI X tg iter wi)(hg:∀C s H ex E,PG (cxLC X scope (clOf scope X.env) M C s H ex E) tg g)(ht:∀C s H ex E,PTs (cxLC X scope (clOf scope X.env) M C s H ex E) ifs tt)
  (he:∀C s H ex E,PE (cxLC X scope (clOf scope X.env) M C s H ex E) elt te) (hs:∀x,foldedSetIterable iter X.env x=pure x:=by intro _;rfl)
  (h1:closureFor scope X.env=pure (clOf scope X.env):=by with_unfolding_all rfl) (h2:scope.kind=.function:=by rfl) (h3:scope.names.all (fun y=>y.2 != .cell)=true:=by rfl) (h4:scope.names.all (fun y=>y.2 != .local || scope.names.lookup y.1 == some .local)=true:=by rfl)
  (h5:X.N.zipIdx.all (fun y=>S.contains y.2 || scope.names.lookup y.1 != some .local)=true:=by rfl) (h6:scope.names.all (fun p=>p.2 != .free || (((clOf scope X.env).lookup p.1).isSome && (X.env.kindOf p.1 == some .cell || X.env.kindOf p.1 == some .free)))=true:=by rfl) :
  PE X (.ListComp elt [⟨tg,iter,ifs,0⟩] scope pos) (tLCS S wi g tt te M.length):=zaS (W9 h1 h2 h3 h4 h5 h6) hc hi hg ht he hs
theorem Vb(S:List Nat)(M:List Str){i:Nat}{y:Str}{py spos:Pos}(hN:X.N.Nodup)(hi':X.N[i]?=some y)(hy:Loc X.env.scope y)(hc:X.calm=true)(hi:PI X tg iter wi)(hg:∀C s H ex E,PG (cxLC X scope (clOf scope X.env) M C s H ex E) tg g)
  (ht:∀C s H ex E,PTs (cxLC X scope (clOf scope X.env) M C s H ex E) ifs tt) (he:∀C s H ex E,PE (cxLC X scope (clOf scope X.env) M C s H ex E) elt te) (hs:∀x,foldedSetIterable iter X.env x=pure x:=by intro _;rfl)
  (hsw:swapsWith (.ListComp elt [⟨tg,iter,ifs,0⟩] scope pos) (some (.Name y py)) spos.line X.env=pure true:=by rfl)
  (hf:X.fn y=true\/X.env.scope.names.lookup y=some .local:=by first|exact .inl rfl|exact .inr rfl|assumption)
  (h1:closureFor scope X.env=pure (clOf scope X.env):=by with_unfolding_all rfl) (h2:scope.kind=.function:=by rfl) (h3:scope.names.all (fun y=>y.2 != .cell)=true:=by rfl) (h4:scope.names.all (fun y=>y.2 != .local || scope.names.lookup y.1 == some .local)=true:=by rfl)
  (h5:X.N.zipIdx.all (fun y=>S.contains y.2 || scope.names.lookup y.1 != some .local)=true:=by rfl) (h6:scope.names.all (fun p=>p.2 != .free || (((clOf scope X.env).lookup p.1).isSome && (X.env.kindOf p.1 == some .cell || X.env.kindOf p.1 == some .free)))=true:=by rfl) :
  PS X (.Assign [.Name y py] (.ListComp elt [⟨tg,iter,ifs,0⟩] scope pos) spos) (fun D σ H=>tLCS S wi g tt te M.length σ H fun v H1=>D.nx (σ.set i (some v)) H1):=jf hN hi' hy (W9 h1 h2 h3 h4 h5 h6) hc hi hg ht he hs hsw hf
end
section
variable{g:TG}{tt:TT}{te:TE}{Q:VK}{σ:St}{H:Hp}
theorem zX{K:ub}{a:Addr}{xs:List V}(Pv:Nat->St->List V->Hp->Prop)(h0:Pv 0 σ [] H)(hl:∀i τ ys H,i<=xs.length->Pv i τ ys H->SqL K H a xs)
  (hs:∀i x τ ys H,xs[i]?=some x->Pv i τ ys H->g x τ H fun τ2 H2=>tt τ2 H2 fun b H3=>if b=true then te τ2 H3 fun y H4=>ys.length < sizeLine/\Pv (i+1) τ2 (ys++[y]) H4 else Pv (i+1) τ2 ys H3)
  (hd:∀τ ys H,Pv xs.length τ ys H->∀p,H p=none->Q (.ref p) (upd H p (.lst ys))):∃W,(∃m,W 0 m σ [] H)/\lcBy (Itl K a) g tt te Q W:=by
 refine⟨fun i m τ ys H=>m=xs.length-i/\i<=xs.length/\Pv i τ ys H,⟨xs.length,by simp,uX _,h0⟩,?_⟩
 rintro i m τ ys H ⟨rfl,hi,p⟩
 have q:=hl i τ ys H hi p
 by_cases hlt:i < xs.length
 ·refine .inr ⟨⟨xs,xs[i],q,by simp[hlt]⟩,Pv (i+1),fun τ' ys' H' p'=>⟨xs.length-(i+1),by lia,rfl,hlt,p'⟩,fun x H' y=>?_⟩
  obtain⟨e,y⟩:=y
  subst e
  exact hs i x τ ys _ (y xs q) p
 ·have e:i=xs.length:=by lia
  subst e
  exact .inl ⟨⟨xs,q,ud _⟩,hd τ ys H p⟩
theorem yu{lo:Int}{n:Nat}(Pv:Nat->St->List V->Hp->Prop)(h0:Pv 0 σ [] H)
  (hs:∀i τ ys H,i < n->Pv i τ ys H->g (.int (lo+i)) τ H fun τ2 H2=>tt τ2 H2 fun b H3=>if b=true then te τ2 H3 fun y H4=>ys.length < sizeLine/\Pv (i+1) τ2 (ys++[y]) H4 else Pv (i+1) τ2 ys H3)
  (hd:∀τ ys H,Pv n τ ys H->∀p,H p=none->Q (.ref p) (upd H p (.lst ys))):∃W,(∃m,W 0 m σ [] H)/\lcBy (Itr lo n) g tt te Q W:=by
 refine⟨fun i m τ ys H=>m=n-i/\i<=n/\Pv i τ ys H,⟨n,by simp,uX _,h0⟩,?_⟩
 rintro i m τ ys H ⟨rfl,hi,p⟩
 by_cases hlt:i < n
 ·refine .inr ⟨hlt,Pv (i+1),fun τ' ys' H' p'=>⟨n-(i+1),by lia,rfl,hlt,p'⟩,fun x H' y=>?_⟩
  obtain⟨e,y⟩:=y
  subst e y
  exact hs i τ ys _ hlt p
 ·have e:i=n:=by lia
  subst e
  exact .inl ⟨ud _,hd τ ys H p⟩
end
end L2
namespace L2
open PySem PySem.Spec PyProof.Rows Builtin Builtin.Str
section
variable{X:Cx}{tg:Expr}
theorem Yo:OpR X (binaryOp .Mult) (fun x y H Q=>∃z n,x=.str z/\y=.int n/\MulOk z n/\Q (.str (Txt.mul z n)) H):=by
 intro pins s σ H x y v u Q I rx ry h
 obtain⟨z,n,rfl,rfl,ok,q⟩:=h
 obtain⟨t,rfl⟩:=rx
 obtain⟨t',rfl⟩:=ry
 exact SB.mul ok fun t'' k=>⟨.str (Txt.mul z n),H,I.tok k,⟨t'',rfl⟩,q⟩
end
end L2
namespace L2
open PySem PySem.Spec PyProof.Rows
def zw:Expr->Bool
 |.Starred ..=>true
 |_=>false
theorem zC{e:Expr}{es:List Expr}{env:Env}(h:zw e=false):starEach (e::es) env=(false,eval e env)::starEach es env:=by
 cases e<;>first
  |rfl
  |exact absurd (show true=false from h) (by decide)
theorem yo{env:Env}{pos:Pos}:∀{es:List Expr},es.all (fun e=>!zw e)=true->(backTo pos (starEach es env)).any (·.1)=false
 |[],_=>rfl
 |e::es,h=>by
  rw[List.all_cons,u9]at h
  have h1:zw e=false:=by simpa using h.1
  rw[zC h1]
  show(false || (backTo pos (starEach es env)).any (·.1))=false
  rw[yo h.2]
  rfl
section
variable{X:Cx}{CX:CXT}{k:Nat}{f C:Addr}{fd:FuncData}{ps:List Str}{sp:Sp}{dvs:List V}{ds:List Value}{E:XK}{x m:Str}{p pos apos:Pos}{e o:Expr}{es:List Expr}{te ta:TE}{t:TA}{id T:String}{r:List V->Hp->VK->Prop}
theorem pa_c(ha:PE X e te)(hr:PA X es t)(h:zw e=false:=by rfl):PA X (e::es) (zU te t):=Qc ha hr (zC h)
theorem zcV(F:FnOk X.prog X.w X.K X.mg X.base CX k f fd ps sp)(hr:Room k X.A)(hg:Gl X x)(hm:X.mg x=some (.ref f))(hk:uY X.K (.ref f)=true)(hb:Binds X.K fd ps ds)(hd:Vals dvs ds)(hx:yt CX X E)
  (ha:PA X (e::es) t) (hdb:(x == ("__debug__":Str))=false:=by decide) (h1:zw e=false:=by rfl) (h2:es.all (fun e=>!zw e)=true:=by rfl) :
  PE X (.Call (.Name x p) (e::es) [] pos) (Zs sp dvs E t):=Qd F hr hg hm hk hb hd hx ha hdb (zC h1) (yo h2)
theorem zbP(hc:xN X (.builtin id) r)(hg:Gl X x)(hm:X.mg x=none)(hv:bootBuiltins x=some (.builtin id))(ha:PA X (e::es) t)(hn:x≠"__name__":=by decide)(hdb:(x == ("__debug__":Str))=false:=by decide)
  (h1:zw e=false:=by rfl) (h2:es.all (fun e=>!zw e)=true:=by rfl):PE X (.Call (.Name x p) (e::es) [] pos) (tCB r t):=WY hc hg hm hv ha hn hdb (zC h1) (yo h2)
theorem Qq(hc:xN X (.type T) r)(hg:Gl X x)(hm:X.mg x=none)(hv:bootBuiltins x=some (.type T))(ha:PA X (e::es) t)(hn:x≠"__name__":=by decide)(hdb:(x == ("__debug__":Str))=false:=by decide)
  (h1:zw e=false:=by rfl) (h2:es.all (fun e=>!zw e)=true:=by rfl):PE X (.Call (.Name x p) (e::es) [] pos) (tCB r t):=X4 hc hg hm hv ha hn hdb (zC h1) (yo h2)
end
structure jE(X:Cx)(e:Expr)(t:TE):Prop where
 out:PE X e t
structure jT(X:Cx)(e:Expr)(t:TT):Prop where
 out:PT X e t
structure jW(X:Cx)(e:Expr)(t:TT):Prop where
 out:PW X e t
structure jA(X:Cx)(es:List Expr)(t:TA):Prop where
 out:PA X es t
structure jS(X:Cx)(st:Stmt)(t:TS):Prop where
 out:PS X st t
structure jSs(X:Cx)(sts:List Stmt)(t:TS):Prop where
 out:PSs X sts t
structure jG(X:Cx)(tg:Expr)(t:TG):Prop where
 out:PG X tg t
structure jGs(X:Cx)(tg:List Expr)(t:TGs):Prop where
 out:PGs X tg t
structure jI(X:Cx)(tg iter:Expr)(t:TI):Prop where
 out:PI X tg iter t
structure jO(X:Cx)(e:Option Expr)(t:TO):Prop where
 out:PO X e t
structure jTs(X:Cx)(ifs:List Expr)(t:TT):Prop where
 out:PTs X ifs t
structure jOp(X:Cx)(f:Value->Value->Sem Value)(r:R2):Prop where
 out:OpR X f r
structure jIx(X:Cx)(r:R2):Prop where
 out:IxR X r
structure jSl(X:Cx)(r:V->Option Int->Option Int->Hp->VK->Prop):Prop where
 out:SlR X r
structure jMt(X:Cx)(id:String)(r:V->List V->Hp->VK->Prop):Prop where
 out:MtR X id r
structure jCa(X:Cx)(f:Value)(r:List V->Hp->VK->Prop):Prop where
 out:xN X f r
section
variable{X:Cx}{a b c e o:Expr}{es rest:List Expr}{ta tb tc te to:TE}{t u:TA}{tA tB':TT}{pos p p2 apos cpos px:Pos}{x y m:Str}{op op':CmpOp}{bop:Operator}{r r':R2}
theorem jv(i:Nat)(hN:X.N[i]?=some x:=by rfl)(hv:Vis X.env.scope x:=by first|exact Or.inl rfl|exact Or.inr (Or.inl rfl)|exact Or.inr (Or.inr rfl))(hd:(x == ("__debug__":Str))=false:=by decide)
  (hcd:(x == ("__classdict__":Str))=false:=by decide):jE X (.Name x pos) (tVar i):=⟨pv i hN hv hd hcd⟩
theorem zj{i j}:jE X (.Constant (.int i) j pos) (tC (.int i)):=⟨zbg⟩
theorem yC{b j}:jE X (.Constant (.bool b) j pos) (tC (.bl b)):=⟨zcJ⟩
theorem zp{x j}:jE X (.Constant (.str x) j pos) (tC (.str x)):=⟨zbh⟩
theorem Qr{v:V}{w:Value}(hg:Gl X x)(hm:X.mg x=some w)(r:RelV v w)(hd:(x == ("__debug__":Str))=false:=by decide):jE X (.Name x pos) (tC v):=⟨JZ hg hm r hd⟩
theorem zx(ho:jOp X (binaryOp bop) r)(ha:jE X a ta)(hb:jE X b tb):jE X (.BinOp a bop b pos) (tOp r ta tb):=⟨zcL ho.out ha.out hb.out⟩
theorem xC(ha:jE X a ta):jE X (.UnaryOp .USub a pos) (tUn (rU fun i=>.int (-i)) ta):=⟨zaM zbA ha.out⟩
theorem wR(ho:jOp X (compareOp op) r)(ha:jE X a ta)(hb:jE X b tb)(hm:behindInMarks op b=false):jE X (.Compare a [op] [b] pos) (tOp r ta tb):=⟨J7 ho.out ha.out hb.out hm⟩
theorem yj(ho:jOp X (compareOp op) r)(ha:jE X a ta)(hb:jE X b tb)(hm:behindInMarks op b=false):jT X (.Compare a [op] [b] pos) (WT (tOp r ta tb)):=⟨J8 ho.out ha.out hb.out hm⟩
theorem wp(h:jE X e te)(he:∀whole,isTrue e X.env whole=(do let v <- whole;standAt e.pos;holding [v] (truthy v)):=by intro _;rfl):jT X e (tB te):=⟨zbi h.out he⟩
theorem yh(ha:jT X a tA):jW X (.BoolOp .And [a] pos) tA:=⟨pw_and1 ha.out⟩
theorem xD(ha:jT X a tA):jW X (.BoolOp .Or [a] pos) tA:=⟨pw_or1 ha.out⟩
theorem yd(ha:jT X a tA)(hb:jW X (.BoolOp .And (b::rest) pos) tB'):jW X (.BoolOp .And (a::b::rest) pos) (tAnd tA tB'):=⟨pw_and ha.out hb.out⟩
theorem wM(ha:jT X a tA)(hb:jW X (.BoolOp .Or (b::rest) pos) tB'):jW X (.BoolOp .Or (a::b::rest) pos) (tOr tA tB'):=⟨pw_or ha.out hb.out⟩
theorem jW.pt(h:jW X e tA):jT X e tA:=⟨PW.pt h.out⟩
theorem zbQ(ha:jT X a tA):jT X (.UnaryOp .Not a pos) (tNot tA):=⟨zbj ha.out⟩
theorem Vc{op}(h:jE X a te):jE X (.BoolOp op [a] pos) te:=⟨zbk h.out⟩
theorem jP(ha:jE X a ta)(hb:jE X (.BoolOp .And (b::rest) pos) tb):jE X (.BoolOp .And (a::b::rest) pos) (zaH ta tb):=⟨zbl ha.out hb.out⟩
theorem Vd(hc:jT X c tA)(ha:jE X a ta)(hb:jE X b tb):jE X (.IfExp c a b pos) (tIf tA ta tb):=⟨WM hc.out ha.out hb.out⟩
theorem zD:jA X [] tNil:=⟨zbE⟩
theorem ja_c(ha:jE X e te)(hr:jA X es t)(h:zw e=false:=by rfl):jA X (e::es) (zU te t):=⟨pa_c ha.out hr.out h⟩
theorem zB(h:jA X es t):jE X (.List es pos) (tLst t):=⟨zbG h.out⟩
theorem zq{x1}(h:jA X es t):jE X (.Tuple es x1 pos) (tTup t):=⟨zbF h.out⟩
theorem zT(hr:jIx X r)(ha:jE X a ta)(hb:jE X b tb)(hs:jJ b):jE X (.Subscript a b pos) (tOp r ta tb):=⟨zcT hr.out ha.out hb.out hs⟩
theorem y0:jO X none Y8:=⟨Qg⟩
theorem y8(h:jE X e te):jO X (some e) (zaP te):=⟨Qh h.out⟩
theorem yJ{r:V->Option Int->Option Int->Hp->VK->Prop}{lo hi:Option Expr}{tl th:TO}(hr:jSl X r)(he:jE X e te)(hl:jO X lo tl)(hu:jO X hi th):jE X (.Subscript e (.Slice lo hi none p2) pos) (tSl r te tl th):=⟨W0 hr.out he.out hl.out hu.out⟩
variable{CX:CXT}{k:Nat}{f C:Addr}{fd:FuncData}{ps:List Str}{sp:Sp}{dvs:List V}{ds:List Value}{E:XK}{id T:String}{rc:List V->Hp->VK->Prop}{rm:V->List V->Hp->VK->Prop}
theorem zcW(F:FnOk X.prog X.w X.K X.mg X.base CX k f fd ps sp)(hr:Room k X.A)(hg:Gl X x)(hm:X.mg x=some (.ref f))(hk:uY X.K (.ref f)=true)(hb:Binds X.K fd ps ds)(hd:Vals dvs ds)(hx:yt CX X E)
  (ha:jA X (e::es) t) (hdb:(x == ("__debug__":Str))=false:=by decide) (h1:zw e=false:=by rfl) (h2:es.all (fun e=>!zw e)=true:=by rfl) :
  jE X (.Call (.Name x p) (e::es) [] pos) (Zs sp dvs E t):=⟨zcV F hr hg hm hk hb hd hx ha.out hdb h1 h2⟩
theorem xE(hc:jCa X (.builtin id) rc)(hg:Gl X x)(hm:X.mg x=none)(hv:bootBuiltins x=some (.builtin id))(ha:jA X (e::es) t)(hn:x≠"__name__":=by decide)(hdb:(x == ("__debug__":Str))=false:=by decide)
  (h1:zw e=false:=by rfl) (h2:es.all (fun e=>!zw e)=true:=by rfl):jE X (.Call (.Name x p) (e::es) [] pos) (tCB rc t):=⟨zbP hc.out hg hm hv ha.out hn hdb h1 h2⟩
theorem yv(hc:jCa X (.type T) rc)(hg:Gl X x)(hm:X.mg x=none)(hv:bootBuiltins x=some (.type T))(ha:jA X (e::es) t)(hn:x≠"__name__":=by decide)(hdb:(x == ("__debug__":Str))=false:=by decide)
  (h1:zw e=false:=by rfl) (h2:es.all (fun e=>!zw e)=true:=by rfl):jE X (.Call (.Name x p) (e::es) [] pos) (tCB rc t):=⟨Qq hc.out hg hm hv ha.out hn hdb h1 h2⟩
theorem Yp{name:Str}(pa:PlainAttrs T)(slot:Slot T name id)(hty:typeOf (.builtin id)=pure (.type "method_descriptor"))(hm:jMt X id rm)(ho:jE X o to)
  (hbase:attributeBase o name X.env (eval o X.env)=eval o X.env:=by rfl) (hline:(apos.endLine == cpos.line)=true:=by rfl):jE X (.Call (.Attribute o name apos) [] [] cpos) (tBM0 X.K T rm to):=⟨zbL pa slot hty hm.out ho.out hbase hline⟩
theorem yy{name:Str}(pa:PlainAttrs T)(slot:Slot T name id)(hty:typeOf (.builtin id)=pure (.type "method_descriptor"))(hm:jMt X id rm)(ho:jE X o to)(ha:jA X (e::es) t)
  (hbase:attributeBase o name X.env (eval o X.env)=eval o X.env:=by rfl)
  (hfew:((backTo cpos (starEach (e::es) X.env)).all (fun x=>!x.1) && (backToKw cpos (keywordEach [] X.env)).all (fun x=>x.1.isSome)
   && decide ((e::es).length+([]:List Keyword).length+(if([]:List Keyword).isEmpty then 0 else 1) < 30))=true:=by rfl)
  (hline:(apos.endLine == cpos.line)=true:=by rfl) (h1:zw e=false:=by rfl) (h2:es.all (fun e=>!zw e)=true:=by rfl) :
  jE X (.Call (.Attribute o name apos) (e::es) [] cpos) (tBM X.K T rm to t):=⟨zcU pa slot hty hm.out ho.out ha.out hbase hfew hline (zC h1) (yo h2)⟩
variable{st:Stmt}{sts:List Stmt}{s1 s2:TS}{tg iter elt:Expr}{g:TG}{wi:TI}{tb1:TS}{ifs:List Expr}{tt:TT}
theorem zv:jSs X [] wI:=⟨J0⟩
theorem zg(h1:jS X st s1)(h2:jSs X sts s2):jSs X (st::sts) (tSeq s1 s2):=⟨WN h1.out h2.out⟩
theorem zh(h1:jS X st s1):jSs X [st] s1:=⟨J1 h1.out⟩
theorem zG(he:jE X e te)(hs:swapsWith e none pos.line X.env=pure false:=by rfl):jS X (.Expr e pos) (zaI te):=⟨J2 he.out hs⟩
theorem zu(he:jE X e te):jS X (.Return (some e) pos) (tRet te):=⟨zbm he.out⟩
theorem zy{A B:List Stmt}(hc:jT X c tA)(ha:jSs X A s1)(hb:jSs X B s2):jS X (.If c A B pos) (tIfS tA s1 s2):=⟨zcK hc.out ha.out hb.out⟩
theorem zbR{i:Nat}{pos':Pos}(hN:X.N.Nodup)(hi:X.N[i]?=some x)(hx:Loc X.env.scope x)(he:jE X e te)(hs:swapsWith e (some (.Name x pos')) pos.line X.env=pure false:=by rfl)
  (hf:X.fn x=true\/X.env.scope.names.lookup x=some .local:=by first|exact .inl rfl|exact .inr rfl|assumption):jS X (.Assign [.Name x pos'] e pos) (tAsg te (xg i)):=⟨zbq hN hi hx he.out hs hf⟩
theorem yR(he:jE X e te)(hg:jG X tg g)(hs:swapsWithSole [tg] e pos.line X.env=pure false:=by rfl)(hw:swappedStores [tg] e X.env=pure none:=by rfl)(h1:(assignEach [tg] X.env).map (·.2)=[assign tg X.env]:=by rfl):jS X (.Assign [tg] e pos) (tAsg te g):=⟨zbp he.out hg.out hs hw h1⟩
theorem Qs{i:Nat}(hN:X.N.Nodup)(hi:X.N[i]?=some x)(hx:Loc X.env.scope x)(hf:X.fn x=true\/X.env.scope.names.lookup x=some .local:=by first|exact .inl rfl|exact .inr rfl|assumption):jG X (.Name x pos) (xg i):=⟨J3 hN hi hx hf⟩
theorem zL:jGs X [] gNil:=⟨J4⟩
theorem zt{g:TG}{gs:TGs}(h1:jG X e g)(h2:jGs X es gs)(hs:(assignEach (e::es) X.env).map (·.2)=assign e X.env::(assignEach es X.env).map (·.2):=by rfl):jGs X (e::es) (zaJ g gs):=⟨WO h1.out h2.out hs⟩
theorem yi{k:Nat}{gs:TGs}{n:Nat}(hc:X.calm=true)(h:jGs X es gs)(hn:(assignEach es X.env).length=n:=by rfl)(hst:(assignEach es X.env).findIdx? (·.1)=none:=by rfl):jG X (.Tuple es k pos) (gTup X.K n gs):=⟨zbn hc h.out hn hst⟩
theorem zF{l:Expr}{tl:TE}(hl:jE X l tl):jI X tg l (zaK X.K tl):=⟨J5 hl.out⟩
theorem yK{l:Expr}{tl:TE}(hl:jE X l tl):jI X tg l (iTup X.K tl):=⟨zbs hl.out⟩
theorem zQ(hg:Gl X "range")(hm:X.mg "range"=none)(ha:jA X [a] t)(h:zw a=false:=by rfl):jI X tg (.Call (.Name "range" p) [a] [] pos) (zaL t):=⟨XZ hg hm ha.out (zC h)⟩
theorem zJ(hp:PassesOwn (model X.prog X.w) X.A X.env X.xe)(hc:X.calm=true)(hi:jI X tg iter wi)(hg:jG X tg g)(hb:jSs X sts tb1)(hs:∀x,foldedSetIterable iter X.env x=pure x:=by intro _;rfl):jS X (.For tg iter sts [] pos) (tFor wi g tb1):=⟨zbt hp hc hi.out hg.out hb.out hs⟩
theorem vi(hp:PassesOwn (model X.prog X.w) X.A X.env X.xe)(hc:jT X c tA)(hb:jSs X sts tb1):jS X (.While c sts [] pos) (WP tA tb1):=⟨WQ hp hc.out hb.out⟩
theorem zR:jTs X [] tYes:=⟨Qm⟩
theorem yG(h:jT X c tA):jTs X [c] tA:=⟨Qn h.out⟩
theorem yk{scope:Scope}(M:List Str)(hc:X.calm=true)(hi:jI X tg iter wi)(hg:∀C s H ex E,jG (cxLC X scope (clOf scope X.env) M C s H ex E) tg g)(ht:∀C s H ex E,jTs (cxLC X scope (clOf scope X.env) M C s H ex E) ifs tt)
  (he:∀C s H ex E,jE (cxLC X scope (clOf scope X.env) M C s H ex E) elt te) (hs:∀x,foldedSetIterable iter X.env x=pure x:=by intro _;rfl)
  (h1:closureFor scope X.env=pure (clOf scope X.env):=by with_unfolding_all rfl) (h2:scope.kind=.function:=by rfl) (h3:scope.names.all (fun y=>y.2 != .cell)=true:=by rfl) (h4:scope.names.all (fun y=>y.2 != .local || scope.names.lookup y.1 == some .local)=true:=by rfl)
  (h5:X.N.all (fun y=>scope.names.lookup y != some .local)=true:=by rfl) (h6:scope.names.all (fun p=>p.2 != .free || (((clOf scope X.env).lookup p.1).isSome && (X.env.kindOf p.1 == some .cell || X.env.kindOf p.1 == some .free)))=true:=by rfl) :
  jE X (.ListComp elt [⟨tg,iter,ifs,0⟩] scope pos) (tLC wi g tt te M.length):=⟨Qo M hc hi.out (fun C s H ex E=>(hg C s H ex E).out) (fun C s H ex E=>(ht C s H ex E).out) (fun C s H ex E=>(he C s H ex E).out) hs h1 h2 h3 h4 h5 h6⟩
theorem yp{scope:Scope}(M:List Str){i:Nat}{py spos:Pos}(hN:X.N.Nodup)(hi':X.N[i]?=some y)(hy:Loc X.env.scope y)(hc:X.calm=true)(hi:jI X tg iter wi)(hg:∀C s H ex E,jG (cxLC X scope (clOf scope X.env) M C s H ex E) tg g)
  (ht:∀C s H ex E,jTs (cxLC X scope (clOf scope X.env) M C s H ex E) ifs tt) (he:∀C s H ex E,jE (cxLC X scope (clOf scope X.env) M C s H ex E) elt te) (hs:∀x,foldedSetIterable iter X.env x=pure x:=by intro _;rfl)
  (hsw:swapsWith (.ListComp elt [⟨tg,iter,ifs,0⟩] scope pos) (some (.Name y py)) spos.line X.env=pure true:=by rfl)
  (hf:X.fn y=true\/X.env.scope.names.lookup y=some .local:=by first|exact .inl rfl|exact .inr rfl|assumption)
  (h1:closureFor scope X.env=pure (clOf scope X.env):=by with_unfolding_all rfl) (h2:scope.kind=.function:=by rfl) (h3:scope.names.all (fun y=>y.2 != .cell)=true:=by rfl) (h4:scope.names.all (fun y=>y.2 != .local || scope.names.lookup y.1 == some .local)=true:=by rfl)
  (h5:X.N.all (fun y=>scope.names.lookup y != some .local)=true:=by rfl) (h6:scope.names.all (fun p=>p.2 != .free || (((clOf scope X.env).lookup p.1).isSome && (X.env.kindOf p.1 == some .cell || X.env.kindOf p.1 == some .free)))=true:=by rfl) :
  jS X (.Assign [.Name y py] (.ListComp elt [⟨tg,iter,ifs,0⟩] scope pos) spos) (fun D σ H=>tLC wi g tt te M.length σ H fun v H1=>D.nx (σ.set i (some v)) H1) :=
 ⟨Qp M hN hi' hy hc hi.out (fun C s H ex E=>(hg C s H ex E).out) (fun C s H ex E=>(ht C s H ex E).out) (fun C s H ex E=>(he C s H ex E).out) hs hsw hf h1 h2 h3 h4 h5 h6⟩
theorem Ve{scope:Scope}(S:List Nat)(M:List Str)(hc:X.calm=true)(hi:jI X tg iter wi)(hg:∀C s H ex E,jG (cxLC X scope (clOf scope X.env) M C s H ex E) tg g)(ht:∀C s H ex E,jTs (cxLC X scope (clOf scope X.env) M C s H ex E) ifs tt)
  (he:∀C s H ex E,jE (cxLC X scope (clOf scope X.env) M C s H ex E) elt te) (hs:∀x,foldedSetIterable iter X.env x=pure x:=by intro _;rfl)
  (h1:closureFor scope X.env=pure (clOf scope X.env):=by with_unfolding_all rfl) (h2:scope.kind=.function:=by rfl) (h3:scope.names.all (fun y=>y.2 != .cell)=true:=by rfl) (h4:scope.names.all (fun y=>y.2 != .local || scope.names.lookup y.1 == some .local)=true:=by rfl)
  (h5:X.N.zipIdx.all (fun y=>S.contains y.2 || scope.names.lookup y.1 != some .local)=true:=by rfl) (h6:scope.names.all (fun p=>p.2 != .free || (((clOf scope X.env).lookup p.1).isSome && (X.env.kindOf p.1 == some .cell || X.env.kindOf p.1 == some .free)))=true:=by rfl) :
  jE X (.ListComp elt [⟨tg,iter,ifs,0⟩] scope pos) (tLCS S wi g tt te M.length):=⟨Va S M hc hi.out (fun C s H ex E=>(hg C s H ex E).out) (fun C s H ex E=>(ht C s H ex E).out) (fun C s H ex E=>(he C s H ex E).out) hs h1 h2 h3 h4 h5 h6⟩
theorem vk{scope:Scope}(S:List Nat)(M:List Str){i:Nat}{py spos:Pos}(hN:X.N.Nodup)(hi':X.N[i]?=some y)(hy:Loc X.env.scope y)(hc:X.calm=true)(hi:jI X tg iter wi)(hg:∀C s H ex E,jG (cxLC X scope (clOf scope X.env) M C s H ex E) tg g)
  (ht:∀C s H ex E,jTs (cxLC X scope (clOf scope X.env) M C s H ex E) ifs tt) (he:∀C s H ex E,jE (cxLC X scope (clOf scope X.env) M C s H ex E) elt te) (hs:∀x,foldedSetIterable iter X.env x=pure x:=by intro _;rfl)
  (hsw:swapsWith (.ListComp elt [⟨tg,iter,ifs,0⟩] scope pos) (some (.Name y py)) spos.line X.env=pure true:=by rfl)
  (hf:X.fn y=true\/X.env.scope.names.lookup y=some .local:=by first|exact .inl rfl|exact .inr rfl|assumption)
  (h1:closureFor scope X.env=pure (clOf scope X.env):=by with_unfolding_all rfl) (h2:scope.kind=.function:=by rfl) (h3:scope.names.all (fun y=>y.2 != .cell)=true:=by rfl) (h4:scope.names.all (fun y=>y.2 != .local || scope.names.lookup y.1 == some .local)=true:=by rfl)
  (h5:X.N.zipIdx.all (fun y=>S.contains y.2 || scope.names.lookup y.1 != some .local)=true:=by rfl) (h6:scope.names.all (fun p=>p.2 != .free || (((clOf scope X.env).lookup p.1).isSome && (X.env.kindOf p.1 == some .cell || X.env.kindOf p.1 == some .free)))=true:=by rfl) :
  jS X (.Assign [.Name y py] (.ListComp elt [⟨tg,iter,ifs,0⟩] scope pos) spos) (fun D σ H=>tLCS S wi g tt te M.length σ H fun v H1=>D.nx (σ.set i (some v)) H1) :=
 ⟨Vb S M hN hi' hy hc hi.out (fun C s H ex E=>(hg C s H ex E).out) (fun C s H ex E=>(ht C s H ex E).out) (fun C s H ex E=>(he C s H ex E).out) hs hsw hf h1 h2 h3 h4 h5 h6⟩
theorem zW:jOp X (binaryOp .Add) (rI0 fun i j=>.int (i+j)):=⟨zbu⟩
theorem ym:jOp X (binaryOp .Sub) (rI0 fun i j=>.int (i-j)):=⟨zbv⟩
theorem vm:jOp X (binaryOp .Mult) (rI CMul fun i j=>.int (i*j)):=⟨zbw⟩
theorem yP:jOp X (binaryOp .FloorDiv) (rI CDiv fun i j=>.int (i / j)):=⟨J6⟩
theorem y9:jOp X (binaryOp .Mod) (rI (fun _ j=>0 < j) fun i j=>.int (i % j)):=⟨zbx⟩
theorem zbS:jOp X (binaryOp .Pow) (rI CPow fun i j=>.int (i ^ j.toNat)):=⟨zby⟩
theorem zA:jOp X (compareOp .Eq) rEq:=⟨zcN⟩
theorem Xe:jOp X (compareOp .NotEq) rNe:=⟨zcO⟩
theorem vn:jOp X (compareOp .Lt) (rI0 fun i j=>.bl (decide (i < j))):=⟨zcP⟩
theorem zaT:jOp X (compareOp .LtE) (rI0 fun i j=>.bl (decide (i<=j))):=⟨zcQ⟩
theorem jg:jOp X (compareOp .Gt) (rI0 fun i j=>.bl (decide (j < i))):=⟨zcR⟩
theorem zaU:jOp X (compareOp .GtE) (rI0 fun i j=>.bl (decide (j<=i))):=⟨zcS⟩
theorem yr:jOp X (compareOp .In) (rIn X.K false):=⟨X5⟩
theorem jQ:jOp X (compareOp .NotIn) (rIn X.K true):=⟨jM⟩
theorem yz:jOp X (binaryOp .Add) (fun x y H Q=>∃i j,x=.str i/\y=.str j/\i.length+j.length<=sizeLine/\Q (.str (i++j)) H):=⟨Yd⟩
theorem vo:jOp X (binaryOp .Mult) (fun x y H Q=>∃z n,x=.str z/\y=.int n/\MulOk z n/\Q (.str (Txt.mul z n)) H):=⟨Yo⟩
theorem yL:jOp X (binaryOp .Add) rCat:=⟨zbN⟩
theorem Xf:jOp X (binaryOp .Add) (zaQ X.K):=⟨Qi⟩
theorem zH:jIx X (rIxL X.K):=⟨Qj⟩
theorem zY:jIx X (rIxT X.K):=⟨zbJ⟩
theorem Yq:jIx X rIxS:=⟨zbK⟩
theorem jU:jSl X (rSlL X.K):=⟨Qk⟩
theorem zK:jMt X "list.append" Xa:=⟨X6⟩
theorem Vf:jMt X "list.pop" rPop:=⟨zbM⟩
theorem Wa:jMt X "list.extend" Xb:=⟨X7⟩
theorem vq:jCa X (.builtin "len") (fun xs H Q=>∃p ys,xs=[.ref p]/\(SqL X.K H p ys\/SqT X.K H p ys)/\Q (.int ys.length) H):=⟨jN⟩
theorem zN:jCa X (.type "tuple") (fun xs H Q=>∃p ys,xs=[.ref p]/\((SqL X.K H p ys/\∀l,H l=none->Q (.ref l) (upd H l (.tup ys)))\/(SqT X.K H p ys/\Q (.ref p) H))):=⟨vW⟩
end
section
variable{P:Program}{w:World}{K:ub}{mg:Str->Option Value}{base:Heap}
theorem Fun.by{x qual:Str}{st:Stmt}{f:Addr}{fd:FuncData}{N ps:List Str}{k:Nat}{sp:Sp}(F:Fun K x qual st f fd)(S:FnScope N ps (zo st))(len:∀vs H Q E,sp vs H Q E->vs.length=ps.length)
  (hbody:∀(cdv:Value)(A:Around)(outer:List Env)(s:Shared)(H:Hp)(vs:List V)(Q:VK)(E:XK),Room k (A.deeper (envOfC qual (zo st) s.heap.objs.size f cdv))->sp vs H Q E ->
   ∃t,jSs (cxOf CX0 P w K mg base N qual (zo st) f cdv A outer s H E).nox (zM st) t/\t { nx:=fun _ H'=>Q .non H',rt:=Q } (start N vs) H):FnOk P w K mg base CX0 (k+1) f fd ps sp :=
 F.ok S len fun cdv A outer s H vs Q E hr h=>let ⟨t,b,q⟩:=hbody cdv A outer s H vs Q E hr h;⟨t,b.out,q⟩
end
end L2
namespace L2
open PySem
section
variable{M:Model}{A:Around}{E:Value->Shared->Prop}{s:Shared}{base:Heap}{env:Env}{outer:List Env}{L e T:Addr}{C:Value}{dx:Option Addr}{Q:Unit->Shared->Prop}
end
end L2
namespace L2
open PySem PySem.Spec PyProof.Rows
section
variable{P:Program}{w:World}{K:ub}{mg:Str->Option Value}{base:Heap}{N:List Str}{qual:Str}{scope:Scope}{f:Addr}{cd:Value}{A:Around}{outer:List Env}{s:Shared}{H:Hp}{E:XK}
end
end L2
namespace L2
open PySem
section
variable{M:Model}{A:Around}{E:Value->Shared->Prop}{env:Env}{nm q:Str}{C N:Addr}{bs bm:List Value}{hdct:Bool}{sn:List Str}{sub:List Value}{ab:Bool}{col:Option Bool}{dd:Option Addr}{k0 k1 k2 k3 k5:Option Value}{newId:String}
end
section
variable{prog:Program}{w:World}{A:Around}{E:Value->Shared->Prop}{h:Heap}{g:Array GenState}{d:Drawn}{t:Nat}{os:OsState}
variable{nm q:Str}{C N f:Addr}{bs bm bmB:List Value}{hdct:Bool}{sn:List Str}{sub:List Value}{ab:Bool}{col:Option Bool}{dd:Option Addr}{k0 k1 k2 k3 k5:Option Value}{B Bn newId nid initId inN:String}{bmN:List Value}
end
end L2
namespace L2
open PySem PySem.W PySem.Calls PyProof.Rows Builtin Builtin.ObjectAttr
def bmV:List Value:=[.type "ValueError",.type "Exception",.type "BaseException",.type "object"]
def zcX:List Value->Bool
 |[]=>false
 |v::r=>(v::r) == bmV || (match v with
  |.ref _=>zcX r
  |_=>false)
section
variable{prog:Program}{w:World}{A:Around}{E:Value->Shared->Prop}{K:Frag}{C e:Addr}{s:Shared}{ox:Obj}{od:Option Obj}{name:Str}{R:Result->Shared->Prop}
end
end L2
namespace L2
open PySem PySem.Spec PyProof.Rows
section
variable{X:Cx}{k:Nat}{f C:Addr}{fd:FuncData}{ps:List Str}{sp:Sp}{E:XK}{x:Str}{np cpos pos:Pos}{a:Expr}{as:List Expr}{t:TA}
end
section
variable{X:Cx}{f C R:Addr}{x m:Str}{np apos pos pos':Pos}{a o e value:Expr}{as:List Expr}{t:TA}{ta tv te:TE}
end
section
variable{X:Cx}{pins:List (Addr×Obj)}{σ:St}{H:Hp}{s:Shared}{h':Heap}{xs:List Addr}
end
abbrev Ends.behind(D:Ends)(i:Nat):Ends:={ nx:=fun σ H=>D.nx (σ.set i none) H,rt:=D.rt,bk:=fun σ H=>D.bk (σ.set i none) H,ct:=fun σ H=>D.ct (σ.set i none) H }
section
variable{X:Cx}{Ch:Addr}{x n:Str}{i:Nat}{np hpos tpos:Pos}{b0:Stmt}{suite:List Stmt}{th:Addr->Obj->TS}
variable{k:Nat}{f:Addr}{fd:FuncData}{ps:List Str}{sp:Sp}{y:Str}{p cpos epos:Pos}{a:Expr}{as:List Expr}{t:TA}
end
section
variable{X:Cx}{pins:List (Addr×Obj)}{σ:St}{H:Hp}{s:Shared}{h':Heap}
theorem Inv.turns{t':Nat}{ch:List Addr}(I:Inv X pins σ H s)(k:∀b o,b∉ch->s.heap.get? b=some o->h'.get? b=some o)(hf:∀b∈ch,FpOk X pins H b):Inv X pins σ H { s with heap:=h',toks:=t' }:=by
 have nit:∀b u,H b=some u->b∉ch:=fun b u e z=>by rw[(hf b z).1]at e;cases e
 refine I.call (g':=s.gens) (d':=s.drawn) (t':=t') (ch:=ch) ⟨fun b o q _ _ x=>k b o x q,fun b o q _ _ x=>⟨o.slots,k b o x q⟩,fun _ _ _ n _=>n,fun b o q x=>⟨o,k b o x q⟩,fun _ _ q=>q,fun _ _ _ q=>q,fun _ ps q=>⟨#[],by rw[q];simp⟩⟩
  (fun b u e=>(I.hok b u e).stay (fun c v hc q=>k c v ?_ q) (fun _ q=>q) fun _ _ q=>q) I.bare fun b hb=>?_
 ·rcases hc with z|z
  ·rw[z];exact nit b u e
  ·exact nit c _ z
 ·obtain⟨f0,f1,f2,f3,f4,f5⟩:=hf b hb
  exact⟨f3,f1,f4,f5⟩
theorem Inv.turnsLaid{t':Nat}{ch:List Addr}{a:Addr}{o:HO}(I:Inv X pins σ H s)(k:∀b o,b∉ch->s.heap.get? b=some o->h'.get? b=some o)(hf:∀b∈ch,FpOk X pins H b)(hp:s.heap.objs.size<=a)(new:ObjOk X.prog X.w (upd H a o) h' a o):
  Inv X pins σ (upd H a o) { s with heap:=h',toks:=t' }:=by
 have hn:=I.hok.fresh hp
 have nit:∀b u,H b=some u->b∉ch:=fun b u e z=>by rw[(hf b z).1]at e;cases e
 refine I.call (g':=s.gens) (d':=s.drawn) (t':=t') (ch:=ch) ⟨fun b o q _ _ x=>k b o x q,fun b o q _ _ x=>⟨o.slots,k b o x q⟩,fun b u q n _=>by rw[zi (uS (uI (uw q) hp))];exact n,fun b o q x=>⟨o,k b o x q⟩,
   fun b xs q=>by rw[zi (zk q hn)];exact q,fun b u xs q=>by rw[zi (zk q hn)];exact q,fun b ps q=>⟨#[],by rw[zi (zk q hn),q];simp⟩⟩
  (fun b u e=>?_) I.bare fun b hb=>?_
 ·by_cases hb:b=a
  ·subst hb
   rw[upd_same]at e
   cases e
   exact new
  ·rw[zi hb]at e
   refine(I.hok b u e).stay (fun c v hc q=>k c v ?_ q) (fun c q=>by rw[zi (zk q hn)];exact q) fun c xs q=>by rw[zi (zk q hn)];exact q
   rcases hc with z|z
   ·rw[z];exact nit b u e
   ·exact nit c _ z
 ·obtain⟨f0,f1,f2,f3,f4,f5⟩:=hf b hb
  exact⟨f3,f1,f4,f5⟩
end
def Ite(K:ub)(a:Addr):It :=
 ⟨fun i H=>∃xs x,SqL K H a xs/\xs[i]?=some x,fun i H x H'=>∃T v,x=.ref T/\H T=none/\H'=upd H T (.tup [.int i,v])/\∀xs,SqL K H a xs->xs[i]?=some v,fun i H=>∃xs,SqL K H a xs/\xs.length<=i⟩
theorem Wb{P:Program}{w:World}{K:ub}{elts:List Expr}{k:Nat}{pos:Pos}{a e it:Addr}(hne:e≠it):Turn P w K (.Tuple elts k pos) (Ite K a) [e,it] e (fun i h=>(∃old,IsEnum h e it (i:Int) old)/\h.IsListIter it a i) where
 mem:=by simp
 obj:=fun i h st b hb=>by
  obtain⟨⟨old,he⟩,hit⟩:=st
  have e':b=e\/b=it:=by simpa using hb
  rcases e' with z|z
  ·subst z
   exact⟨_,he,fun v z=>by cases z⟩
  ·subst z
   obtain⟨o,e,c,d⟩:=hit
   exact⟨o,e,fun v z=>by rw[d]at z;cases z⟩
 keep:=fun i h h' st k=>⟨st.1.imp fun old he=>k e (by simp) _ he,st.2.at fun o x=>k it (by simp) o x⟩
 item:=by
  intro X hP hw hK hc i pins s σ H E I hf st hg
  subst hP hw hK
  obtain⟨xs,x,hq,hx⟩:=hg
  obtain⟨its,rv,p,hz⟩:=I.list hq
  obtain⟨u,hu,ru⟩:=rv.get hx
  obtain⟨⟨old,he⟩,hit⟩:=st
  refine wpAny_pyNext_enum_item he hit p.isList (x:=u) (by simpa using hu) hne fun h' ho hit' hT hsz hk=>?_
  have new:ObjOk X.prog X.w (upd H s.heap.objs.size (.tup [.int i,x])) h' s.heap.objs.size (.tup [.int i,x]):=⟨sN2,[.int i s.toks,u],.cons ⟨_,rfl⟩ (.cons ru .nil),⟨_,hT,rfl,rfl,_,rfl⟩⟩
  have I1:Inv X pins σ (upd H s.heap.objs.size (.tup [.int i,x])) { s with heap:=h',toks:=s.toks+1 }:=I.turnsLaid (ch:=[e,it]) (fun b o hb q=>hk b o (fun z=>hb (by simp[z])) (fun z=>hb (by simp[z])) q) hf (ud _) new
  have hlt:∀b∈[e,it],b≠s.heap.objs.size:=fun b hb=>by
   have e':b=e\/b=it:=by simpa using hb
   rcases e' with z|z
   ·rw[z];exact uS (uw he)
   ·rw[z];obtain⟨o,q,_⟩:=hit;exact uS (uw q)
  have hn:∀b∈[e,it],upd H s.heap.objs.size (.tup [.int i,x]) b=none:=fun b hb=>by rw[zi (hlt b hb)];exact(hf b hb).1
  have hf1:∀b∈[e,it],FpOk X pins (upd H s.heap.objs.size (.tup [.int i,x])) b:=fun b hb=>⟨hn b hb,(hf b hb).2⟩
  refine⟨_,rfl,wpAny_letOwnedTupleGo_enum (s:={ s with heap:=h',toks:=s.toks+1 }) ho fun h'' he' hs'=>?_⟩
  have I2:Inv X pins σ (upd H s.heap.objs.size (.tup [.int i,x])) { s with heap:=h'',toks:=s.toks+1 }:=Inv.turns (s:={ s with heap:=h',toks:=s.toks+1 }) (t':=s.toks+1) (ch:=[e,it]) I1 (fun b o hb q=>(hs'.2 b fun z=>hb (by simp[z])).trans q) hf1
  refine⟨.ref s.heap.objs.size,_,I2,rfl,⟨_,x,rfl,I.fresh,rfl,fun ys hy=>by rw[I.list_inj hy hq];exact hx⟩,⟨⟨u,?_⟩,hit'.at fun o q=>(hs'.2 it hne.symm).trans q⟩,hn⟩
  have e1:(((i+1:Nat)):Int)=(i:Int)+1:=by lia
  rw[e1]
  exact he'
 done:=by
  intro X hP hw hK hc i pins s σ H E I hf st hg
  subst hP hw hK
  obtain⟨xs,hq,hx⟩:=hg
  obtain⟨its,rv,p,hz⟩:=I.list hq
  have hl:=rv.length
  obtain⟨⟨old,he⟩,hit⟩:=st
  exact wpAny_pyNext_enum_end (I.ok.hd hc) he hit p.isList (by simp;lia) fun h' eb=>⟨rfl,I.turns (t':=s.toks) (ch:=[e,it]) (fun b o hb q=>eb b o (fun z=>hb (by simp[z])) q) hf⟩
 self:=fun _ _ _ _ _ st h=>by
  obtain⟨⟨old,he⟩,_⟩:=st
  exact wpAny_pyIter_enum he h
section
variable{X:Cx}{elts:List Expr}{k:Nat}{tpos:Pos}
def zaV(K:ub)(ta:TA):TI:=fun σ H R=>ta σ H fun vs H1=>∃a,vs=[.ref a]/\(∃xs,SqL K H1 a xs)/\R (Ite K a) H1
theorem Qt{a:Expr}{ta:TA}{p pos:Pos}(hg:Gl X "enumerate")(hm:X.mg "enumerate"=none)(ha:PA X [a] ta)(hs:starEach [a] X.env=[(false,eval a X.env)]:=by rfl):PI X (.Tuple elts k tpos) (.Call (.Name "enumerate" p) [a] [] pos) (zaV X.K ta):=by
 intro pins s σ H R I h
 refine Call_ (yZ I hg hm boot_enumerate (Ud (thn (ha pos pins s σ H _ I h) fun us s1 ⟨vs,H1,I1,r1,q1⟩=>?_) hs rfl))
 obtain⟨l,e,⟨xs,hq⟩,q⟩:=q1
 subst e
 obtain⟨u,rfl,rx⟩:=vZ r1
 cases rx
 obtain⟨its,rv,pl,hz⟩:=I1.list hq
 refine call_enumerate_list pl.isList fun h' hE hI hsz hk=>?_
 refine wpAny_pyIter_enum hE ?_
 refine⟨s1.heap.objs.size+1,[s1.heap.objs.size+1,s1.heap.objs.size],_,_,H1,rfl,I1.kept (t':=s1.toks) hk,Wb (a:=l) (Nat.succ_ne_self _),⟨⟨_,hE⟩,hI⟩,fun b hb=>?_,q⟩
 have e:b=s1.heap.objs.size+1\/b=s1.heap.objs.size:=by simpa using hb
 rcases e with e|e
 ·subst e
  exact I1.fpOk (U8 _) (I1.hok.fresh (U8 _))
 ·subst e
  exact I1.fpOk (ud _) (I1.hok.fresh (ud _))
theorem Qu{a:Expr}{t:TA}{p pos:Pos}(hg:Gl X "enumerate")(hm:X.mg "enumerate"=none)(ha:jA X [a] t)(h:zw a=false:=by rfl):jI X (.Tuple elts k tpos) (.Call (.Name "enumerate" p) [a] [] pos) (zaV X.K t):=⟨Qt hg hm ha.out (zC h)⟩
end
end L2
namespace L2
open PySem PySem.Spec PyProof.Rows Builtin Builtin.Str
section
variable{X:Cx}
theorem xQ:∀{zs:List Str}{us:List Value},Vals (zs.map V.str) us->∃l:List (Str×Tok),us=strValues l/\l.map (·.1)=zs
 |[],_,.nil=>⟨[],rfl,rfl⟩
 |z::zs,_,.cons ⟨t,e⟩ r=>by
  obtain⟨l,rfl,h⟩:=xQ r
  exact⟨(z,t)::l,by rw[e];rfl,by rw[uH,h]⟩
theorem Zz(sep:Str):∀(zs:List Str)(a:Nat),zs.foldl (· + ·.length+sep.length) a=a+((zs.map (·.length)).sum+zs.length*sep.length)
 |[],a=>by simp
 |z::zs,a=>by
  rw[Uh,Zz sep zs]
  simp only[uH,Ur,ul,tM,Nat.one_mul]
  lia
def wide(sep:Str)(zs:List Str):Nat:=(zs.map (·.length)).sum+zs.length*sep.length
def zaW(K:ub):V->List V->Hp->VK->Prop:=fun x vs H Q=>∃sep p zs,x=.str sep/\vs=[.ref p]/\SqL K H p (zs.map V.str)/\wide sep zs<=sizeLine/\Q (.str (Str.join sep zs)) H
theorem Qv:MtR X "str.join" (zaW X.K):=by
 intro pins s σ H x vs v us Q I rx rv h
 obtain⟨sep,p,zs,rfl,rfl,hq,hw,q⟩:=h
 obtain⟨t,rfl⟩:=rx
 obtain⟨u,rfl,ru⟩:=rv.one
 cases ru
 obtain⟨its,r,pl,hz⟩:=I.list hq
 obtain⟨l,rfl,hl⟩:=xQ r
 have big:tooLong ((l.map (·.1)).toArray.foldl (· + ·.length+sep.length) 0)=false:=by
  rw[hl,List.foldl_toArray,Zz]
  unfold tooLong
  rw[decide_eq_false_iff_not]
  unfold wide at hw
  lia
 have hg:=size_glued sep zs
 have hle:(glued sep zs).length<=sizeLine:=by
  rw[hg]
  unfold wide at hw
  have:(zs.length-1)*sep.length<=zs.length*sep.length:=tj _ (Nat.sub_le _ _)
  lia
 refine call_meets F.slot_str_join (typeIs_str _ _ _) F.entry_str_join (F.args_str_join_2 _ _) (meets_str_join_list sep t p l big) ⟨pl.isList,?_⟩
 rw[<- StrLaws.glued_eq_join]at q
 match l,hl with
 |[],hl=>exact⟨by rw[hl];exact hle,.str _,H,I.tok _,⟨_,rfl⟩,by rw[hl];exact q⟩
 |[(z,tz)],hl =>
  have e:glued sep zs=z:=by
   rw[<- hl]
   rfl
  rw[e]at q
  exact⟨.str z,H,I,⟨tz,rfl⟩,q⟩
 |a::b::r,hl=>exact⟨by rw[hl];exact hle,.str _,H,I.tok _,⟨_,rfl⟩,by rw[hl];exact q⟩
theorem Qw:jMt X "str.join" (zaW X.K):=⟨Qv⟩
def rEqE(K:ub)(neg:Bool):R2:=fun x y H Q=>∃p p' xs,x=.ref p/\y=.ref p'/\SqL K H p xs/\SqL K H p' []/\Q (.bl (if neg then !xs.isEmpty else xs.isEmpty)) H
theorem zbT(hu:X.A.units < cLine):OpR X (compareOp .Eq) (rEqE X.K false):=by
 intro pins s σ H x y v u Q I rx ry h
 obtain⟨p,p',xs,rfl,rfl,h1,h2,q⟩:=h
 cases rx
 cases ry
 obtain⟨its,r,pl,_⟩:=I.list h1
 obtain⟨its',r',pl',_⟩:=I.list h2
 cases r'
 cases r with
 |nil=>exact SeqAt.eq_listAt (e:=fun _=>true) pl.isList pl'.isList rfl hu (fun j h=>absurd h (tX _)) ⟨.bl true,H,I,rfl,q⟩
 |cons a b=>exact SeqAt.eq_list_lengthsAt pl.isList pl'.isList rfl hu ⟨.bl false,H,I,rfl,q⟩
theorem zbU(hu:X.A.units < cLine):OpR X (compareOp .NotEq) (rEqE X.K true):=by
 intro pins s σ H x y v u Q I rx ry h
 obtain⟨p,p',xs,rfl,rfl,h1,h2,q⟩:=h
 cases rx
 cases ry
 obtain⟨its,r,pl,_⟩:=I.list h1
 obtain⟨its',r',pl',_⟩:=I.list h2
 cases r'
 cases r with
 |nil=>exact SeqAt.RcNeAt.lists (e:=fun _=>true) pl.isList pl'.isList rfl hu (fun j h=>absurd h (tX _)) _ _ _ _ ⟨.bl false,H,I,rfl,q⟩
 |cons a b=>exact SeqAt.RcNeAt.lists_lengths pl.isList pl'.isList rfl hu _ _ _ _ ⟨.bl true,H,I,rfl,q⟩
theorem jV{k:Nat}(hr:Room k X.A):jOp X (compareOp .Eq) (rEqE X.K false):=⟨zbT hr.units0⟩
theorem Yr{k:Nat}(hr:Room k X.A):jOp X (compareOp .NotEq) (rEqE X.K true):=⟨zbU hr.units0⟩
end
end L2
namespace L2
open PySem PySem.Spec PyProof.Rows
def Sq(k:Bool)(h:Heap)(l:Addr)(xs:Array Value):Prop:=match k with
 |true=>h.IsList l xs
 |false=>h.IsTuple l xs
def SqI(k:Bool)(h:Heap)(j l:Addr)(n:Nat):Prop:=match k with
 |true=>h.IsListIter j l n
 |false=>h.IsTupleIter j l n
def SqN(k:Bool):String:=if k then "list_iterator"else "tuple_iterator"
theorem Sq.at{k:Bool}{h h':Heap}{l:Addr}{xs:Array Value}(x:Sq k h l xs)(e:∀o,h.get? l=some o->h'.get? l=some o):Sq k h' l xs:=by
 cases k<;>obtain⟨o,ho,r⟩:=x<;>exact⟨o,e _ ho,r⟩
theorem SqI.at{k:Bool}{h h':Heap}{j l:Addr}{n:Nat}(x:SqI k h j l n)(e:∀o,h.get? j=some o->h'.get? j=some o):SqI k h' j l n:=by
 cases k<;>obtain⟨o,ho,r⟩:=x<;>exact⟨o,e _ ho,r⟩
theorem SqI.ex{k:Bool}{h:Heap}{j l:Addr}{n:Nat}(x:SqI k h j l n):∃o,h.get? j=some o/\o.cls=.type (SqN k)/\o.data=.fields #[.ref l,.int n 0]:=by
 cases k<;>exact x
theorem SqI.of{k:Bool}{h:Heap}{j l:Addr}{n:Nat}(x:∃o,h.get? j=some o/\o.cls=.type (SqN k)/\o.data=.fields #[.ref l,.int n 0]):SqI k h j l n:=by
 cases k<;>exact x
section
variable{P:Program}{w:World}{A:Around}{E:Value->Shared->Prop}{s:Shared}
theorem ZA{j l:Addr}{n:Nat}{xs:Array Value}{x:Value}{Q:Value->Shared->Prop}(hj:s.heap.IsTupleIter j l n)(hl:s.heap.IsTuple l xs)(hx:xs[n]?=some x)
  (q:∀h',h'.IsTupleIter j l (n+1)->Heap.SameBut j s.heap h'->Q x { s with heap:=h' }):wpAny (model P w) A (uQ (.ref j)) Q E s:=by
 have⟨oj,hoj,cj,dj⟩:=hj
 have⟨ol,hol,_,m,dl⟩:=hl
 unfold uQ
 refine wpAny_bind (wpAny_callSpecial?_slot hj.typeIs F.slot_tuple_iterator_next (wpAny_call_entry F.slot_tuple_iterator_next hj.typeIs F.entry_tuple_iterator_next ?_ (F.args_tuple_iterator_next_1 (.ref j))))
 refine wpAny_bind (m:=field (.ref j) 0) (wpAny_field hoj dj (x:=.ref l) rfl ?_)
 have nn:¬ ((Value.ref l == Value.none)=true):=ux
 show wpAny _ _ (ite ((Value.ref l == Value.none)=true) _ _) _ _ _
 rw[if_neg nn]
 refine wpAny_bind (m:=field (.ref j) 1) (wpAny_field hoj dj (x:=.int n 0) rfl ?_)
 refine wpAny_bind (m:=seqItems? (.ref l)) (wpAny_seqItems hol dl ?_)
 simp only[tL,hx]
 refine wpAny_bind (wpAny_setField hoj dj (by simp) (wpAny_pure ⟨x,rfl,wpAny_pure (q _ ⟨_,UC _ hoj (Obj.isFreed_of_fields (Obj.data_mapFields dj _)),(Obj.cls_mapFields ..).trans cj,?_⟩ (Heap.SameBut.update ..))⟩))
 rw[Obj.data_mapFields dj]
 simp[rawInt]
theorem Xg{j l:Addr}{n:Nat}{xs:Array Value}{Q:Value->Shared->Prop}(hA:A.handled=none)(hj:s.heap.IsTupleIter j l n)(hl:s.heap.IsTuple l xs)(hx:xs[n]?=none)
  (q:∀h' e,Heap.ExtBut j s.heap h'->(∃o,h'.get? e=some o/\o.cls=.type "StopIteration")->E (.ref e) { s with heap:=h' }):wpAny (model P w) A (uQ (.ref j)) Q E s:=by
 have⟨oj,hoj,cj,dj⟩:=hj
 have⟨ol,hol,_,m,dl⟩:=hl
 unfold uQ
 refine wpAny_bind (wpAny_callSpecial?_slot hj.typeIs F.slot_tuple_iterator_next (wpAny_call_entry F.slot_tuple_iterator_next hj.typeIs F.entry_tuple_iterator_next ?_ (F.args_tuple_iterator_next_1 (.ref j))))
 refine wpAny_bind (m:=field (.ref j) 0) (wpAny_field hoj dj (x:=.ref l) rfl ?_)
 have nn:¬ ((Value.ref l == Value.none)=true):=ux
 show wpAny _ _ (ite ((Value.ref l == Value.none)=true) _ _) _ _ _
 rw[if_neg nn]
 refine wpAny_bind (m:=field (.ref j) 1) (wpAny_field hoj dj (x:=.int n 0) rfl ?_)
 refine wpAny_bind (m:=seqItems? (.ref l)) (wpAny_seqItems hol dl ?_)
 simp only[tL,hx]
 refine wpAny_bind (wpAny_rule (wpAny_bind (wpAny_setField hoj dj (by simp) ?_)))
 refine wpAny_bind (m:=newExc (.type "StopIteration") []) ?_
 unfold newExc newTuple
 refine wpAny_bind (wpAny_newObj_type (wpAny_bind (m:=firstArgMember _ _) (wpAny_of_eq (a:=Value.none) (by first|rfl|(simp only[firstArgMember];rfl)) (wpAny_newObj_type ?_ (by size_fits)))) (by size_fits))
 unfold raiseNew
 refine wpAny_bind (wpAny_handled ?_)
 rw[show A.in1.handled=none from hA]
 exact wpAny_bind (wpAny_pure (wpAny_throw (q _ _ (((Heap.SameBut.update ..).extBut.push _).push _) ⟨_,uy _ rfl,rfl⟩)))
theorem xu{k:Bool}{j l:Addr}{n:Nat}{xs:Array Value}{x:Value}{Q:Value->Shared->Prop}(hj:SqI k s.heap j l n)(hl:Sq k s.heap l xs)(hx:xs[n]?=some x)
  (q:∀h',SqI k h' j l (n+1)->Heap.SameBut j s.heap h'->Q x { s with heap:=h' }):wpAny (model P w) A (uQ (.ref j)) Q E s:=by
 cases k with
 |true=>exact wpAny_nextOf_list_item hj hl hx q
 |false=>exact ZA hj hl hx q
theorem jX{k:Bool}{j l:Addr}{n:Nat}{xs:Array Value}{Q:Value->Shared->Prop}(hA:A.handled=none)(hj:SqI k s.heap j l n)(hl:Sq k s.heap l xs)(hx:xs[n]?=none)
  (q:∀h' e,Heap.ExtBut j s.heap h'->(∃o,h'.get? e=some o/\o.cls=.type "StopIteration")->E (.ref e) { s with heap:=h' }):wpAny (model P w) A (uQ (.ref j)) Q E s:=by
 cases k with
 |true=>exact wpAny_nextOf_list_end hA hj hl hx q
 |false=>exact Xg hA hj hl hx q
theorem Xh{k:Bool}{l:Addr}{xs:Array Value}{Q:Value->Shared->Prop}(hl:Sq k s.heap l xs)(q:Q (.ref s.heap.objs.size) { s with heap:=s.heap.push { cls:=.type (SqN k),data:=.fields #[.ref l,.int 0 0] } }):
  wpAny (model P w) A (pyIter (.ref l)) Q E s:=by
 cases k with
 |true=>exact wpAny_pyIter_list hl q
 |false=>exact wpAny_pyIter_tuple hl q
end
abbrev za(k:Bool)(h:Heap)(l:Addr):Heap:=h.push { cls:=.type (SqN k),data:=.fields #[.ref l,.int 0 0] }
abbrev zb(k m:Bool)(h:Heap)(l r:Addr):Heap:=za m (za k h l) r
abbrev zc(k m:Bool)(h:Heap)(l r:Addr):Heap:=(zb k m h l r).push { cls:=.type "tuple",data:=.seq #[.ref h.objs.size,.ref (za k h l).objs.size] }
abbrev zd(k m:Bool)(h:Heap)(l r:Addr):Heap:=(zc k m h l r).push { cls:=.type "tuple",data:=.seq #[.none,.none] }
abbrev ze(k m:Bool)(h:Heap)(l r:Addr):Heap:=(zd k m h l r).push { cls:=.type "zip",data:=.fields #[.none,.bool false,.bool false,.ref (zb k m h l r).objs.size,.ref (zc k m h l r).objs.size] }
theorem Vg(k m:Bool)(l r:Addr)(xs ys:Array Value):Meets (Builtin.«zip.__new__» ⟨[.type "zip",.ref l,.ref r],[]⟩)
  (fun _ R s=>Sq k s.heap l xs/\Sq m s.heap r ys/\R (.ok (.ret (.ref (zd k m s.heap l r).objs.size))) { s with heap:=ze k m s.heap l r }) :=
 .of_wp fun prog w A R s h=>by
  obtain⟨hp,g,d,tk,os⟩:=s
  obtain⟨h1,h2,h⟩:=h
  have hs:=sub_zip
  have q1:Sq k (Shared.heap ⟨hp,g,d,tk,os⟩) l xs:=h1
  have q2:Sq m (Shared.heap ⟨za k hp l,g,d,tk,os⟩) r ys:=h2.at fun o e=>ug _ e
  wp_walk using Xh q1,Xh q2
  exact⟨_,rfl,h⟩
structure ZS(k m:Bool)(h:Heap)(B l r:Nat)(n:Nat)(f g:Value):Prop where
 z:h.get? (B+4)=some { cls:=.type "zip",data:=.fields #[f,g,.bool false,.ref (B+2),.ref (B+3)] }
 ti:IsPair h (B+2) (.ref B) (.ref (B+1))
 to:∃a b,IsPair h (B+3) a b
 i:SqI k h B l n
 j:SqI m h (B+1) r n
theorem ZS.at{k m:Bool}{h h':Heap}{B l r:Nat}{n:Nat}{f g:Value}(x:ZS k m h B l r n f g)(e:∀(b:Nat) o,B<=b->b<=B+4->h.get? b=some o->h'.get? b=some o):ZS k m h' B l r n f g where
 z:=e _ _ (by lia) (by lia) x.z
 ti:=e _ _ (by lia) (by lia) x.ti
 to:=let ⟨a,b,y⟩:=x.to;⟨a,b,e _ _ (by lia) (by lia) y⟩
 i:=x.i.at fun o=>e _ o (by lia) (by lia)
 j:=x.j.at fun o=>e _ o (by lia) (by lia)
def KeptZ(B:Nat)(h h':Heap):Prop:=∀(c:Nat) o,(c < B\/B+4 < c)->h.get? c=some o->h'.get? c=some o
section
variable{P:Program}{w:World}{A:Around}{E:Value->Shared->Prop}{s:Shared}{k m:Bool}{B l r:Nat}{n:Nat}{xs ys:Array Value}{x y f g:Value}
theorem ZB{Q:Value->Shared->Prop}(hl:Sq k s.heap l xs)(hr:Sq m s.heap r ys)
  (q:∀h',ZS k m h' s.heap.objs.size l r 0 .none (.bool false)->h'.objs.size=s.heap.objs.size+5->(∀c o,s.heap.get? c=some o->h'.get? c=some o)->Q (.ref (s.heap.objs.size+4)) { s with heap:=h' }) :
  wpAny (model P w) A (call (.type "zip") [.ref l,.ref r]) Q E s:=by
 apply callType_new F.called_zip (by decide) (F.typeCall_zip_2 _ _) (F.newCall_zip_2 _ _) (fun obj=>F.args_object_init_3 obj _ _) F.entry_zip_new (Vg k m l r xs ys)
 refine⟨hl,hr,?_⟩
 have s1:(za k s.heap l).objs.size=s.heap.objs.size+1:=Up ..
 have s2:(zb k m s.heap l r).objs.size=s.heap.objs.size+2:=by rw[Up,s1]
 have s3:(zc k m s.heap l r).objs.size=s.heap.objs.size+3:=by rw[Up,s2]
 have s4:(zd k m s.heap l r).objs.size=s.heap.objs.size+4:=by rw[Up,s3]
 have s5:(ze k m s.heap l r).objs.size=s.heap.objs.size+5:=by rw[Up,s4]
 have up:∀{c o},(zd k m s.heap l r).get? c=some o->(ze k m s.heap l r).get? c=some o:=fun e=>ug _ e
 have p5:(ze k m s.heap l r).get? (zd k m s.heap l r).objs.size=some _:=uy _ rfl
 have p4:(ze k m s.heap l r).get? (zc k m s.heap l r).objs.size=some _:=up (uy _ rfl)
 have p3:(ze k m s.heap l r).get? (zb k m s.heap l r).objs.size=some _:=up (ug _ (uy _ rfl))
 have p2:(ze k m s.heap l r).get? (za k s.heap l).objs.size=some _:=up (ug _ (ug _ (uy _ rfl)))
 have p1:(ze k m s.heap l r).get? s.heap.objs.size=some _:=up (ug _ (ug _ (ug _ (uy _ rfl))))
 rw[s4,s2,s3]at p5
 rw[s3]at p4
 rw[s2,s1]at p3
 rw[s1]at p2
 show _/\_
 rw[s4]
 exact⟨⟨_,p5,rfl⟩,q _ ⟨p5,p3,⟨_,_,p4⟩,.of ⟨_,p1,rfl,rfl⟩,.of ⟨_,p2,rfl,rfl⟩⟩ s5 fun c o e=>up (ug _ (ug _ (ug _ (ug _ e))))⟩
theorem ZC{Q:Value->Shared->Prop}(Z:ZS k m s.heap B l r n .none g)(hl:Sq k s.heap l xs)(hr:Sq m s.heap r ys)(ll:l < B)(rl:r < B)(hx:xs[n]?=some x)(hy:ys[n]?=some y)
  (q:∀h',ZS k m h' B l r (n+1) (rawInt s.heap.objs.size) (.bool false)->IsPair h' s.heap.objs.size x y->h'.objs.size=s.heap.objs.size+1->KeptZ B s.heap h'->Q (.ref s.heap.objs.size) { s with heap:=h' }) :
  wpAny (model P w) A (Builtin.«zip.__next__» ⟨[.ref (B+4)],[]⟩) (fun fin s'=>∃v,fin=.done (.ret v)/\Q v s') E s:=by
 obtain⟨a,b,hto⟩:=Z.to
 refine wpAny_bind (m:=field (.ref (B+4)) 2) (wpAny_field Z.z rfl (x:=.bool false) rfl ?_)
 refine wpAny_bind (m:=field (.ref (B+4)) 3) (wpAny_field Z.z rfl (x:=.ref (B+2)) rfl (wpAny_bind (wpAny_seqItems Z.ti rfl ?_)))
 refine wpAny_bind (m:=uV (.ref (B+4))) ?_
 unfold uV
 refine wpAny_bind (wpAny_field Z.z rfl (x:=.none) rfl (wpAny_pure ?_))
 rw[if_pos rfl]
 refine wpAny_bind (wpAny_rule (wpAny_bind (wpAny_field Z.z rfl (x:=.ref (B+3)) rfl (wpAny_bind (wpAny_setField_rec Z.z (by simp) fun h1 z1 u1=>wpAny_bind ?_)))))
 replace z1:h1.get? (B+4)=some { cls:=.type "zip",data:=.fields #[.ellipsis,g,.bool false,.ref (B+2),.ref (B+3)] }:=z1
 have k1:∀(c:Nat) o,c≠B+4->s.heap.get? c=some o->h1.get? c=some o:=fun c o n e=>(u1.2 c n).trans e
 simp only[List.zipIdx_cons,List.zipIdx_nil,List.forIn_cons,List.forIn_nil]
 refine wpAny_bind (wpAny_bind (wpAny_onRaise (wpAny_bind (m:=uQ (.ref B)) ?_)))
 refine xu (Z.i.at fun o=>k1 _ o (by lia)) (hl.at fun o=>k1 _ o (by lia)) hx fun h2 i2 u2=>wpAny_pure ?_
 have k2:∀(c:Nat) o,c≠B->h1.get? c=some o->h2.get? c=some o:=fun c o n e=>(u2.2 c n).trans e
 have to2:IsPair h2 (B+3) a b:=k2 _ _ (by lia) (k1 _ _ (by lia) hto)
 refine wpAny_bind (wpAny_seqItems to2 rfl (wpAny_bind (wpAny_updateSeq_pair to2 fun h3 to3 u3=>?_)))
 replace to3:IsPair h3 (B+3) x b:=to3
 have k3:∀(c:Nat) o,c≠B+3->h2.get? c=some o->h3.get? c=some o:=fun c o n e=>(u3.2 c n).trans e
 refine wpAny_bind (wpAny_letGo (wpAny_pure (wpAny_bind (wpAny_bind (wpAny_onRaise (wpAny_bind (m:=uQ (.ref (B+1))) ?_))))))
 refine xu (Z.j.at fun o e=>k3 _ o (by lia) (k2 _ o (by lia) (k1 _ o (by lia) e))) (hr.at fun o e=>k3 _ o (by lia) (k2 _ o (by lia) (k1 _ o (by lia) e))) hy fun h4 i4 u4=>wpAny_pure ?_
 have k4:∀(c:Nat) o,c≠B+1->h3.get? c=some o->h4.get? c=some o:=fun c o n e=>(u4.2 c n).trans e
 have to4:IsPair h4 (B+3) x b:=k4 _ _ (by lia) to3
 refine wpAny_bind (wpAny_seqItems to4 rfl (wpAny_bind (wpAny_updateSeq_pair to4 fun h5 to5 u5=>?_)))
 replace to5:IsPair h5 (B+3) x y:=to5
 have k5:∀(c:Nat) o,c≠B+3->h4.get? c=some o->h5.get? c=some o:=fun c o n e=>(u5.2 c n).trans e
 refine wpAny_bind (wpAny_letGo (wpAny_pure (wpAny_pure (wpAny_bind (wpAny_seqItems to5 rfl (wpAny_bind (wpAny_newTuple ?_)))))))
 have sz:h5.objs.size=s.heap.objs.size:=by rw[u5.1,u4.1,u3.1,u2.1,u1.1]
 have z5:h5.get? (B+4)=some { cls:=.type "zip",data:=.fields #[.ellipsis,g,.bool false,.ref (B+2),.ref (B+3)] }:=k5 _ _ (by lia) (k4 _ _ (by lia) (k3 _ _ (by lia) (k2 _ _ (by lia) z1)))
 have lt4:B+4 < h5.objs.size:=uw z5
 refine wpAny_bind (m:=tT (.ref (B+4)) (.ref h5.objs.size)) ?_
 unfold tT
 refine wpAny_bind (wpAny_setField_rec (ug { cls:=.type "tuple",data:=.seq #[x,y] } z5) (by simp) fun h7 z7 u7=>?_)
 refine wpAny_setField_rec z7 (by simp) fun h8 z8 u8=>wpAny_pure ⟨.ref h5.objs.size,rfl,?_⟩
 have k8:∀(c:Nat) o,c≠B+4->h5.get? c=some o->h8.get? c=some o:=fun c o n e=>(u8.2 c n).trans ((u7.2 c n).trans (ug _ e))
 have p8:IsPair h8 h5.objs.size x y:=(u8.2 _ (Nat.ne_of_gt lt4)).trans ((u7.2 _ (Nat.ne_of_gt lt4)).trans (uy _ rfl))
 have s8:h8.objs.size=h5.objs.size+1:=by rw[u8.1,u7.1,Up]
 rw[sz]at p8 s8 ⊢
 refine q h8 ⟨?_,k8 _ _ (by lia) (k5 _ _ (by lia) (k4 _ _ (by lia) (k3 _ _ (by lia) (k2 _ _ (by lia) (k1 _ _ (by lia) Z.ti))))),⟨x,y,k8 _ _ (by lia) to5⟩,
  i2.at fun o e=>k8 _ _ (by lia) (k5 _ _ (by lia) (k4 _ _ (by lia) (k3 _ _ (by lia) e))),i4.at fun o e=>k8 _ _ (by lia) (k5 _ _ (by lia) e)⟩ p8 s8
  fun c o hc e=>k8 _ _ (by lia) (k5 _ _ (by lia) (k4 _ _ (by lia) (k3 _ _ (by lia) (k2 _ _ (by lia) (k1 _ _ (by lia) e)))))
 rw[<- sz]
 exact z8
theorem Vh{a:Addr}{o:Obj}{Q:Option Obj->Shared->Prop}(ho:s.heap.get? a=some o)(h:Q (some o) s):wpAny (model P w) A (loadIfAlive a) Q E s:=fun Γ p _=>by
 unfold loadIfAlive
 rw[Sem.wp_loadIfAlive,ho]
 simpa using h
theorem ZD{Q:Bool->Shared->Prop}{T:Nat}{ot:Obj}{c:Bool}(hz:s.heap.get? (B+4)=some { cls:=.type "zip",data:=.fields #[rawInt T,.bool c,.bool false,.ref (B+2),.ref (B+3)] })(hT:s.heap.get? T=some ot)
  (q:∀h1,h1.get? (B+4)=some { cls:=.type "zip",data:=.fields #[rawInt T,.bool true,.bool false,.ref (B+2),.ref (B+3)] }->h1.objs.size=s.heap.objs.size->(∀(d:Nat) o,d≠B+4->s.heap.get? d=some o->h1.get? d=some o)->Q false { s with heap:=h1 }) :
  wpAny (model P w) A (uV (.ref (B+4))) Q E s:=by
 unfold uV
 refine wpAny_bind (wpAny_field hz rfl (x:=rawInt T) rfl ?_)
 refine wpAny_bind (m:=loadIfAlive ((T:Int).toNat)) (Vh (o:=ot) (by rw[tL];exact hT) ?_)
 rw[if_neg (by simp)]
 refine wpAny_bind (wpAny_field hz rfl (x:=.bool c) rfl ?_)
 cases c with
 |true =>
  rw[if_neg (by decide)]
  exact wpAny_pure (q _ hz rfl fun d o _ e=>e)
 |false =>
  rw[if_pos (by decide)]
  exact wpAny_bind (wpAny_setField_rec hz (by simp) fun h1 z1 u1=>wpAny_pure (q h1 z1 u1.1 fun d o n e=>(u1.2 d n).trans e))
theorem Vi{Q:Value->Shared->Prop}{T:Nat}{ot:Obj}{c:Bool}(Z:ZS k m s.heap B l r n (rawInt T) (.bool c))(hT:s.heap.get? T=some ot)(hl:Sq k s.heap l xs)(hr:Sq m s.heap r ys)(ll:l < B)(rl:r < B)(hx:xs[n]?=some x)(hy:ys[n]?=some y)
  (q:∀h',ZS k m h' B l r (n+1) (rawInt T) (.bool true)->IsPair h' s.heap.objs.size x y->h'.objs.size=s.heap.objs.size+1->KeptZ B s.heap h'->Q (.ref s.heap.objs.size) { s with heap:=h' }) :
  wpAny (model P w) A (Builtin.«zip.__next__» ⟨[.ref (B+4)],[]⟩) (fun fin s'=>∃v,fin=.done (.ret v)/\Q v s') E s:=by
 obtain⟨a,b,hto⟩:=Z.to
 refine wpAny_bind (m:=field (.ref (B+4)) 2) (wpAny_field Z.z rfl (x:=.bool false) rfl ?_)
 refine wpAny_bind (m:=field (.ref (B+4)) 3) (wpAny_field Z.z rfl (x:=.ref (B+2)) rfl (wpAny_bind (wpAny_seqItems Z.ti rfl ?_)))
 refine wpAny_bind (m:=uV (.ref (B+4))) (ZD Z.z hT fun h1 z1 s1 k1=>?_)
 rw[if_neg ux]
 refine wpAny_bind ?_
 rw[<- Array.forIn_toList]
 simp only[List.forIn_cons,List.forIn_nil]
 refine wpAny_bind (wpAny_bind (wpAny_holding (wpAny_bind (m:=uQ (.ref B)) ?_)))
 refine xu (Z.i.at fun o=>k1 _ o (by lia)) (hl.at fun o=>k1 _ o (by lia)) hx fun h2 i2 u2=>wpAny_pure (wpAny_pure ?_)
 have k2:∀(c:Nat) o,c≠B->h1.get? c=some o->h2.get? c=some o:=fun c o n e=>(u2.2 c n).trans e
 refine wpAny_bind (wpAny_bind (wpAny_holding (wpAny_bind (m:=uQ (.ref (B+1))) ?_)))
 refine xu (Z.j.at fun o e=>k2 _ o (by lia) (k1 _ o (by lia) e)) (hr.at fun o e=>k2 _ o (by lia) (k1 _ o (by lia) e)) hy fun h4 i4 u4=>wpAny_pure (wpAny_pure (wpAny_pure ?_))
 have k4:∀(c:Nat) o,c≠B+1->h2.get? c=some o->h4.get? c=some o:=fun c o n e=>(u4.2 c n).trans e
 have sz:h4.objs.size=s.heap.objs.size:=by rw[u4.1,u2.1];exact s1
 refine wpAny_bind (wpAny_newTuple (hsz:=sN2) (wpAny_pure ⟨.ref h4.objs.size,rfl,?_⟩))
 have p5:IsPair (h4.push { cls:=.type "tuple",data:=.seq #[x,y] }) h4.objs.size x y:=uy _ rfl
 have s5:(h4.push { cls:=.type "tuple",data:=.seq #[x,y] }).objs.size=h4.objs.size+1:=Up ..
 rw[sz]at p5 s5 ⊢
 have k5:∀(c:Nat) o,h4.get? c=some o->(h4.push { cls:=.type "tuple",data:=.seq #[x,y] }).get? c=some o:=fun c o e=>ug _ e
 exact q _ ⟨k5 _ _ (k4 _ _ (by lia) (k2 _ _ (by lia) z1)),k5 _ _ (k4 _ _ (by lia) (k2 _ _ (by lia) (k1 _ _ (by lia) Z.ti))),⟨a,b,k5 _ _ (k4 _ _ (by lia) (k2 _ _ (by lia) (k1 _ _ (by lia) hto)))⟩,
  i2.at fun o e=>k5 _ _ (k4 _ _ (by lia) e),i4.at fun o e=>k5 _ _ e⟩ p5 s5 fun c o hc e=>k5 _ _ (k4 _ _ (by lia) (k2 _ _ (by lia) (k1 _ _ (by lia) e)))
theorem Qx{Q:PySem.Fin->Shared->Prop}(hA:A.handled=none)(Z:ZS k m s.heap B l r n .none g)(hl:Sq k s.heap l xs)(hr:Sq m s.heap r ys)(ll:l < B)(rl:r < B)(hx:xs[n]?=none\/ys[n]?=none)
  (q:∀h' e,KeptZ B s.heap h'->(∃o,h'.get? e=some o/\o.cls=.type "StopIteration")->E (.ref e) { s with heap:=h' }):wpAny (model P w) A (Builtin.«zip.__next__» ⟨[.ref (B+4)],[]⟩) Q E s:=by
 obtain⟨a,b,hto⟩:=Z.to
 refine wpAny_bind (m:=field (.ref (B+4)) 2) (wpAny_field Z.z rfl (x:=.bool false) rfl ?_)
 refine wpAny_bind (m:=field (.ref (B+4)) 3) (wpAny_field Z.z rfl (x:=.ref (B+2)) rfl (wpAny_bind (wpAny_seqItems Z.ti rfl ?_)))
 refine wpAny_bind (m:=uV (.ref (B+4))) ?_
 unfold uV
 refine wpAny_bind (wpAny_field Z.z rfl (x:=.none) rfl (wpAny_pure ?_))
 rw[if_pos rfl]
 refine wpAny_bind (wpAny_rule (wpAny_bind (wpAny_field Z.z rfl (x:=.ref (B+3)) rfl (wpAny_bind (wpAny_setField_rec Z.z (by simp) fun h1 z1 u1=>wpAny_bind ?_)))))
 replace z1:h1.get? (B+4)=some { cls:=.type "zip",data:=.fields #[.ellipsis,g,.bool false,.ref (B+2),.ref (B+3)] }:=z1
 have k1:∀(c:Nat) o,c≠B+4->s.heap.get? c=some o->h1.get? c=some o:=fun c o n e=>(u1.2 c n).trans e
 have nz:∀{h:Heap}{e:Nat}{v:Value}{o:Obj},h.get? (B+4)=some { cls:=.type "zip",data:=.fields #[v,g,.bool false,.ref (B+2),.ref (B+3)] }->h.get? e=some o->o.cls=.type "StopIteration"->e≠B+4:=fun h1 h2 h3 e=>by
  rw[e,h1]at h2
  cases h2
  simp at h3
 simp only[List.zipIdx_cons,List.zipIdx_nil,List.forIn_cons,List.forIn_nil]
 refine wpAny_bind (wpAny_bind (wpAny_onRaise (wpAny_bind (m:=uQ (.ref B)) ?_)))
 cases e1:xs[n]? with
 |none =>
  refine jX hA (Z.i.at fun o=>k1 _ o (by lia)) (hl.at fun o=>k1 _ o (by lia)) e1 fun h2 e u2 he=>?_
  obtain⟨oe,he,ce⟩:=he
  have k2:∀(c:Nat) o,c≠B->h1.get? c=some o->h2.get? c=some o:=fun c o n e=>u2 c o n e
  have z2:=k2 _ _ (show B+4≠B by lia) z1
  refine wpAny_setField_rec z2 (by simp) fun h3 z3 u3=>q h3 e (fun c o hc x=>(u3.2 c (show(c:Nat)≠B+4 by lia)).trans (k2 _ _ (by lia) (k1 _ _ (by lia) x))) ⟨oe,(u3.2 e (nz z2 he ce)).trans he,ce⟩
 |some x =>
  have hy:ys[n]?=none:=hx.resolve_left (by rw[e1];simp)
  refine xu (Z.i.at fun o=>k1 _ o (by lia)) (hl.at fun o=>k1 _ o (by lia)) e1 fun h2 i2 u2=>wpAny_pure ?_
  have k2:∀(c:Nat) o,c≠B->h1.get? c=some o->h2.get? c=some o:=fun c o n e=>(u2.2 c n).trans e
  have to2:IsPair h2 (B+3) a b:=k2 _ _ (by lia) (k1 _ _ (by lia) hto)
  refine wpAny_bind (wpAny_seqItems to2 rfl (wpAny_bind (wpAny_updateSeq_pair to2 fun h3 to3 u3=>?_)))
  have k3:∀(c:Nat) o,c≠B+3->h2.get? c=some o->h3.get? c=some o:=fun c o n e=>(u3.2 c n).trans e
  refine wpAny_bind (wpAny_letGo (wpAny_pure (wpAny_bind (wpAny_bind (wpAny_onRaise (wpAny_bind (m:=uQ (.ref (B+1))) ?_))))))
  refine jX hA (Z.j.at fun o e=>k3 _ o (by lia) (k2 _ o (by lia) (k1 _ o (by lia) e))) (hr.at fun o e=>k3 _ o (by lia) (k2 _ o (by lia) (k1 _ o (by lia) e))) hy fun h4 e u4 he=>?_
  obtain⟨oe,he,ce⟩:=he
  have k4:∀(c:Nat) o,c≠B+1->h3.get? c=some o->h4.get? c=some o:=fun c o n e=>u4 c o n e
  have z4:=k4 _ _ (show B+4≠B+1 by lia) (k3 _ _ (by lia) (k2 _ _ (by lia) z1))
  refine wpAny_setField_rec z4 (by simp) fun h5 z5 u5=>q h5 e (fun c o hc x=>(u5.2 c (show(c:Nat)≠B+4 by lia)).trans (k4 _ _ (by lia) (k3 _ _ (by lia) (k2 _ _ (by lia) (k1 _ _ (by lia) x))))) ⟨oe,(u5.2 e (nz z4 he ce)).trans he,ce⟩
theorem jY{Q:PySem.Fin->Shared->Prop}{T:Nat}{ot:Obj}{c:Bool}(hA:A.handled=none)(Z:ZS k m s.heap B l r n (rawInt T) (.bool c))(hT:s.heap.get? T=some ot)(hl:Sq k s.heap l xs)(hr:Sq m s.heap r ys)(ll:l < B)(rl:r < B)(hx:xs[n]?=none\/ys[n]?=none)
  (q:∀h' e,KeptZ B s.heap h'->(∃o,h'.get? e=some o/\o.cls=.type "StopIteration")->E (.ref e) { s with heap:=h' }):wpAny (model P w) A (Builtin.«zip.__next__» ⟨[.ref (B+4)],[]⟩) Q E s:=by
 refine wpAny_bind (m:=field (.ref (B+4)) 2) (wpAny_field Z.z rfl (x:=.bool false) rfl ?_)
 refine wpAny_bind (m:=field (.ref (B+4)) 3) (wpAny_field Z.z rfl (x:=.ref (B+2)) rfl (wpAny_bind (wpAny_seqItems Z.ti rfl ?_)))
 refine wpAny_bind (m:=uV (.ref (B+4))) (ZD Z.z hT fun h1 z1 s1 k1=>?_)
 rw[if_neg ux]
 refine wpAny_bind ?_
 rw[<- Array.forIn_toList]
 simp only[List.forIn_cons,List.forIn_nil]
 refine wpAny_bind (wpAny_bind (wpAny_holding (wpAny_bind (m:=uQ (.ref B)) ?_)))
 cases e1:xs[n]? with
 |none=>exact jX hA (Z.i.at fun o=>k1 _ o (by lia)) (hl.at fun o=>k1 _ o (by lia)) e1 fun h2 e u2 he=>q h2 e (fun c o hc x=>u2 _ _ (show(c:Nat)≠B by lia) (k1 _ _ (by lia) x)) he
 |some x =>
  have hy:ys[n]?=none:=hx.resolve_left (by rw[e1];simp)
  refine xu (Z.i.at fun o=>k1 _ o (by lia)) (hl.at fun o=>k1 _ o (by lia)) e1 fun h2 i2 u2=>wpAny_pure (wpAny_pure ?_)
  have k2:∀(c:Nat) o,c≠B->h1.get? c=some o->h2.get? c=some o:=fun c o n e=>(u2.2 c n).trans e
  refine wpAny_bind (wpAny_bind (wpAny_holding (wpAny_bind (m:=uQ (.ref (B+1))) ?_)))
  exact jX hA (Z.j.at fun o e=>k2 _ o (by lia) (k1 _ o (by lia) e)) (hr.at fun o e=>k2 _ o (by lia) (k1 _ o (by lia) e)) hy fun h4 e u4 he=>q h4 e (fun c o hc x=>u4 _ _ (show(c:Nat)≠B+1 by lia) (k2 _ _ (by lia) (k1 _ _ (by lia) x))) he
def ZF(B:Nat)(h:Heap)(f g:Value):Prop:=f=.none\/∃(T:Nat)(c:Bool)(o:Obj),f=rawInt T/\g=.bool c/\h.get? T=some o/\B+5 < T
theorem Vj{Q:Option Value->Shared->Prop}(Z:ZS k m s.heap B l r n f g)(hf:ZF B s.heap f g)(hl:Sq k s.heap l xs)(hr:Sq m s.heap r ys)(ll:l < B)(rl:r < B)(hx:xs[n]?=some x)(hy:ys[n]?=some y)
  (q:∀h' (T:Nat) (c:Bool),ZS k m h' B l r (n+1) (rawInt T) (.bool c)->(T=s.heap.objs.size\/B+5 < T/\∃o,s.heap.get? T=some o)->IsPair h' s.heap.objs.size x y->h'.objs.size=s.heap.objs.size+1->KeptZ B s.heap h'->Q (some (.ref s.heap.objs.size)) { s with heap:=h' }) :
  wpAny (model P w) A (pyNext (.ref (B+4))) Q E s:=by
 have ty:s.TypeIs (.ref (B+4)) "zip":=⟨_,Z.z,rfl⟩
 unfold pyNext
 refine wpAny_bind (wpAny_attempt (wpAny_callSpecial?_slot ty F.slot_zip_next (wpAny_call_entry F.slot_zip_next ty F.entry_zip_next ?_ (F.args_zip_next_1 (.ref (B+4))))))
 rcases hf with rfl|⟨T,c,o,rfl,rfl,hT,lT⟩
 ·exact ZC Z hl hr ll rl hx hy fun h' z p sz kz=>wpAny_pure (q h' _ _ z (.inl rfl) p sz kz)
 ·exact Vi Z hT hl hr ll rl hx hy fun h' z p sz kz=>wpAny_pure (q h' _ _ z (.inr ⟨lT,o,hT⟩) p sz kz)
theorem ZE{Q:Option Value->Shared->Prop}(hA:A.handled=none)(Z:ZS k m s.heap B l r n f g)(hf:ZF B s.heap f g)(hl:Sq k s.heap l xs)(hr:Sq m s.heap r ys)(ll:l < B)(rl:r < B)(hx:xs[n]?=none\/ys[n]?=none)
  (q:∀h',KeptZ B s.heap h'->Q none { s with heap:=h' }):wpAny (model P w) A (pyNext (.ref (B+4))) Q E s:=by
 have ty:s.TypeIs (.ref (B+4)) "zip":=⟨_,Z.z,rfl⟩
 unfold pyNext
 refine wpAny_bind (wpAny_attempt (wpAny_callSpecial?_slot ty F.slot_zip_next (wpAny_call_entry F.slot_zip_next ty F.entry_zip_next ?_ (F.args_zip_next_1 (.ref (B+4))))))
 have fin:∀h' e,KeptZ B s.heap h'->(∃o,h'.get? e=some o/\o.cls=.type "StopIteration")->wpAny (model P w) A (do
   if <- isInstance (.ref e) (.type "StopIteration")then pure none else throw (.ref e)) Q E { s with heap:=h' }:=by
  intro h' e kz ⟨o,ho,hc⟩
  exact wpAny_bind (wpAny_isInstance (T:="StopIteration") (b:=true) ⟨o,ho,hc⟩ isSubtype_stop (wpAny_pure (q _ kz)))
 rcases hf with rfl|⟨T,c,o,rfl,rfl,hT,lT⟩
 ·exact Qx hA Z hl hr ll rl hx fun h' e kz he=>fin h' e kz he
 ·exact jY hA Z hT hl hr ll rl hx fun h' e kz he=>fin h' e kz he
end
structure ZL(k m:Bool)(h0 h:Heap)(B l r n:Nat)(xs ys acc:Array Value)(c:Nat)(f g:Value):Prop where
 zs:ZS k m h B l r n f g
 zf:ZF B h f g
 hl:Sq k h l xs
 hr:Sq m h r ys
 sz:h.objs.size=B+6+n
 lst:h.get? (B+5)=some { cls:=.type "list",data:=.seq acc c }
 asz:acc.size=n
 par:∀i x y,i < n->xs[i]?=some x->ys[i]?=some y->acc[i]?=some (.ref (B+6+i))/\IsPair h (B+6+i) x y
 old:∀(b:Nat) o,b < B->h0.get? b=some o->h.get? b=some o
section
variable{P:Program}{w:World}{A:Around}{R:Result->Shared->Prop}{h0:Heap}{k m:Bool}{B l r N:Nat}{xs ys:Array Value}{res:Value}
theorem ZG(hA:A.handled=none)(ll:l < B)(rl:r < B)(hN:N<=sizeLine)(hx:N<=xs.size)(hy:N<=ys.size)(he:xs.size<=N\/ys.size<=N):∀(d n:Nat)(s:Shared)(acc:Array Value)(c:Nat)(f g:Value),n+d=N->ZL k m h0 s.heap B l r n xs ys acc c f g ->
  (∀h' acc' c',h'.get? (B+5)=some { cls:=.type "list",data:=.seq acc' c' }->acc'.size=N->(∀i x y,i < N->xs[i]?=some x->ys[i]?=some y->acc'[i]?=some (.ref (B+6+i))/\IsPair h' (B+6+i) x y)->(∀(b:Nat) o,b < B->h0.get? b=some o->h'.get? b=some o)->R (.ok (.ret res)) { s with heap:=h' }) ->
  codeAny (model P w) A (.builtin "list.extend.loop" ⟨[.ref (B+5),.ref (B+4),res],[]⟩) R s
 |0,n,s,acc,c,f,g,hd,Z,q=>by
  have e:n=N:=by lia
  subst e
  refine codeAny_builtin F.entry_extend_loop ?_
  rw[Around.under_plainId F.plain_extend_loop _]
  refine wpAny_bind (m:=pyNext (.ref (B+4))) (ZE (A:=A.in1) hA Z.zs Z.zf Z.hl Z.hr ll rl ?_ fun h' kz=>wpAny_pure (q h' acc c (kz _ _ (by lia) Z.lst) Z.asz ?_ fun b o hb x=>kz _ _ (by lia) (Z.old b o hb x)))
  ·rcases he with he|he
   ·exact .inl (Array.getElem?_eq_none (by lia))
   ·exact .inr (Array.getElem?_eq_none (by lia))
  ·intro i x y hi h1 h2
   obtain⟨p1,p2⟩:=Z.par i x y hi h1 h2
   exact⟨p1,kz _ _ (by lia) p2⟩
 |d+1,n,s,acc,c,f,g,hd,Z,q=>by
  refine codeAny_builtin F.entry_extend_loop ?_
  rw[Around.under_plainId F.plain_extend_loop _]
  have hx':n < xs.size:=by lia
  have hy':n < ys.size:=by lia
  refine wpAny_bind (m:=pyNext (.ref (B+4))) (Vj (A:=A.in1) Z.zs Z.zf Z.hl Z.hr ll rl (Array.getElem?_eq_getElem hx') (Array.getElem?_eq_getElem hy') fun h' T ct z hT p sz kz=>?_)
  have s0:=Z.sz
  rw[s0]at p sz
  have l1:h'.get? (B+5)=some { cls:=.type "list",data:=.seq acc c }:=kz _ _ (by lia) Z.lst
  have as:=Z.asz
  have up:∀(b:Nat) o,b≠B+5->h'.get? b=some o->(h'.update (B+5) (Obj.mapSeq (·.push (.ref (B+6+n))))).get? b=some o:=fun b o nb e=>(UL _ _ (Ne.symm nb)).trans e
  rw[s0]
  refine wpAny_bind (m:=updateSeq (B+5) (·.push (.ref (B+6+n)))) (wpAny_updateSeq l1 rfl (wpAny_pure ⟨plainId_quiet F.plain_extend_loop _,ZG hA ll rl hN hx hy he d (n+1) _ (acc.push (.ref (B+6+n))) _ (rawInt T) (.bool ct) (by lia) ⟨?_,?_,?_,?_,?_,UC _ l1 rfl,?_,?_,?_⟩ q⟩) (by lia) (by show(acc.push _).size<=sizeLine+1;rw[Array.size_push];lia))
  ·exact z.at fun b o h1 h2 e=>up b o (by lia) e
  ·rcases hT with e|⟨lT,o,hT⟩
   ·rw[s0]at e
    subst e
    exact .inr ⟨_,ct,_,rfl,rfl,up _ _ (by lia) p,by lia⟩
   ·exact .inr ⟨T,ct,o,rfl,rfl,up _ _ (by lia) (kz _ _ (by lia) hT),lT⟩
  ·exact Z.hl.at fun o e=>up _ o (by lia) (kz _ o (by lia) e)
  ·exact Z.hr.at fun o e=>up _ o (by lia) (kz _ o (by lia) e)
  ·show(h'.update _ _).objs.size=_
   rw[Heap.size_update,sz]
   lia
  ·rw[Array.size_push,as]
  ·intro i x y hi h1 h2
   by_cases c1:i=n
   ·subst c1
    rw[Array.getElem?_eq_getElem hx']at h1
    rw[Array.getElem?_eq_getElem hy']at h2
    cases h1
    cases h2
    refine⟨?_,up _ _ (by lia) p⟩
    rw[Array.getElem?_push,if_pos as.symm]
   ·obtain⟨p1,p2⟩:=Z.par i x y (by lia) h1 h2
    refine⟨?_,up _ _ (by lia) (kz _ _ (by lia) p2)⟩
    rw[Array.getElem?_push,if_neg (by lia)]
    exact p1
  ·exact fun b o hb x=>up _ _ (by lia) (kz _ _ (by lia) (Z.old b o hb x))
end
theorem Qy:typeLookup (.type "zip") "__len__"=pure none:=by rw[typeLookup_type,builtinLookup_eq_fast];kernel_rfl
theorem Vk:typeLookup (.type "zip") "__length_hint__"=pure none:=by rw[typeLookup_type,builtinLookup_eq_fast];kernel_rfl
section
variable{P:Program}{w:World}{A:Around}{E:Value->Shared->Prop}{s:Shared}{k m:Bool}{B l r N:Nat}{xs ys:Array Value}
theorem Vl{Q:Value->Shared->Prop}(hA:A.handled=none)(Z:ZS k m s.heap B l r 0 .none (.bool false))(hl:Sq k s.heap l xs)(hr:Sq m s.heap r ys)(ll:l < B)(rl:r < B)(sz:s.heap.objs.size=B+5)
  (hN:N<=sizeLine) (hx:N<=xs.size) (hy:N<=ys.size) (he:xs.size<=N\/ys.size<=N)
  (q:∀h' acc' c',h'.get? (B+5)=some { cls:=.type "list",data:=.seq acc' c' }->acc'.size=N->(∀i x y,i < N->xs[i]?=some x->ys[i]?=some y->acc'[i]?=some (.ref (B+6+i))/\IsPair h' (B+6+i) x y)->(∀(b:Nat) o,b < B->s.heap.get? b=some o->h'.get? b=some o)->Q (.ref (B+5)) { s with heap:=h' }) :
  wpAny (model P w) A (call (.type "list") [.ref (B+4)]) Q E s:=by
 refine callType_codes (Q₁:=fun obj s₁=>obj=.ref (B+5)/\s₁={ s with heap:=s.heap.push { cls:=.type "list",data:=.seq #[] } }) F.called_list (F.typeCall_list_1 _) F.entry_list_init (code_list_new _ ⟨by rw[sz],rfl⟩) ?_
 rintro obj s1 ⟨rfl,rfl⟩
 have l0:(s.heap.push { cls:=.type "list",data:=.seq #[] }).get? (B+5)=some { cls:=.type "list",data:=.seq #[] }:=by
  rw[<- sz]
  exact uy _ rfl
 have z0:(s.heap.push { cls:=.type "list",data:=.seq #[] }).objs.size=B+6:=by rw[Up,sz]
 have up:∀(b:Nat) o,s.heap.get? b=some o->(s.heap.push { cls:=.type "list",data:=.seq #[] }).get? b=some o:=fun b o e=>ug _ e
 generalize s.heap.push { cls:=.type "list",data:=.seq #[] }=h at l0 z0 up
 refine⟨⟨_,l0,rfl⟩,F.args_list_init_2 _ _,?_⟩
 refine wpAny_bind (m:=Builtin.List.listItems (.ref (B+5))) ?_
 unfold Builtin.List.listItems
 refine wpAny_bind (wpAny_seqItems l0 rfl (wpAny_pure ?_))
 refine wpAny_bind (m:=updateSeq (B+5) (fun _=>#[])) (wpAny_updateSeq l0 rfl ?_)
 have l1:=UC (Obj.mapSeq (fun _=>(#[]:Array Value))) l0 rfl
 have u1:∀(b:Nat) o,b≠B+5->h.get? b=some o->(h.update (B+5) (Obj.mapSeq (fun _=>(#[]:Array Value)))).get? b=some o:=fun b o n e=>(UL _ _ (Ne.symm n)).trans e
 have z1:(h.update (B+5) (Obj.mapSeq (fun _=>(#[]:Array Value)))).objs.size=B+6:=by rw[Heap.size_update,z0]
 refine wpAny_bind (wpAny_letGo ?_)
 show wpAny _ _ (Builtin.List.listExtendWith (.ref (B+5)) (.ref (B+4)) .none) _ _ _
 generalize h.update (B+5) (Obj.mapSeq (fun _=>(#[]:Array Value)))=h1 at l1 u1 z1 ⊢
 replace up:∀(b:Nat) o,b < B+5->s.heap.get? b=some o->h1.get? b=some o:=fun b o n e=>u1 b o (by lia) (up b o e)
 have Z1:ZS k m h1 B l r 0 .none (.bool false):=Z.at fun b o h1 h2 e=>up b o (by lia) e
 unfold Builtin.List.listExtendWith
 refine wpAny_bind (wpAny_typeOf (T:="zip") ⟨_,Z1.z,rfl⟩ ?_)
 have n1:Builtin.List.listSameRef (.ref (B+5)) (.ref (B+4))=false:=by simp[Builtin.List.listSameRef]
 have n2:(Value.type "zip" == Value.type "list" || Value.type "zip" == Value.type "tuple")=false:=by decide
 rw[n1,tW,n2,if_neg ux]
 refine wpAny_bind (wpAny_pyIter_zip Z1.z (wpAny_bind (wpAny_holding ?_)))
 unfold Builtin.List.listLengthHint
 refine wpAny_bind (wpAny_specialOf (T:="zip") ⟨_,Z1.z,rfl⟩ Qy ?_)
 refine wpAny_bind (m:=specialOf (Value.ref (B+4)) (Str.ofString "__length_hint__")) (wpAny_specialOf (T:="zip") ⟨_,Z1.z,rfl⟩ Vk (wpAny_pure ?_))
 refine wpAny_bind (m:=rule "list.extend.makes-room") (wpAny_rule (wpAny_bind ?_))
 refine wpAny_bind (m:=updateSeq (B+5) (·.push .none)) (wpAny_updateSeq l1 rfl ?_)
 have l2:=UC (Obj.mapSeq (·.push Value.none)) l1 rfl
 refine wpAny_updateSeq (a:=B+5) (f:=(·.pop)) (hz:=by seq_fits) l2 rfl ?_
 have l3:=UC (Obj.mapSeq (·.pop)) l2 rfl
 have u3:∀(b:Nat) o,b≠B+5->h1.get? b=some o->((h1.update (B+5) (Obj.mapSeq (·.push Value.none))).update (B+5) (Obj.mapSeq (·.pop))).get? b=some o:=fun b o n e=>(UL _ _ (Ne.symm n)).trans ((UL _ _ (Ne.symm n)).trans e)
 refine wpAny_pure ⟨plainId_quiet F.plain_extend_loop _,ZG (h0:=s.heap) (A:=A.in1) (acc:=#[]) hA ll rl hN hx hy he N 0 _ _ .none (.bool false) (by lia) ⟨Z1.at fun b o h1 h2 e=>u3 b o (by lia) e,.inl rfl,?_,?_,?_,l3,rfl,?_,?_⟩ ?_⟩
 ·exact hl.at fun o e=>u3 _ o (by lia) (up _ o (by lia) e)
 ·exact hr.at fun o e=>u3 _ o (by lia) (up _ o (by lia) e)
 ·show(Heap.update (Heap.update _ _ _) _ _).objs.size=_
  rw[Heap.size_update,Heap.size_update,z1]
 ·intro i x y hi
  lia
 ·exact fun b o hb e=>u3 _ _ (by lia) (up _ _ (by lia) e)
 ·exact fun h' acc' c' h1 h2 h3 h4=>⟨rfl,q h' acc' c' h1 h2 h3 h4⟩
end
theorem jh(g:Nat->Nat):∀l:List Nat,Vals (l.map fun i=>V.ref (g i)) (l.map fun i=>Value.ref (g i))
 |[]=>.nil
 |i::l=>.cons rfl (jh g l)
def hpZ(H:Hp)(B N:Nat)(f:Nat->List V):Hp:=fun(b:Nat)=>if b=B+5 then some (.lst ((uE N).map fun i=>V.ref (B+6+i)))else if B+6<=b/\b < B+6+N then some (.tup (f (b-(B+6))))else H b
theorem xa{H:Hp}{B N:Nat}{f:Nat->List V}{b:Nat}(h:b < B+5):hpZ H B N f b=H b:=by
 unfold hpZ
 rw[if_neg (by lia),if_neg (by lia)]
theorem Xi{H:Hp}{B N:Nat}{f:Nat->List V}:hpZ H B N f (B+5)=some (.lst ((uE N).map fun i=>V.ref (B+6+i))):=if_pos rfl
theorem Xj{H:Hp}{B N:Nat}{f:Nat->List V}{i:Nat}(h:i < N):hpZ H B N f (B+6+i)=some (.tup (f i)):=by
 unfold hpZ
 rw[if_neg (by lia),if_pos (by lia)]
 rw[show B+6+i-(B+6)=i by lia]
theorem Inv.zipped{X:Cx}{pins:List (Addr×Obj)}{σ:St}{H:Hp}{s:Shared}{h':Heap}{B N:Nat}{f:Nat->List V}{us:Nat->Array Value}{acc:Array Value}{c:Nat}(I:Inv X pins σ H s)(hB:s.heap.objs.size=B)(k:∀(b:Nat) o,b < B->s.heap.get? b=some o->h'.get? b=some o)
  (hl:h'.get? (B+5)=some { cls:=.type "list",data:=.seq acc c }) (hN:N<=sizeLine) (hs:acc.size=N) (ha:∀i,i < N->acc[i]?=some (.ref (B+6+i))) (ht:∀i,i < N->(f i).length<=sizeLine/\Vals (f i) (us i).toList/\h'.get? (B+6+i)=some { cls:=.type "tuple",data:=.seq (us i) }) :
  Inv X pins σ (hpZ H B N f) { s with heap:=h' }:=by
 have lt:∀{b:Nat}{u},H b=some u->b < B:=fun e=>by rw[<- hB];exact I.hok.lt e
 have lt':∀{b:Nat}{o},s.heap.get? b=some o->b < B:=fun e=>by rw[<- hB];exact uw e
 refine I.un (t':=s.toks) ⟨fun b o e _ _ _=>k b o (lt' e) e,fun b o e _ _ _=>⟨o.slots,k b o (lt' e) e⟩,fun b o e n _=>by rw[xa (by have:=lt' e;lia)];exact n,fun b o e _=>⟨o,k b o (lt' e) e⟩,
  fun b xs e=>by rw[xa (by have:=lt e;lia)];exact e,fun b u xs e=>by rw[xa (by have:=lt e;lia)];exact e,fun b ps e=>⟨#[],by rw[xa (by have:=lt e;lia),e];simp⟩⟩ fun(b:Nat) u e=>?_
 by_cases c1:b=B+5
 ·subst c1
  rw[Xi]at e
  cases e
  refine⟨by simpa using hN,acc.toList,c,?_,by simpa using hl⟩
  have e2:acc.toList=(uE N).map fun i=>Value.ref (B+6+i):=by
   apply List.ext_getElem?
   intro i
   by_cases hi:i < N
   ·have:=ha i hi
    simp[hi]
    simpa using this
   ·simp[hi]
    lia
  rw[e2]
  exact jh _ _
 ·by_cases c2:B+6<=b/\b < B+6+N
  ·obtain⟨i,rfl⟩:∃i,b=B+6+i:=⟨b-(B+6),by lia⟩
   have hi:i < N:=by lia
   rw[Xj hi]at e
   cases e
   obtain⟨t1,t2,t3⟩:=ht i hi
   exact⟨t1,(us i).toList,t2,⟨_,t3,rfl,rfl,0,rfl⟩⟩
  ·have e':H b=some u:=by
    unfold hpZ at e
    rw[if_neg c1,if_neg c2]at e
    exact e
   exact(I.hok b u e').stay (fun d v _ q=>k d v (lt' q) q) (fun d q=>by rw[xa (by have:=lt q;lia)];exact q) fun d xs q=>by rw[xa (by have:=lt q;lia)];exact q
def zcY(K:ub):List V->Hp->VK->Prop:=fun vs H Q=>∃a b xs ys,vs=[.ref a,.ref b]/\(SqL K H a xs\/SqT K H a xs)/\(SqL K H b ys\/SqT K H b ys) /\
 ∀(H':Hp)(p:Addr)(ps:List Addr),Same H H'->H p=none->H' p=some (.lst (ps.map V.ref))->ps.length=min xs.length ys.length->(∀t∈ps,H t=none/\t≠p)->ps.Nodup->(∀(i:Nat) x y,xs[i]?=some x->ys[i]?=some y->∃t,ps[i]?=some t/\H' t=some (.tup [x,y]))->Q (.ref p) H'
def zaX(K:ub)(ta:TA):TE:=fun σ H Q=>ta σ H fun vs H1=>zcY K vs H1 Q
theorem Inv.sq{X:Cx}{pins:List (Addr×Obj)}{σ:St}{H:Hp}{s:Shared}{a:Addr}{xs:List V}(I:Inv X pins σ H s)(h:SqL X.K H a xs\/SqT X.K H a xs):∃(k:Bool)(its:List Value),Vals xs its/\Sq k s.heap a its.toArray/\xs.length<=sizeLine/\(a:Nat) < s.heap.objs.size:=by
 rcases h with h|h
 ·obtain⟨its,r,p,z⟩:=I.list h
  have⟨o,n,e,_⟩:=p
  exact⟨true,its,r,p.isList,z,uw e⟩
 ·obtain⟨its,r,p,z⟩:=I.tuple h
  have⟨o,e,_⟩:=p
  exact⟨false,its,r,p,z,uw e⟩
section
variable{X:Cx}{a b:Expr}{ta:TA}{p1 p2 pos1 pos2:Pos}
theorem Qz(hc:X.calm=true)(hgL:Gl X "list")(hmL:X.mg "list"=none)(hgZ:Gl X "zip")(hmZ:X.mg "zip"=none)(ha:PA X [a,b] ta)
  (h1:starEach [a,b] X.env=[(false,eval a X.env),(false,eval b X.env)]:=by rfl) (h2:starEach [b] X.env=[(false,eval b X.env)]:=by rfl):PE X (.Call (.Name "list" p1) [.Call (.Name "zip" p2) [a,b] [] pos2] [] pos1) (zaX X.K ta):=by
 intro pins s σ H Q I h
 refine Call_ (yZ I hgL hmL PyProof.Rows.boot_list (Ud (Calls.spliced_cons (Call_ (yZ I hgZ hmZ boot_zip (Ud (thn (ha pos2 pins s σ H _ I h) fun us s1 g=>?_) (by rw[h1,h2]) (by rw[h2];rfl))))) rfl rfl))
 obtain⟨vs,H1,I1,r1,a1,b1,xs,ys,rfl,hq1,hq2,q⟩:=g
 obtain⟨u,u',rfl,e1,e2⟩:=WU r1
 cases e1
 cases e2
 obtain⟨k1,i1,v1,q1,z1,l1⟩:=I1.sq hq1
 obtain⟨k2,i2,v2,q2,z2,l2⟩:=I1.sq hq2
 refine ZB q1 q2 fun h' Z sz kp=>Calls.spliced_nil ?_
 have hh:X.A.handled=none:=I1.ok.hd hc
 have n1:=v1.length
 have n2:=v2.length
 refine Vl (s:={ s1 with heap:=h' }) (N:=min xs.length ys.length) hh Z (q1.at fun o=>kp _ o) (q2.at fun o=>kp _ o) l1 l2 sz (by lia) (by rw[ut];lia) (by rw[ut];lia) (by rw[ut,ut];lia) fun h'' acc c hl hs hp ho=>?_
 have pairs:∀i,i < min xs.length ys.length->∃x y u v,xs[i]?=some x/\ys[i]?=some y/\i1[i]?=some u/\i2[i]?=some v/\RelV x u/\RelV y v:=fun i hi=>by
  have c1:i < xs.length:=by lia
  have c2:i < ys.length:=by lia
  obtain⟨u,e1,r1⟩:=v1.get (uk c1)
  obtain⟨v,e2,r2⟩:=v2.get (uk c2)
  exact⟨_,_,u,v,uk c1,uk c2,e1,e2,r1,r2⟩
 have I2:Inv X pins σ (hpZ H1 s1.heap.objs.size (min xs.length ys.length) fun i=>[xs.getD i .non,ys.getD i .non]) { s1 with heap:=h'' }:=by
  refine I1.zipped (us:=fun i=>#[i1.getD i .none,i2.getD i .none]) (acc:=acc) (c:=c) rfl (fun b o hb e=>ho b o hb (kp _ _ e)) hl (by lia) hs (fun i hi=>?_) fun i hi=>?_
  ·obtain⟨x,y,u,v,_,_,e1,e2,_⟩:=pairs i hi
   exact(hp i u v hi (by simpa using e1) (by simpa using e2)).1
  ·obtain⟨x,y,u,v,f1,f2,e1,e2,r1,r2⟩:=pairs i hi
   refine⟨sN2,?_,?_⟩
   ·rw[uW,uW,f1,f2]
    rw[uW,uW,e1,e2]
    exact .cons r1 (.cons r2 .nil)
   ·rw[uW,uW,e1,e2]
    exact(hp i u v hi (by simpa using e1) (by simpa using e2)).2
 have old:∀{c:Nat}{o},H1 c=some o->c < s1.heap.objs.size:=fun e=>I1.hok.lt e
 refine⟨.ref (s1.heap.objs.size+5),_,I2,rfl,q _ _ ((uE (min xs.length ys.length)).map fun i=>s1.heap.objs.size+6+i) (fun c o e=>?_) (I1.hok.fresh (Ux _ _)) ?_ (by simp) ?_ ?_ ?_⟩
 ·rw[xa (by have:=old e;lia)]
  exact e
 ·rw[Xi,tQ]
  rfl
 ·intro t ht
  obtain⟨i,_,rfl⟩:=uC.mp ht
  refine⟨I1.hok.fresh ?_,?_⟩
  ·show s1.heap.objs.size<=s1.heap.objs.size+6+i
   lia
  ·show s1.heap.objs.size+6+i≠s1.heap.objs.size+5
   lia
 ·refine List.Pairwise.map _ (fun i j (ne:i≠j) e=>ne ?_) List.nodup_range
  have e':s1.heap.objs.size+6+i=s1.heap.objs.size+6+j:=e
  exact Nat.add_left_cancel e'
 ·intro i x y hx hy
  have c1:i < xs.length:=(uc.mp hx).1
  have c2:i < ys.length:=(uc.mp hy).1
  refine⟨s1.heap.objs.size+6+i,?_,?_⟩
  ·rw[ue,tE (by lia)]
   rfl
  ·rw[Xj (by lia),uW,uW,hx,hy]
   rfl
theorem wS(hc:X.calm=true)(hgL:Gl X "list")(hmL:X.mg "list"=none)(hgZ:Gl X "zip")(hmZ:X.mg "zip"=none)(ha:jA X [a,b] ta)(h1:zw a=false:=by rfl)(h2:zw b=false:=by rfl):
  jE X (.Call (.Name "list" p1) [.Call (.Name "zip" p2) [a,b] [] pos2] [] pos1) (zaX X.K ta):=⟨Qz hc hgL hmL hgZ hmZ ha.out (by rw[zC h1,zC h2];rfl) (by rw[zC h2];rfl)⟩
end
def SqK(k:Bool)(K:ub)(H:Hp)(a:Addr)(xs:List V):Prop:=match k with
 |true=>SqL K H a xs
 |false=>SqT K H a xs
theorem Inv.sqk{X:Cx}{pins:List (Addr×Obj)}{σ:St}{H:Hp}{s:Shared}{k:Bool}{a:Addr}{xs:List V}(I:Inv X pins σ H s)(h:SqK k X.K H a xs):∃its:List Value,Vals xs its/\Sq k s.heap a its.toArray/\xs.length<=sizeLine/\(a:Nat) < s.heap.objs.size:=by
 cases k with
 |true =>
  obtain⟨its,r,p,z⟩:=I.list h
  have⟨o,n,e,_⟩:=p
  exact⟨its,r,p.isList,z,uw e⟩
 |false =>
  obtain⟨its,r,p,z⟩:=I.tuple h
  have⟨o,e,_⟩:=p
  exact⟨its,r,p,z,uw e⟩
theorem Inv.sqk_inj{X:Cx}{pins:List (Addr×Obj)}{σ:St}{H:Hp}{s:Shared}{k:Bool}{a:Addr}{xs ys:List V}(I:Inv X pins σ H s)(h:SqK k X.K H a xs)(h':SqK k X.K H a ys):xs=ys:=by
 cases k with
 |true=>exact I.list_inj h h'
 |false=>exact I.tuple_inj h h'
def Itz(K:ub)(k m:Bool)(a b:Addr):It :=
 ⟨fun i H=>∃xs ys x y,SqK k K H a xs/\SqK m K H b ys/\xs[i]?=some x/\ys[i]?=some y,
   fun i H v H'=>∃T x y,v=.ref T/\H T=none/\H'=upd H T (.tup [x,y])/\(∀xs,SqK k K H a xs->xs[i]?=some x)/\∀ys,SqK m K H b ys->ys[i]?=some y,
   fun i H=>∃xs ys,SqK k K H a xs/\SqK m K H b ys/\(xs.length<=i\/ys.length<=i)⟩
theorem KeptZ.of{B:Nat}{h h':Heap}(z:KeptZ B h h'):∀(b:Nat) o,b∉[B,B+1,B+2,B+3,B+4]->h.get? b=some o->h'.get? b=some o:=fun b o n e=>z b o (by simp only[um,UI,or_false,not_or]at n;lia) e
theorem Xk{k m:Bool}{h:Heap}{B l r n:Nat}{f g:Value}(Z:ZS k m h B l r n f g):∀b∈[B,B+1,B+2,B+3,B+4],∃o,h.get? b=some o/\∀v,o.data≠.cell v:=by
 intro b hb
 simp only[um,UI,or_false]at hb
 rcases hb with rfl|rfl|rfl|rfl|rfl
 ·obtain⟨o,e,_,d⟩:=Z.i.ex
  exact⟨o,e,fun v z=>by rw[d]at z;cases z⟩
 ·obtain⟨o,e,_,d⟩:=Z.j.ex
  exact⟨o,e,fun v z=>by rw[d]at z;cases z⟩
 ·exact⟨_,Z.ti,fun v z=>by cases z⟩
 ·obtain⟨x,y,e⟩:=Z.to
  exact⟨_,e,fun v z=>by cases z⟩
 ·exact⟨_,Z.z,fun v z=>by cases z⟩
theorem Vm{P:Program}{w:World}{K:ub}{elts:List Expr}{n:Nat}{pos:Pos}{k m:Bool}{a b:Addr}{B:Nat}(la:(a:Nat) < B)(lb:(b:Nat) < B):
  Turn P w K (.Tuple elts n pos) (Itz K k m a b) [B,B+1,B+2,B+3,B+4] (B+4) (fun i h=>ZS k m h B a b i .none (.bool false)) where
 mem:=by simp
 obj:=fun i h st=>Xk st
 keep:=fun i h h' st kp=>st.at fun c o h1 h2 e=>kp c (by
  have:c=B\/c=B+1\/c=B+2\/c=B+3\/c=B+4:=by lia
  simpa using this) o e
 item:=by
  intro X hP hw hK hc i pins s σ H E I hf st hg
  subst hP hw hK
  obtain⟨xs,ys,x,y,h1,h2,hx,hy⟩:=hg
  obtain⟨i1,v1,q1,z1,l1⟩:=I.sqk h1
  obtain⟨i2,v2,q2,z2,l2⟩:=I.sqk h2
  obtain⟨u,eu,ru⟩:=v1.get hx
  obtain⟨v,ev,rv⟩:=v2.get hy
  have ty:s.TypeIs (.ref (B+4)) "zip":=⟨_,st.z,rfl⟩
  unfold pyNext
  refine wpAny_bind (wpAny_attempt (wpAny_callSpecial?_slot ty F.slot_zip_next (wpAny_call_entry F.slot_zip_next ty F.entry_zip_next ?_ (F.args_zip_next_1 (.ref (B+4))))))
  refine ZC st q1 q2 la lb (by simpa using eu) (by simpa using ev) fun h' z p sz kz=>wpAny_pure ⟨_,rfl,?_⟩
  have new:ObjOk X.prog X.w (upd H s.heap.objs.size (.tup [x,y])) h' s.heap.objs.size (.tup [x,y]):=⟨sN2,[u,v],.cons ru (.cons rv .nil),⟨_,p,rfl,rfl,_,rfl⟩⟩
  have I1:Inv X pins σ (upd H s.heap.objs.size (.tup [x,y])) { s with heap:=h' }:=I.turnsLaid (t':=s.toks) (ch:=[B,B+1,B+2,B+3,B+4]) kz.of hf (ud _) new
  have hn:∀c∈[B,B+1,B+2,B+3,B+4],upd H s.heap.objs.size (.tup [x,y]) c=none:=fun c hc=>by
   obtain⟨o,e,_⟩:=Xk st c hc
   rw[zi (uS (uw e))]
   exact(hf c hc).1
  have hf1:∀c∈[B,B+1,B+2,B+3,B+4],FpOk X pins (upd H s.heap.objs.size (.tup [x,y])) c:=fun c hc=>⟨hn c hc,(hf c hc).2⟩
  refine wpAny_letOwnedTupleGo_zip z.z fun h3 z2 u2=>?_
  have I2:Inv X pins σ (upd H s.heap.objs.size (.tup [x,y])) { s with heap:=h3 }:=Inv.turns (s:={ s with heap:=h' }) (t':=s.toks) (ch:=[B,B+1,B+2,B+3,B+4]) I1 (fun c o hc e=>(u2.2 c fun z=>hc (by simp[z])).trans e) hf1
  refine⟨.ref s.heap.objs.size,_,I2,rfl,⟨_,x,y,rfl,I.fresh,rfl,fun zs hz=>by rw[I.sqk_inj hz h1];exact hx,fun zs hz=>by rw[I.sqk_inj hz h2];exact hy⟩,?_,hn⟩
  have up:∀(c:Nat) o,c≠B+4->h'.get? c=some o->h3.get? c=some o:=fun c o n e=>(u2.2 c n).trans e
  exact⟨z2,up _ _ (by lia) z.ti,let ⟨c,d,e⟩:=z.to;⟨c,d,up _ _ (by lia) e⟩,z.i.at fun o e=>up _ _ (by lia) e,z.j.at fun o e=>up _ _ (by lia) e⟩
 done:=by
  intro X hP hw hK hc i pins s σ H E I hf st hg
  subst hP hw hK
  obtain⟨xs,ys,h1,h2,hl⟩:=hg
  obtain⟨i1,v1,q1,z1,l1⟩:=I.sqk h1
  obtain⟨i2,v2,q2,z2,l2⟩:=I.sqk h2
  have n1:=v1.length
  have n2:=v2.length
  refine ZE (I.ok.hd hc) st (.inl rfl) q1 q2 la lb ?_ fun h' kz=>⟨rfl,I.turns (t':=s.toks) (ch:=[B,B+1,B+2,B+3,B+4]) kz.of hf⟩
  rcases hl with hl|hl
  ·exact .inl (by simp;lia)
  ·exact .inr (by simp;lia)
 self:=fun _ _ _ _ _ st h=>by
  have ty:Shared.TypeIs _ (.ref (B+4)) "zip":=⟨_,st.z,rfl⟩
  exact wpAny_pyIter_slot ty F.slot_zip_iter (wpAny_call_entry F.slot_zip_iter ty F.entry_zip_iter (wpAny_pure ⟨_,rfl,"zip",_,ty,F.slot_zip_next.lookup,h⟩) (F.args_zip_iter_1 (.ref (B+4))))
section
variable{X:Cx}{elts:List Expr}{n:Nat}{tpos:Pos}
def iZip(K:ub)(ta:TA):TI:=fun σ H R=>ta σ H fun vs H1=>∃a b k m xs ys,vs=[.ref a,.ref b]/\SqK k K H1 a xs/\SqK m K H1 b ys/\R (Itz K k m a b) H1
theorem zbV{a b:Expr}{ta:TA}{p pos:Pos}(hg:Gl X "zip")(hm:X.mg "zip"=none)(ha:PA X [a,b] ta)(h1:starEach [a,b] X.env=[(false,eval a X.env),(false,eval b X.env)]:=by rfl)(h2:starEach [b] X.env=[(false,eval b X.env)]:=by rfl):
  PI X (.Tuple elts n tpos) (.Call (.Name "zip" p) [a,b] [] pos) (iZip X.K ta):=by
 intro pins s σ H R I h
 refine Call_ (yZ I hg hm boot_zip (Ud (thn (ha pos pins s σ H _ I h) fun us s1 g=>?_) (by rw[h1,h2]) (by rw[h2];rfl)))
 obtain⟨vs,H1,I1,r1,a1,b1,k,m,xs,ys,rfl,g1,g2,q⟩:=g
 obtain⟨u,u',rfl,e1,e2⟩:=WU r1
 cases e1
 cases e2
 obtain⟨i1,v1,q1,z1,l1⟩:=I1.sqk g1
 obtain⟨i2,v2,q2,z2,l2⟩:=I1.sqk g2
 refine ZB q1 q2 fun h' Z sz kp=>?_
 have tz:=Vm (P:=X.prog) (w:=X.w) (K:=X.K) (elts:=elts) (n:=n) (pos:=tpos) (k:=k) (m:=m) l1 l2
 refine tz.self X.A 0 { s1 with heap:=h' } _ _ Z ⟨s1.heap.objs.size+4,_,_,_,H1,rfl,I1.kept (t':=s1.toks) kp,tz,Z,fun c hc=>?_,q⟩
 have hc':c=s1.heap.objs.size\/c=s1.heap.objs.size+1\/c=s1.heap.objs.size+2\/c=s1.heap.objs.size+3\/c=s1.heap.objs.size+4:=by simpa using hc
 have le:s1.heap.objs.size<=c:=by
  rcases hc' with e|e|e|e|e<;>rw[e]<;>first|exact ud _|exact Ux _ _
 exact I1.fpOk le (I1.hok.fresh le)
theorem Vn{a b:Expr}{t:TA}{p pos:Pos}(hg:Gl X "zip")(hm:X.mg "zip"=none)(ha:jA X [a,b] t)(h1:zw a=false:=by rfl)(h2:zw b=false:=by rfl):jI X (.Tuple elts n tpos) (.Call (.Name "zip" p) [a,b] [] pos) (iZip X.K t) :=
 ⟨zbV hg hm ha.out (by rw[zC h1,zC h2];rfl) (by rw[zC h2];rfl)⟩
end
structure Ca(P:Program)(w:World)(K:ub)(mg:Str->Option Value)(base:Heap)(CX:CXT)(k:Nat)(x:Str)(ps:List Str)(sp:Sp):Prop where
 ex:∃f fd,FnOk P w K mg base CX k f fd ps sp/\Binds K fd ps []/\uY K (.ref f)=true/\mg x=some (.ref f)
structure Me(P:Program)(w:World)(K:ub)(mg:Str->Option Value)(base:Heap)(CX:CXT)(k:Nat)(C:Addr)(m:Str)(ps:List Str)(sp:Sp):Prop where
 ex:∃f fd,FnOk P w K mg base CX k f fd ps sp/\Binds K fd ps []/\Meth K C m f
structure Ma(P:Program)(w:World)(K:ub)(mg:Str->Option Value)(base:Heap)(CX:CXT)(k:Nat)(x:Str)(C:Addr)(ps:List Str)(sp:Sp):Prop where
 ex:∃f fd,Mk K C f/\FnOk P w K mg base CX k f fd ps sp/\Binds K fd ps []/\mg x=some (.ref C)
section
variable{P:Program}{w:World}{K:ub}{mg:Str->Option Value}{base:Heap}{CX:CXT}{k j:Nat}{x m:Str}{C:Addr}{ps:List Str}{sp sp':Sp}
end
section
variable{X:Cx}{CX:CXT}{k i:Nat}{C:Addr}{ps:List Str}{sp:Sp}{E:XK}{x m n f:Str}{p pos apos cpos np pos' epos hpos tpos:Pos}{e o a value:Expr}{es as:List Expr}{ta te tv to t1 t2:TE}{t:TA}
theorem zcZ(F:Ca X.prog X.w X.K X.mg X.base CX k x ps sp)(hr:Room k X.A)(hg:Gl X x)(hx:yt CX X E)(ha:jA X (e::es) t)(hdb:(x == ("__debug__":Str))=false:=by decide)(h1:zw e=false:=by rfl)(h2:es.all (fun e=>!zw e)=true:=by rfl):
  jE X (.Call (.Name x p) (e::es) [] pos) (Zs sp [] E t):=let ⟨_,_,G,b,kp,mg⟩:=F.ex;zcW G hr hg mg kp b .nil hx ha hdb h1 h2
theorem ZH{pl:Sem Bool}(he:jE X o ta)(c:Cls X.K C)(F:Me X.prog X.w X.K X.mg X.base CX k C m ps sp)(hr:Room k X.A)(hx:yt CX X E)(ha:jA X (e::es) t)(h1:zw e=false:=by rfl)(h2:es.all (fun e=>!zw e)=true:=by rfl)
  (ht:eval (.Call (.Attribute o m apos) (e::es) [] pos) X.env=(do
   let ov <- eval o X.env
   standAt apos.atName
   let (f,first) <- holding [ov] (getMethod ov m pl)
   callWith pos f first (backTo pos (starEach (e::es) X.env)) (backToKw pos (keywordEach [] X.env))):=by rfl) :
  jE X (.Call (.Attribute o m apos) (e::es) [] pos) (zaN C m sp [] E ta t):=let ⟨_,_,G,b,mt⟩:=F.ex;⟨Qe he.out c mt G hr b .nil hx ha.out (zC h1) (yo h2) ht⟩
theorem zaY(F:Ma X.prog X.w X.K X.mg X.base CX k x C ps sp)(hr:Room (k+1) X.A)(hg:Gl X x)(hx:yt CX X E)(ha:jA X (e::es) t)(hdb:(x == ("__debug__":Str))=false:=by decide)(h1:zw e=false:=by rfl)(h2:es.all (fun e=>!zw e)=true:=by rfl):
  jE X (.Call (.Name x p) (e::es) [] pos) (Y6 C sp [] E t):=let ⟨_,_,M,G,b,mg⟩:=F.ex;⟨Qf M G hr hg mg b .nil hx ha.out hdb (zC h1) (yo h2)⟩
theorem yA(he:jE X e ta)(hb:attributeBase e f X.env (eval e X.env)=eval e X.env:=by rfl):jE X (.Attribute e f pos) (tFld X.K ta f):=⟨zbC he.out hb⟩
theorem wq(ha:jE X o ta)(hv:jE X value tv)(hs:swapsWith value (some (.Attribute o f pos')) pos.line X.env=pure false:=by rfl):jS X (.Assign [.Attribute o f pos'] value pos) (sFld X.K ta tv f):=⟨zbD ha.out hv.out hs⟩
end
end L2
namespace L2
open PySem
section
variable{X:Cx}{x:Str}{pos p q p2:Pos}
theorem jA1{e1:Expr}{t1:TE}(h1:jE X e1 t1)(s1:zw e1=false:=by rfl):jA X [e1] (zU t1 tNil):=(ja_c h1 zD s1)
theorem jA2{e1:Expr}{t1:TE}{e2:Expr}{t2:TE}(h1:jE X e1 t1)(h2:jE X e2 t2)(s1:zw e1=false:=by rfl)(s2:zw e2=false:=by rfl):jA X [e1,e2] (zU t1 (zU t2 tNil)):=(ja_c h1 (ja_c h2 zD s2) s1)
theorem jA3{e1:Expr}{t1:TE}{e2:Expr}{t2:TE}{e3:Expr}{t3:TE}(h1:jE X e1 t1)(h2:jE X e2 t2)(h3:jE X e3 t3)(s1:zw e1=false:=by rfl)(s2:zw e2=false:=by rfl)(s3:zw e3=false:=by rfl):jA X [e1,e2,e3] (zU t1 (zU t2 (zU t3 tNil))):=(ja_c h1 (ja_c h2 (ja_c h3 zD s3) s2) s1)
theorem jA4{e1:Expr}{t1:TE}{e2:Expr}{t2:TE}{e3:Expr}{t3:TE}{e4:Expr}{t4:TE}(h1:jE X e1 t1)(h2:jE X e2 t2)(h3:jE X e3 t3)(h4:jE X e4 t4)(s1:zw e1=false:=by rfl)(s2:zw e2=false:=by rfl)(s3:zw e3=false:=by rfl)(s4:zw e4=false:=by rfl):jA X [e1,e2,e3,e4] (zU t1 (zU t2 (zU t3 (zU t4 tNil)))):=(ja_c h1 (ja_c h2 (ja_c h3 (ja_c h4 zD s4) s3) s2) s1)
theorem jA5{e1:Expr}{t1:TE}{e2:Expr}{t2:TE}{e3:Expr}{t3:TE}{e4:Expr}{t4:TE}{e5:Expr}{t5:TE}(h1:jE X e1 t1)(h2:jE X e2 t2)(h3:jE X e3 t3)(h4:jE X e4 t4)(h5:jE X e5 t5)(s1:zw e1=false:=by rfl)(s2:zw e2=false:=by rfl)(s3:zw e3=false:=by rfl)(s4:zw e4=false:=by rfl)(s5:zw e5=false:=by rfl):jA X [e1,e2,e3,e4,e5] (zU t1 (zU t2 (zU t3 (zU t4 (zU t5 tNil))))):=(ja_c h1 (ja_c h2 (ja_c h3 (ja_c h4 (ja_c h5 zD s5) s4) s3) s2) s1)
theorem jA6{e1:Expr}{t1:TE}{e2:Expr}{t2:TE}{e3:Expr}{t3:TE}{e4:Expr}{t4:TE}{e5:Expr}{t5:TE}{e6:Expr}{t6:TE}(h1:jE X e1 t1)(h2:jE X e2 t2)(h3:jE X e3 t3)(h4:jE X e4 t4)(h5:jE X e5 t5)(h6:jE X e6 t6)(s1:zw e1=false:=by rfl)(s2:zw e2=false:=by rfl)(s3:zw e3=false:=by rfl)(s4:zw e4=false:=by rfl)(s5:zw e5=false:=by rfl)(s6:zw e6=false:=by rfl):jA X [e1,e2,e3,e4,e5,e6] (zU t1 (zU t2 (zU t3 (zU t4 (zU t5 (zU t6 tNil)))))):=(ja_c h1 (ja_c h2 (ja_c h3 (ja_c h4 (ja_c h5 (ja_c h6 zD s6) s5) s4) s3) s2) s1)
theorem jA7{e1:Expr}{t1:TE}{e2:Expr}{t2:TE}{e3:Expr}{t3:TE}{e4:Expr}{t4:TE}{e5:Expr}{t5:TE}{e6:Expr}{t6:TE}{e7:Expr}{t7:TE}(h1:jE X e1 t1)(h2:jE X e2 t2)(h3:jE X e3 t3)(h4:jE X e4 t4)(h5:jE X e5 t5)(h6:jE X e6 t6)(h7:jE X e7 t7)(s1:zw e1=false:=by rfl)(s2:zw e2=false:=by rfl)(s3:zw e3=false:=by rfl)(s4:zw e4=false:=by rfl)(s5:zw e5=false:=by rfl)(s6:zw e6=false:=by rfl)(s7:zw e7=false:=by rfl):jA X [e1,e2,e3,e4,e5,e6,e7] (zU t1 (zU t2 (zU t3 (zU t4 (zU t5 (zU t6 (zU t7 tNil))))))):=(ja_c h1 (ja_c h2 (ja_c h3 (ja_c h4 (ja_c h5 (ja_c h6 (ja_c h7 zD s7) s6) s5) s4) s3) s2) s1)
theorem cA{k:Nat}{ps:List Str}{sp:Sp}{e:Expr}{es:List Expr}{t:TA}(F:Ca X.prog X.w X.K X.mg X.base CX0 k x ps sp)(hr:Room k X.A)(ha:jA X (e::es) t)(hg:Gl X x:=by rfl)(hdb:(x == ("__debug__":Str))=false:=by decide)(h1:zw e=false:=by rfl)(h2:es.all (fun e=>!zw e)=true:=by rfl):jE X (.Call (.Name x p) (e::es) [] pos) (Zs sp [] E0 t):=zcZ F hr hg xi ha hdb h1 h2
theorem xX{r:R2}{a b:Expr}{ta tb:TE}(hr:jIx X r)(ha:jE X a ta)(hb:jE X b tb)(hs:jJ b:=by exact fun _ _=>rfl):jE X (.Subscript a b pos) (tOp r ta tb):=zT hr ha hb hs
theorem xT(i:Nat){n j}(hN:X.N[i]?=some x:=by rfl)(hv:Vis X.env.scope x:=by first|exact Or.inl rfl|exact Or.inr (Or.inl rfl)|exact Or.inr (Or.inr rfl))(hd:(x == ("__debug__":Str))=false:=by decide)(hcd:(x == ("__classdict__":Str))=false:=by decide):jE X (.Subscript (.Name x p) (.Constant (.int n) j q) pos) (tOp (rIxT X.K) (tVar i) (tC (.int n))):=zT zY (jv i hN hv hd hcd) zj (fun _ _=>rfl)
theorem xL(i:Nat){n j}(hN:X.N[i]?=some x:=by rfl)(hv:Vis X.env.scope x:=by first|exact Or.inl rfl|exact Or.inr (Or.inl rfl)|exact Or.inr (Or.inr rfl))(hd:(x == ("__debug__":Str))=false:=by decide)(hcd:(x == ("__classdict__":Str))=false:=by decide):jE X (.Subscript (.Name x p) (.Constant (.int n) j q) pos) (tOp (rIxL X.K) (tVar i) (tC (.int n))):=zT zH (jv i hN hv hd hcd) zj (fun _ _=>rfl)
theorem sE{e:Expr}{te:TE}(i:Nat)(hN:X.N.Nodup)(he:jE X e te)(hi:X.N[i]?=some x:=by rfl)(hx:Loc X.env.scope x:=by first|exact Or.inl rfl|exact Or.inr rfl)(hs:swapsWith e (some (.Name x q)) pos.line X.env=pure false:=by rfl)(hf:X.fn x=true\/X.env.scope.names.lookup x=some .local:=by first|exact .inl rfl|exact .inr rfl|assumption):jS X (.Assign [.Name x q] e pos) (tAsg te (xg i)):=zbR hN hi hx he hs hf
theorem gN(i:Nat)(hN:X.N.Nodup)(hi:X.N[i]?=some x:=by rfl)(hx:Loc X.env.scope x:=by first|exact Or.inl rfl|exact Or.inr rfl)(hf:X.fn x=true\/X.env.scope.names.lookup x=some .local:=by first|exact .inl rfl|exact .inr rfl|assumption):jG X (.Name x pos) (xg i):=Qs hN hi hx hf
theorem tN{op:CmpOp}{r:R2}{a c:Expr}{ta tb:TE}(ho:jOp X (compareOp op) r)(ha:jE X a ta)(hb:jE X c tb)(hm:behindInMarks op c=false:=by exact w9 _):jT X (.Compare a [op] [c] pos) (WT (tOp r ta tb)):=yj ho ha hb hm
theorem jL{e:Expr}{te:TE}(hm:X.mg "len"=none)(h:jE X e te)(hg:Gl X "len":=by rfl)(h1:zw e=false:=by rfl):jE X (.Call (.Name "len" p) [e] [] pos) (tCB (fun xs H Q=>∃p ys,xs=[.ref p]/\(SqL X.K H p ys\/SqT X.K H p ys)/\Q (.int ys.length) H) (zU te tNil)):=xE vq hg hm PySem.boot_len (ja_c h zD h1) (by decide) (by decide) h1 rfl
theorem aB{p q:Prop}[Decidable p](h:¬ p:=by decide):p->q:=fun c=>absurd c h
end
end L2
namespace L2
open PySem PySem.Spec PySem.Calls PyProof.Rows
section
variable{P:Program}{w:World}{A:Around}{E:Value->Shared->Prop}{s:Shared}{K:ub}
end
section
variable{X:Cx}{e C:Addr}{oe:Obj}{ex:Expr}{te:TE}{name:Str}{pos:Pos}{f:Addr}
end
section
variable{X:Cx}{Ch:Addr}{x n:Str}{i k:Nat}{np hpos tpos:Pos}{b0:Stmt}{suite:List Stmt}{th:Addr->Obj->TS}{ps:List Str}{sp:Sp}{y:Str}{p cpos epos:Pos}{a:Expr}{as:List Expr}{t:TA}
end
end L2
namespace L2
open PySem PySem.Spec PyProof.Rows
section
variable{P:Program}{w:World}{A:Around}{E:Value->Shared->Prop}
end
section
variable{X:Cx}{pos:Pos}
end
end L2
namespace L2
open PySem
theorem zE:sizeLine=16777216:=by decide
def FnIn(K:ub)(x qual:Str)(st:Stmt)(f:Addr):Prop:=∃(oc:Value)(od:Option Addr)(kV doc pm:Value)(an:Option Addr)(cdv ct:Value)(osl:Array (Option Value)),K.lookup f=some ⟨oc,od,.func (Uf x qual (z6 st) (zM st) (zo st) .none kV doc pm an cdv ct),osl⟩/\UK K cdv qual=true/\uY K (.ref f)=true
theorem FnIn.fn{K:ub}{x qual:Str}{st:Stmt}{f:Addr}(h:FnIn K x qual st f):∃fd,Fun K x qual st f fd/\uY K (.ref f)=true:=by
 obtain⟨_,_,_,_,_,_,_,_,_,l,c,k⟩:=h
 exact⟨_,W7 l c k,k⟩
def DfIn(K:ub)(x:Str)(st:Stmt):Prop:=∃f,Uy K mainGlobals x=some (some (.ref f))/\FnIn K x x st f
def MeIn(K:ub)(C:Addr)(x qual:Str)(st:Stmt):Prop:=∃f,u6 K (.ref C) x=some (some (.ref f))/\PySem.W.isFn K (.ref f)=true/\FnIn K x qual st f
theorem MeIn.me{P:Program}{w:World}{K:ub}{mg:Str->Option Value}{base:Heap}{CX:CXT}{k:Nat}{C:Addr}{x qual:Str}{st:Stmt}{ps:List Str}{sp:Sp}(h:MeIn K C x qual st)(hb:∀(kV doc pm:Value)(an:Option Addr)(cdv ct:Value)(us:List Value),us.length=ps.length->bindArgs (Uf x qual (z6 st) (zM st) (zo st) .none kV doc pm an cdv ct) ⟨us,[]⟩=pure (ps.zip us))
  (ok:∀f fd,Fun K x qual st f fd->FnOk P w K mg base CX k f fd ps sp):Me P w K mg base CX k C x ps sp:=by
 obtain⟨f,a,n,g⟩:=h
 obtain⟨fd,F,kp⟩:=g.fn
 exact⟨f,fd,ok f fd F,F.binds hb,a,n,kp⟩
theorem MeIn.ma{P:Program}{w:World}{K:ub}{mg:Str->Option Value}{base:Heap}{CX:CXT}{k:Nat}{C:Addr}{x qual:Str}{st:Stmt}{ps:List Str}{sp:Sp}(h:MeIn K C "__init__" qual st)(hb:∀(kV doc pm:Value)(an:Option Addr)(cdv ct:Value)(us:List Value),us.length=ps.length->bindArgs (Uf "__init__" qual (z6 st) (zM st) (zo st) .none kV doc pm an cdv ct) ⟨us,[]⟩=pure (ps.zip us))
  (mk:PySem.W.makesIn K C=true) (kp:uY K (.ref C)=true) (hm:mg x=some (.ref C)) (ok:∀f fd,Fun K "__init__" qual st f fd->FnOk P w K mg base CX k f fd ps sp):Ma P w K mg base CX k x C ps sp:=by
 obtain⟨f,a,n,g⟩:=h
 obtain⟨fd,F,_⟩:=g.fn
 exact⟨f,fd,⟨mk,a,n,kp⟩,ok f fd F,F.binds hb,hm⟩
theorem DfIn.ca{P:Program}{w:World}{K:ub}{mg:Str->Option Value}{base h:Heap}{CX:CXT}{k:Nat}{x:Str}{st:Stmt}{ps:List Str}{sp:Sp}(X:K.In h)(G:h.Ns mainGlobals mg)(d:DfIn K x st)(hb:∀(kV doc pm:Value)(an:Option Addr)(cdv ct:Value)(us:List Value),us.length=ps.length->bindArgs (Uf x x (z6 st) (zM st) (zo st) .none kV doc pm an cdv ct) ⟨us,[]⟩=pure (ps.zip us))
  (ok:∀f fd,Fun K x x st f fd->FnOk P w K mg base CX k f fd ps sp):Ca P w K mg base CX k x ps sp:=by
 obtain⟨f,a,g⟩:=d
 obtain⟨fd,F,kp⟩:=g.fn
 exact⟨f,fd,ok f fd F,F.binds hb,kp,tV X G a⟩
theorem DfIn.mk{K:ub}{x:Str}{st:Stmt}{f:Addr}{oc:Value}{od:Option Addr}{kV doc pm:Value}{an:Option Addr}{cdv ct:Value}{osl:Array (Option Value)}(a:Uy K mainGlobals x=some (some (.ref f)))(l:K.lookup f=some ⟨oc,od,.func (Uf x x (z6 st) (zM st) (zo st) .none kV doc pm an cdv ct),osl⟩)(c:UK K cdv x=true)(k:uY K (.ref f)=true):DfIn K x st:=⟨f,a,oc,od,kV,doc,pm,an,cdv,ct,osl,l,c,k⟩
theorem MeIn.mk{K:ub}{C:Addr}{x qual:Str}{st:Stmt}{f:Addr}{oc:Value}{od:Option Addr}{kV doc pm:Value}{an:Option Addr}{cdv ct:Value}{osl:Array (Option Value)}(a:u6 K (.ref C) x=some (some (.ref f)))(l:K.lookup f=some ⟨oc,od,.func (Uf x qual (z6 st) (zM st) (zo st) .none kV doc pm an cdv ct),osl⟩)(c:UK K cdv qual=true)(k:uY K (.ref f)=true)(n:PySem.W.isFn K (.ref f)=true):MeIn K C x qual st:=⟨f,a,n,oc,od,kV,doc,pm,an,cdv,ct,osl,l,c,k⟩
structure OwnIn(K:ub)(x:Str)(C:Addr):Prop where
 n:Uy K mainGlobals x=some (some (.ref C))
 pg:tO K C Str.empty=true
 hd:t8 K C=true
 po:PySem.W.plainOver K C=true
 sa:u6 K (.ref C) "__setattr__"=some (some (.builtin "object.__setattr__"))
 mks:PySem.W.makesIn K C=true
 kp:uY K (.ref C)=true
theorem OwnIn.cls{K:ub}{x:Str}{C:Addr}(o:OwnIn K x C):Cls K C:=⟨o.pg,o.hd,o.po,o.sa⟩
theorem usS{n:Nat}{p:List Value->Prop}(h:∀a us,us.length=n->p (a::us)):∀us:List Value,us.length=n+1->p us:=fun us=>by
 cases us with
 |nil=>exact fun e=>by cases e
 |cons a r=>exact fun e=>h a r (Nat.succ.inj e)
theorem us1{p:List Value->Prop}(h:∀a,p [a]):∀us:List Value,us.length=1->p us:=usS fun a us e=>by rw[Ut.mp e];exact h a
theorem us2{p:List Value->Prop}(h:∀a b,p [a,b]):∀us:List Value,us.length=2->p us:=usS fun a=>us1 (p:=fun l=>p (a::l)) (h a)
theorem us3{p:List Value->Prop}(h:∀a b c,p [a,b,c]):∀us:List Value,us.length=3->p us:=usS fun a=>us2 (p:=fun l=>p (a::l)) (h a)
theorem us4{p:List Value->Prop}(h:∀a b c d,p [a,b,c,d]):∀us:List Value,us.length=4->p us:=usS fun a=>us3 (p:=fun l=>p (a::l)) (h a)
theorem us5{p:List Value->Prop}(h:∀a b c d e,p [a,b,c,d,e]):∀us:List Value,us.length=5->p us:=usS fun a=>us4 (p:=fun l=>p (a::l)) (h a)
theorem us6{p:List Value->Prop}(h:∀a b c d e f,p [a,b,c,d,e,f]):∀us:List Value,us.length=6->p us:=usS fun a=>us5 (p:=fun l=>p (a::l)) (h a)
theorem us7{p:List Value->Prop}(h:∀a b c d e f g,p [a,b,c,d,e,f,g]):∀us:List Value,us.length=7->p us:=usS fun a=>us6 (p:=fun l=>p (a::l)) (h a)
section
variable{a b c d e u:TS}{D:Ends}{σ:List (Option V)}{H:Hp}
theorem cut1(h:∀v:TS,u=v->(tSeq a v:TS) D σ H):(tSeq a u:TS) D σ H:=h u rfl
theorem cut2(h:∀v:TS,u=v->(tSeq a (tSeq b v):TS) D σ H):(tSeq a (tSeq b u):TS) D σ H:=h u rfl
theorem cut4(h:∀v:TS,u=v->(tSeq a (tSeq b (tSeq c (tSeq d v))):TS) D σ H):(tSeq a (tSeq b (tSeq c (tSeq d u))):TS) D σ H:=h u rfl
theorem cut5(h:∀v:TS,u=v->(tSeq a (tSeq b (tSeq c (tSeq d (tSeq e v)))):TS) D σ H):(tSeq a (tSeq b (tSeq c (tSeq d (tSeq e u)))):TS) D σ H:=h u rfl
theorem ixT{K:ub}{Q:VK}{p:Addr}{xs:List V}{i:Int}{v:V}(h:H p=some (.tup xs))(a:atI xs i=some v)(q:Q v H):tC (.int i) σ H fun y H2=>rIxT K (.ref p) y H2 Q:=⟨p,xs,i,v,rfl,rfl,SqT.of h,a,q⟩
theorem ixL{K:ub}{Q:VK}{p:Addr}{xs:List V}{i:Int}{v:V}(h:H p=some (.lst xs))(a:atI xs i=some v)(q:Q v H):tC (.int i) σ H fun y H2=>rIxL K (.ref p) y H2 Q:=⟨p,xs,i,v,rfl,rfl,SqL.of h,a,q⟩
theorem nxtC{E:Ends}(h:E.nx σ H):wI E σ H:=h
end
theorem cutD{t:TS}{D:Ends}{σ:St}{H:Hp}{P:St->Hp->Prop}(h:∀D':Ends,(∀σ H,P σ H->D'.nx σ H)->t D' σ H)(p:∀σ H,P σ H->D.nx σ H):t D σ H:=h D p
theorem cutR{t:TS}{D:Ends}{σ:St}{H:Hp}{P:St->Hp->Prop}(h:∀D':Ends,D'.rt=D.rt->(∀σ H,P σ H->D'.nx σ H)->t D' σ H)(p:∀σ H,P σ H->D.nx σ H):t D σ H:=h D rfl p
end L2
namespace L2
open PySem PySem.Spec PyProof.Rows
def Itv(K:ub)(a:Addr)(n:Nat):It :=
 ⟨fun i H=>i < n/\∃xs x,SqL K H a xs/\xs[n-1-i]?=some x,fun i H x H'=>H'=H/\∀xs,SqL K H a xs->xs[n-1-i]?=some x,fun i _=>n<=i⟩
theorem Vo{P:Program}{w:World}{K:ub}{tg:Expr}(a it:Addr)(n:Nat):Turn P w K tg (Itv K a n) [it] it (fun i h=>i<=n/\h.IsRevIter it a ((n:Int)-1-(i:Nat))) where
 mem:=by simp
 obj:=fun i h st b hb=>by
  have e:b=it:=by simpa using hb
  subst e
  obtain⟨_,o,e,c,d⟩:=st
  exact⟨o,e,fun v z=>by rw[d]at z;cases z⟩
 keep:=fun i h h' st k=>⟨st.1,st.2.at fun o e=>k it (by simp) o e⟩
 item:=by
  intro X hP hw hK hc i pins s σ H E I hf st hg
  subst hP hw hK
  obtain⟨hi,xs,x,hq,hx⟩:=hg
  obtain⟨its,rv,p,hz⟩:=I.list hq
  obtain⟨u,hu,ru⟩:=rv.get hx
  obtain⟨f0,f1,f2,f3,f4,f5⟩:=hf it (by simp)
  obtain⟨_,st2⟩:=st
  have e1:(n:Int)-1-(i:Nat)=((n-1-i:Nat):Int):=by lia
  rw[e1]at st2
  refine wpAny_pyNext_rev_item st2 p.isList (x:=u) (by simpa using hu) fun h' st' sb=>?_
  have I1:Inv X pins σ H { s with heap:=h' }:=I.turned (t':=s.toks) (fun b o hb e=>(sb.2 b hb).trans e) f0 f1 f3 f4 f5
  obtain⟨o,e,c,d⟩:=id st'
  refine⟨u,rfl,Y2 (s:={ s with heap:=h' }) e c d (by decide) ⟨x,H,I1,ru,⟨rfl,fun ys hy=>by rw[I.list_inj hy hq];exact hx⟩,⟨hi,?_⟩,fun b hb=>(hf b hb).1⟩⟩
  have e2:(n:Int)-1-((i+1:Nat):Int)=((n-1-i:Nat):Int)-1:=by lia
  rw[e2]
  exact st'
 done:=by
  intro X hP hw hK hc i pins s σ H E I hf st hg
  subst hP hw hK
  obtain⟨f0,f1,f2,f3,f4,f5⟩:=hf it (by simp)
  obtain⟨h1,st2⟩:=st
  have h2:n<=i:=hg
  have e1:(n:Int)-1-(i:Nat)=-1:=by lia
  rw[e1]at st2
  exact wpAny_pyNext_rev_end (I.ok.hd hc) st2 fun h' eb=>⟨rfl,I.turned (t':=s.toks) (fun b o hb e=>eb b o hb e) f0 f1 f3 f4 f5⟩
 self:=fun _ _ _ _ _ st h=>wpAny_pyIter_revIter st.2 h
section
variable{X:Cx}{tg:Expr}
def iRev(K:ub)(ta:TA):TI:=fun σ H R=>ta σ H fun vs H1=>∃a xs,vs=[.ref a]/\SqL K H1 a xs/\R (Itv K a xs.length) H1
theorem zbW{a:Expr}{ta:TA}{p pos:Pos}(hg:Gl X "reversed")(hm:X.mg "reversed"=none)(ha:PA X [a] ta)(hs:starEach [a] X.env=[(false,eval a X.env)]:=by rfl):PI X tg (.Call (.Name "reversed" p) [a] [] pos) (iRev X.K ta):=by
 intro pins s σ H R I h
 refine Call_ (yZ I hg hm boot_reversed (Ud (thn (ha pos pins s σ H _ I h) fun us s1 ⟨vs,H1,I1,r1,q1⟩=>?_) hs rfl))
 obtain⟨l,xs,e,hq,q⟩:=q1
 subst e
 obtain⟨u,rfl,rx⟩:=vZ r1
 cases rx
 obtain⟨its,rv,pl,hz⟩:=I1.list hq
 have hl:=rv.length
 refine call_reversed_list pl.isList ?_
 have hr:(s1.heap.push (revObj l ((its.toArray.size:Int)-1))).IsRevIter s1.heap.objs.size l ((its.toArray.size:Int)-1):=⟨_,uy _ rfl,rfl,rfl⟩
 refine wpAny_pyIter_revIter (s:={ s1 with heap:=s1.heap.push (revObj l ((its.toArray.size:Int)-1)) }) hr ?_
 refine⟨s1.heap.objs.size,[s1.heap.objs.size],_,_,H1,rfl,I1.kept (t':=s1.toks) fun b o e=>ug _ e,Vo l _ xs.length,⟨uX _,?_⟩,fun b hb=>?_,q⟩
 ·have e:(xs.length:Int)-1-((0:Nat):Int)=(its.toArray.size:Int)-1:=by simp[hl]
  rw[e]
  exact hr
 have e:b=s1.heap.objs.size:=by simpa using hb
 subst e
 exact I1.fpOk (ud _) (I1.hok.fresh (ud _))
theorem zbX{a:Expr}{t:TA}{p pos:Pos}(hg:Gl X "reversed")(hm:X.mg "reversed"=none)(ha:jA X [a] t)(h:zw a=false:=by rfl):jI X tg (.Call (.Name "reversed" p) [a] [] pos) (iRev X.K t):=⟨zbW hg hm ha.out (zC h)⟩
end
theorem QA{K:ub}{a:Addr}{xs:List V}{g:TG}{tb:TS}{D:Ends}{σ:St}{H:Hp}(Pv:Nat->St->Hp->Prop)(h0:Pv 0 σ H)(hl:∀i σ H,i<=xs.length->Pv i σ H->SqL K H a xs)
  (hs:∀i x σ H,xs.reverse[i]?=some x->Pv i σ H->g x σ H fun σ2 H2=>tb { D with nx:=Pv (i+1),ct:=Pv (i+1),bk:=D.nx } σ2 H2) (hd:∀σ H,Pv xs.length σ H->D.nx σ H) :
  ∃W:Nat->Nat->St->Hp->Prop,(∃m,W 0 m σ H)/\∀i m σ H,W i m σ H ->
   ((Itv K a xs.length).stop i H/\D.nx σ H)\/((Itv K a xs.length).go i H/\∃N:St->Hp->Prop,(∀σ' H',N σ' H'->∃m',m' < m/\W (i+1) m' σ' H')/\∀x H',(Itv K a xs.length).yld i H x H'->g x σ H' fun σ2 H2=>tb { D with nx:=N,ct:=N,bk:=D.nx } σ2 H2):=by
 refine⟨fun i m σ H=>m=xs.length-i/\i<=xs.length/\Pv i σ H,⟨xs.length,by simp,uX _,h0⟩,?_⟩
 rintro i m σ H ⟨rfl,hi,p⟩
 have q:=hl i σ H hi p
 by_cases hlt:i < xs.length
 ·refine .inr ⟨⟨hlt,xs,xs[xs.length-1-i],q,by rw[uk]⟩,Pv (i+1),fun σ' H' p'=>⟨xs.length-(i+1),by lia,rfl,hlt,p'⟩,fun x H' y=>?_⟩
  obtain⟨e,y⟩:=y
  subst e
  refine hs i x σ _ ?_ p
  rw[List.getElem?_reverse hlt]
  exact y xs q
 ·have e:i=xs.length:=by lia
  subst e
  exact .inl ⟨ud _,hd σ H p⟩
section
variable{g:TG}{tt:TT}{te:TE}{Q:VK}{σ:St}{H:Hp}
theorem Ys{K:ub}{a:Addr}{xs:List V}(Pv:Nat->St->List V->Hp->Prop)(h0:Pv 0 σ [] H)(hl:∀i τ ys H,i<=xs.length->Pv i τ ys H->SqT K H a xs)
  (hs:∀i x τ ys H,xs[i]?=some x->Pv i τ ys H->g x τ H fun τ2 H2=>tt τ2 H2 fun b H3=>if b=true then te τ2 H3 fun y H4=>ys.length < sizeLine/\Pv (i+1) τ2 (ys++[y]) H4 else Pv (i+1) τ2 ys H3)
  (hd:∀τ ys H,Pv xs.length τ ys H->∀p,H p=none->Q (.ref p) (upd H p (.lst ys))):∃W,(∃m,W 0 m σ [] H)/\lcBy (Itt K a) g tt te Q W:=by
 refine⟨fun i m τ ys H=>m=xs.length-i/\i<=xs.length/\Pv i τ ys H,⟨xs.length,by simp,uX _,h0⟩,?_⟩
 rintro i m τ ys H ⟨rfl,hi,p⟩
 have q:=hl i τ ys H hi p
 by_cases hlt:i < xs.length
 ·refine .inr ⟨⟨xs,xs[i],q,by simp[hlt]⟩,Pv (i+1),fun τ' ys' H' p'=>⟨xs.length-(i+1),by lia,rfl,hlt,p'⟩,fun x H' y=>?_⟩
  obtain⟨e,y⟩:=y
  subst e
  exact hs i x τ ys _ (y xs q) p
 ·have e:i=xs.length:=by lia
  subst e
  exact .inl ⟨⟨xs,q,ud _⟩,hd τ ys H p⟩
end
theorem old{H:Hp}{p q:Addr}{o u:HO}(hp:H p=none)(h:H q=some u):upd H p o q=some u:=by rw[zi (zk h hp)];exact h
theorem Same.new{H H1:Hp}{p:Addr}{o:HO}(s:Same H H1)(hp:H1 p=none):Same H (upd H1 p o):=fun b u q=>old hp (s b u q)
theorem Same.put{H H1:Hp}{p:Addr}{o:HO}(s:Same H H1)(hp:H p=none):Same H (upd H1 p o):=fun b u q=>by rw[zi (zk q hp)];exact s b u q
theorem Vp{x:V}(h:yx x=true):eqV x x=true:=by
 cases x<;>first
  |rfl
  | (show((_:Bool) == _)=true;simp)
  | (show((_:Int) == _)=true;simp)
  | (show((_:Str) == _)=true;simp)
  | (cases h)
section
variable{X:Cx}
end
section
variable(P:Program)(w:World)
end
section
variable{P:Program}{w:World}{H H':Hp}{h h':Heap}{a:Addr}{o:HO}
end
section
variable{P:Program}{w:World}{H:Hp}{h h':Heap}{x e:Addr}{o':HO}
end
section
variable{fs fs' ex ex':List Addr}{H H1 H2:Hp}{h h1 h2 h':Heap}{a x e:Addr}{o:HO}
end
section
variable{X:Cx}{pins:List (Addr×Obj)}{σ:List (Option V)}{H H':Hp}{s:Shared}{h':Heap}
end
section
variable{X:Cx}
variable{a b:Expr}{ta tb:TE}{pos:Pos}
variable{tA tB':TT}{rest:List Expr}
end
section
variable{X:Cx}{pins:List (Addr×Obj)}{σ:St}{H:Hp}{s:Shared}{a:Addr}{xs ys:List V}
end
section
variable{X:Cx}{pins:List (Addr×Obj)}{σ:St}{H:Hp}{s:Shared}{E:Value->Shared->Prop}
end
section
variable{X:Cx}{st:Stmt}{rest:List Stmt}{t u:TS}{e:Expr}{te:TE}{pos:Pos}
end
section
variable{X:Cx}{pos:Pos}
end
section
variable{X:Cx}{tg:Expr}
end
section
variable{X:Cx}{a b c:Expr}{ta tb tc:TE}{pos:Pos}
end
section
variable{prog:Program}{w:World}{A:Around}{E:Value->Shared->Prop}{s:Shared}{K:ub}{x dx C f:Addr}{mA:Str->Option Value}{name:Str}{v:Value}
end
section
variable{P:Program}{w:World}{H H':Hp}{h h':Heap}{a C dx:Addr}{fs fs':List (Str×V)}
end
section
variable{X:Cx}{pins:List (Addr×Obj)}{σ:St}{H:Hp}{s:Shared}{a C dx:Addr}{fs:List (Str×V)}{f:Str}{v:V}{A:Around}{E:Value->Shared->Prop}
end
section
variable{X:Cx}{o e value:Expr}{f:Str}{pos pos' tpos:Pos}{ta tv:TE}
end
section
variable{X:Cx}{pins:List (Addr×Obj)}{σ:St}{H:Hp}{s:Shared}{A:Around}{E:Value->Shared->Prop}{Q:Value->Shared->Prop}{c:Value}{b:Bool}
end
section
variable{X:Cx}{e:Expr}{es:List Expr}{te:TE}{t:TA}{pos:Pos}
end
section
variable{X:Cx}{pins:List (Addr×Obj)}{σ:St}{H:Hp}{s s':Shared}
end
section
variable{X:Cx}{CX:CXT}{k:Nat}{f C:Addr}{fd:FuncData}{ps:List Str}{sp:Sp}{dvs:List V}{ds:List Value}{E:XK}{x m:Str}{p pos apos:Pos}{e o:Expr}{es:List Expr}{ta:TE}{t:TA}
end
section
variable{X:Cx}{CX:CXT}{k:Nat}{f C:Addr}{fd:FuncData}{ps ks:List Str}{sp:Sp}{E:XK}{x m:Str}{p pos apos kpos:Pos}{e o:Expr}{es:List Expr}{kws:List Keyword}{te ta:TE}{t tk:TA}{nm:Option Str}
variable{g:List Value->List Value->List Value}{gV:List V->List V->List V}
end
section
variable{X:Cx}{x:Str}{p pos:Pos}{e:Expr}{es:List Expr}{t:TA}{id T:String}{r:List V->Hp->VK->Prop}
end
section
variable{κ:Type}[DecidableEq κ]
def valV(kvs:List (κ×V))(k:κ):Option V:=(kvs.find? fun kv=>decide (kv.1=k)).map (·.2)
def putK(kvs:List (κ×V))(k:κ)(v:V):List (κ×V) :=
 if(kvs.any fun kv=>decide (kv.1=k))=true then kvs.map (fun kv=>if kv.1=k then(kv.1,v)else kv)else kvs++[(k,v)]
theorem ye{p:κ×V}{r:List (κ×V)}{k:κ}(e:p.1=k):valV (p::r) k=some p.2:=by simp[valV,tI,e]
theorem yf{p:κ×V}{r:List (κ×V)}{k:κ}(e:¬ p.1=k):valV (p::r) k=valV r k:=by simp[valV,tI,e]
theorem xj(k:κ):∀kvs:List (κ×V),(kvs.any fun kv=>decide (kv.1=k))=(valV kvs k).isSome
 |[]=>rfl
 |p::r=>by
  rw[tD]
  by_cases e:p.1=k
  ·simp only[ye e,decide_eq_true e,Bool.true_or,Option.isSome_some]
  ·rw[yf e,decide_eq_false e,tW];exact xj k r
theorem ZI(k j:κ)(y:V):∀kvs:List (κ×V),valV (kvs.map fun kv=>if kv.1=k then(kv.1,y)else kv) j=(valV kvs j).map fun x=>if j=k then y else x
 |[]=>rfl
 |p::r=>by
  have ih:=ZI k j y r
  rw[uH]
  by_cases h:p.1=k
  ·rw[if_pos h]
   by_cases e:p.1=j
   ·rw[ye (p:=(p.1,y)) e,ye e,U7,if_pos (e.symm.trans h)]
   ·rw[yf (p:=(p.1,y)) e,yf e,ih]
  ·rw[if_neg h]
   by_cases e:p.1=j
   ·rw[ye (p:=p) e,ye e,U7,if_neg (fun z=>h (e.trans z))]
   ·rw[yf (p:=p) e,yf e,ih]
theorem ji(k j:κ)(y:V):∀kvs:List (κ×V),valV kvs k=none->valV (kvs++[(k,y)]) j=if j=k then some y else valV kvs j
 |[],_=>by
  by_cases e:k=j
  ·rw[if_pos e.symm];exact ye (p:=(k,y)) e
  ·rw[if_neg (fun z=>e z.symm)];exact yf (p:=(k,y)) e
 |p::r,hn=>by
  rw[List.cons_append]
  have hk:¬ p.1=k:=fun z=>by rw[ye z]at hn;cases hn
  rw[yf hk]at hn
  have ih:=ji k j y r hn
  by_cases e:p.1=j
  ·rw[ye e,ye e,if_neg (fun z=>hk (e.trans z))]
  ·rw[yf e,yf e,ih]
theorem yV(kvs:List (κ×V))(k j:κ)(y:V):valV (putK kvs k y) j=if j=k then some y else valV kvs j:=by
 unfold putK
 by_cases a:(kvs.any fun kv=>decide (kv.1=k))=true
 ·rw[if_pos a,ZI]
  rw[xj]at a
  by_cases e:j=k
  ·obtain⟨x,hx⟩:=tU.mp a
   rw[if_pos e,e,hx,U7,if_pos rfl]
  ·rw[if_neg e]
   cases valV kvs j with
   |none=>rfl
   |some x=>rw[U7,if_neg e]
 ·rw[if_neg a]
  refine ji k j y kvs ?_
  rw[xj]at a
  cases q:valV kvs k with
  |none=>rfl
  |some x=>rw[q]at a;exact(a rfl).elim
theorem yc(kvs:List (κ×V))(k:κ)(v:V):(putK kvs k v).length<=kvs.length+1:=by
 unfold putK
 split
 ·rw[ua];lia
 ·rw[uf,ul,List.length_nil];lia
theorem RelO.isSome_eq{o:Option V}{u:Option Value}(r:RelO o u):o.isSome=u.isSome:=by
 cases o with
 |none=>cases u with
  |none=>rfl
  |some _=>exact(show False from r).elim
 |some _=>cases u with
  |none=>exact(show False from r).elim
  |some _=>rfl
theorem RelO.getD{o:Option V}{u:Option Value}{d:V}{d':Value}(r:RelO o u)(rd:RelV d d'):RelV (o.getD d) (u.getD d'):=by
 cases o with
 |none=>cases u with
  |none=>exact rd
  |some _=>exact(show False from r).elim
 |some _=>cases u with
  |none=>exact(show False from r).elim
  |some _=>exact r
theorem KV.val{kvs:List (κ×V)}{vs:List (κ×Value)}(r:KV kvs vs)(k:κ):RelO (valV kvs k) (valueAt vs k):=by
 unfold KV at r
 induction r with
 |nil=>exact True.intro
 |@cons p q ps qs h t ih =>
  obtain⟨h1,h2⟩:=h
  by_cases e:p.1=k
  ·have e':q.1=k:=h1.symm.trans e
   have b:valueAt (q::qs) k=some q.2:=by simp[valueAt,tI,e']
   rw[ye e,b];exact h2
  ·have e':¬ q.1=k:=fun z=>e (h1.trans z)
   have b:valueAt (q::qs) k=valueAt qs k:=by simp[valueAt,tI,e']
   rw[yf e,b];exact ih
theorem KV.any{kvs:List (κ×V)}{vs:List (κ×Value)}(r:KV kvs vs)(k:κ):(kvs.any fun kv=>decide (kv.1=k))=vs.any fun kv=>decide (kv.1=k):=by
 unfold KV at r
 induction r with
 |nil=>rfl
 |cons h t ih=>rw[tD,tD,ih,h.1]
theorem KV.repl{kvs:List (κ×V)}{vs:List (κ×Value)}(r:KV kvs vs)(k:κ){y:V}{u:Value}(ry:RelV y u):
  KV (kvs.map fun kv=>if kv.1=k then(kv.1,y)else kv) (vs.map fun kv=>if kv.1=k then(kv.1,u)else kv):=by
 unfold KV at r ⊢
 induction r with
 |nil=>exact .nil
 |@cons p q ps qs h t ih =>
  rw[uH,uH]
  refine .cons ?_ ih
  obtain⟨h1,h2⟩:=h
  by_cases e:p.1=k
  ·rw[if_pos e,if_pos (h1.symm.trans e)];exact⟨h1,ry⟩
  ·rw[if_neg e,if_neg (fun z=>e (h1.trans z))];exact⟨h1,h2⟩
theorem KV.put{kvs:List (κ×V)}{vs:List (κ×Value)}(r:KV kvs vs)(k:κ){y:V}{u:Value}(ry:RelV y u):KV (putK kvs k y) (stored vs k u):=by
 unfold putK stored
 rw[r.any k]
 by_cases e:(vs.any fun kv=>decide (kv.1=k))=true
 ·rw[if_pos e,if_pos e];exact r.repl k ry
 ·rw[if_neg e,if_neg e];exact Paired.snoc r ⟨rfl,ry⟩
theorem KV.length{kvs:List (κ×V)}{vs:List (κ×Value)}(r:KV kvs vs):kvs.length=vs.length:=Paired.length r
end
theorem jj{P:Program}{w:World}{k:Key}{u:Value}(r:RelV (kV k) u):(ya P w).is k u=true:=by
 cases k with
 |inl i=>obtain⟨t,e⟩:=(show ∃t,u=Value.int i t from r);subst e;exact Zp P w i t
 |inr x=>obtain⟨t,e⟩:=(show ∃t,u=Value.str x t from r);subst e;exact Zq P w x t
theorem jk{P:Program}{w:World}:∀{ks:List Key}{us:List Value},Vals (ks.map kV) us->ItemsAre (ya P w) ks us
 |[],_,r=>by rw[List.map_nil]at r;cases r;exact .nil
 |k::ks,_,r=>by
  rw[uH]at r
  cases r with
  |cons h t=>exact .cons (jj h) (jk t)
abbrev KT(H:Hp):List (List Key×V)->List (List Key×Addr×Value)->Prop:=Paired fun p q=>p.1=q.1/\H q.2.1=some (.tup (p.1.map kV))/\RelV p.2 q.2.2
theorem KT.val{H:Hp}{kvs:List (List Key×V)}{xs:List (List Key×Addr×Value)}(r:KT H kvs xs)(k:List Key):RelO (valV kvs k) ((atKey xs k).map (·.2)):=by
 induction r with
 |nil=>exact True.intro
 |@cons p q ps qs h t ih =>
  obtain⟨h1,_,h2⟩:=h
  by_cases e:p.1=k
  ·have e':q.1=k:=h1.symm.trans e
   have b:atKey (q::qs) k=some q.2:=by simp[atKey,tI,e']
   rw[ye e,b];exact h2
  ·have e':¬ q.1=k:=fun z=>e (h1.trans z)
   have b:atKey (q::qs) k=atKey qs k:=by simp[atKey,tI,e']
   rw[yf e,b];exact ih
theorem KT.repl{H:Hp}{kvs:List (List Key×V)}{xs:List (List Key×Addr×Value)}(r:KT H kvs xs)(k:List Key){y:V}{u:Value}(ry:RelV y u):
  KT H (kvs.map fun kv=>if kv.1=k then(kv.1,y)else kv) (xs.map (putAt k u)):=by
 induction r with
 |nil=>exact .nil
 |@cons p q ps qs h t ih =>
  rw[uH,uH]
  refine .cons ?_ ih
  obtain⟨h1,h2,h3⟩:=h
  unfold putAt
  by_cases e:p.1=k
  ·rw[if_pos e,if_pos (h1.symm.trans e)];exact⟨h1,h2,ry⟩
  ·rw[if_neg e,if_neg (fun z=>e (h1.trans z))];exact⟨h1,h2,h3⟩
theorem KT.put{H:Hp}{kvs:List (List Key×V)}{xs:List (List Key×Addr×Value)}(r:KT H kvs xs)(k:List Key){b:Addr}{y:V}{u:Value}(hb:H b=some (.tup (k.map kV)))(ry:RelV y u):
  KT H (putK kvs k y) (storedH xs k b u):=by
 have e:(kvs.any fun kv=>decide (kv.1=k))=(atKey xs k).isSome:=by
  rw[xj,(r.val k).isSome_eq,Option.isSome_map]
 unfold putK storedH
 rw[e]
 by_cases q:(atKey xs k).isSome=true
 ·rw[if_pos q,if_pos q];exact r.repl k ry
 ·rw[if_neg q,if_neg q];exact Paired.snoc r ⟨rfl,hb,ry⟩
theorem KT.keeps{H H':Hp}{kvs:List (List Key×V)}{xs:List (List Key×Addr×Value)}(r:KT H kvs xs)(ht:∀b ys,H b=some (.tup ys)->H' b=some (.tup ys)):KT H' kvs xs :=
 Paired.mapP r fun _ _ z=>⟨z.1,ht _ _ z.2.1,z.2.2⟩
section
variable{P:Program}{w:World}{H:Hp}{h:Heap}{a:Addr}
theorem zaZ{u:HO}(ok:HOk P w H h)(e:Rd H a u):ObjOk P w H h a u:=e.ok ok
theorem vt{kvs:List (Key×V)}(ok:HOk P w H h)(e:Rd H a (.dK kvs)):kvs.length<=sizeLine/\(a == sysModules)=false/\∃vs,KV kvs vs/\h.DictOf (ya P w) a vs :=
 show ObjOk P w H h a (.dK kvs)from zaZ ok e
theorem zc0{kvs:List (Key×V)}(ok:HOk P w H h)(e:H a=some (.dK kvs)):kvs.length<=sizeLine/\(a == sysModules)=false/\∃vs,KV kvs vs/\h.DictOf (ya P w) a vs:=vt ok (.inl e)
theorem xF{ks:List Key}(ok:HOk P w H h)(e:H a=some (.tup (ks.map kV))):(tupleKind (ya P w)).is h ks a:=by
 obtain⟨_,its,r,o,h1,h2,_,n,h3⟩:=(show ObjOk P w H h a (.tup (ks.map kV))from ok a _ e)
 exact⟨o,its.toArray,n,h1,h2,h3,by simpa using jk r⟩
theorem vv{kvs:List (List Key×V)}(ok:HOk P w H h)(e:Rd H a (.dT kvs)):kvs.length<=sizeLine/\(a == sysModules)=false /\
  ∃xs,KT H kvs xs/\h.DictOfH (tupleKind (ya P w)) a xs:=by
 obtain⟨z,y,xs,r,o,es,ep,h1,h2,h3,h4,h5⟩:=(show ObjOk P w H h a (.dT kvs)from zaZ ok e)
 refine⟨z,y,xs,r,o,es,ep,h1,h2,h3,h4,fun x hx=>?_,h5⟩
 have all:∀{l:List (List Key×V)}{m:List (List Key×Addr×Value)},KT H l m->∀x∈m,(tupleKind (ya P w)).is h x.1 x.2.1:=by
  intro l m q
  induction q with
  |nil=>intro x hx;exact nomatch hx
  |@cons p q ps qs hq t ih =>
   intro x hx
   rcases um.mp hx with e|hx
   ·subst e
    exact xF ok (by rw[<- hq.1];exact hq.2.1)
   ·exact ih x hx
 exact all r x hx
theorem za0{kvs:List (List Key×V)}(ok:HOk P w H h)(e:H a=some (.dT kvs)):kvs.length<=sizeLine/\(a == sysModules)=false /\
  ∃xs,KT H kvs xs/\h.DictOfH (tupleKind (ya P w)) a xs:=vv ok (.inl e)
end
def DGet(H:Hp)(a:Addr)(y:V)(r:Option V):Prop :=
 (∃kvs k,Rd H a (.dK kvs)/\y=kV k/\r=valV kvs k)\/∃kvs k b,Rd H a (.dT kvs)/\y=.ref b/\H b=some (.tup (k.map kV))/\r=valV kvs k
def DPut(H:Hp)(a:Addr)(y v:V)(H':Hp):Prop :=
 (∃kvs k,H a=some (.dK kvs)/\y=kV k/\kvs.length < sizeLine/\H'=upd H a (.dK (putK kvs k v))) \/
 ∃kvs k b,H a=some (.dT kvs)/\y=.ref b/\H b=some (.tup (k.map kV))/\kvs.length < sizeLine/\H'=upd H a (.dT (putK kvs k v))
theorem DGet.k{H:Hp}{a:Addr}{kvs:List (Key×V)}{k:Key}(e:H a=some (.dK kvs)):DGet H a (kV k) (valV kvs k):=.inl ⟨kvs,k,.inl e,rfl,rfl⟩
theorem DGet.t{H:Hp}{a b:Addr}{kvs:List (List Key×V)}{k:List Key}(e:H a=some (.dT kvs))(eb:H b=some (.tup (k.map kV))):DGet H a (.ref b) (valV kvs k):=.inr ⟨kvs,k,b,.inl e,rfl,eb,rfl⟩
theorem DPut.k{H:Hp}{a:Addr}{kvs:List (Key×V)}{k:Key}{v:V}(e:H a=some (.dK kvs))(hl:kvs.length < sizeLine):DPut H a (kV k) v (upd H a (.dK (putK kvs k v))):=.inl ⟨kvs,k,e,rfl,hl,rfl⟩
theorem DPut.t{H:Hp}{a b:Addr}{kvs:List (List Key×V)}{k:List Key}{v:V}(e:H a=some (.dT kvs))(eb:H b=some (.tup (k.map kV)))(hl:kvs.length < sizeLine):
  DPut H a (.ref b) v (upd H a (.dT (putK kvs k v))):=.inr ⟨kvs,k,b,e,rfl,eb,hl,rfl⟩
section
variable{X:Cx}{pins:List (Addr×Obj)}{σ:St}{H:Hp}{s:Shared}{a:Addr}{y v:V}{u r:Value}{o:Option V}{A:Around}{E:Value->Shared->Prop}
theorem Inv.big(I:Inv X pins σ H s):sysModules < s.heap.objs.size:=by
 have h:mainGlobals < s.heap.objs.size:=(I.mod.glob.keeps I.bk).lt
 exact Nat.lt_trans (by decide) h
theorem Wc{Q:Value->Shared->Prop}(hu:A.units+1 < cLine)(I:Inv X pins σ H s)(g:DGet H a y (some v))(ry:RelV y u)(h:∀w' s',Inv X pins σ H s'->RelV v w'->Q w' s'):
  wpAny (model X.prog X.w) A (getItem (.ref a) u) Q E s:=by
 rcases g with⟨kvs,k,e,ey,l⟩|⟨kvs,k,b,e,ey,eb,l⟩
 ·subst ey
  obtain⟨z,hd,vs,rel,dd⟩:=vt I.hok e
  obtain⟨w',hw,rw'⟩:=RelO.some_of (v:=v) (o:=valueAt vs k) (by rw[l];exact rel.val k)
  exact wpAny_getItem_of (jj ry) dd.mapOf hw (h w' _ (I.tok _) rw')
 ·subst ey
  cases(show u=Value.ref b from ry)
  obtain⟨z,hd,xs,rel,dd⟩:=vv I.hok e
  obtain⟨w',hw,rw'⟩:=RelO.some_of (v:=v) (o:=(atKey xs k).map (·.2)) (by rw[l];exact rel.val k)
  obtain⟨p,hp,hp2⟩:=uh.mp hw
  refine wpAny_getItem_heap (tupleKind_room_in1 hu) (xF I.hok eb) dd hp ?_
  rw[hp2]
  exact h w' _ (I.tok _) rw'
theorem d_in{Q:Value->Shared->Prop}(hu:A.units+1 < cLine)(I:Inv X pins σ H s)(g:DGet H a y o)(ry:RelV y u)(h:∀s',Inv X pins σ H s'->Q (.bool o.isSome) s'):
  wpAny (model X.prog X.w) A (compareOp .In u (.ref a)) Q E s:=by
 rcases g with⟨kvs,k,e,ey,l⟩|⟨kvs,k,b,e,ey,eb,l⟩
 ·subst ey
  obtain⟨z,hd,vs,rel,dd⟩:=vt I.hok e
  refine wpAny_in_of (jj ry) hd dd.mapOf ?_
  rw[<- (rel.val k).isSome_eq,<- l]
  exact h _ (I.tok _)
 ·subst ey
  cases(show u=Value.ref b from ry)
  obtain⟨z,hd,xs,rel,dd⟩:=vv I.hok e
  refine wpAny_in_heap (tupleKind_room_in1 hu) (xF I.hok eb) hd dd ?_
  have q:=(rel.val k).isSome_eq
  rw[Option.isSome_map]at q
  rw[<- q,<- l]
  exact h _ (I.tok _)
theorem QB{Q:Value->Shared->Prop}(hu:A.units+1 < cLine)(I:Inv X pins σ H s)(g:DGet H a y o)(ry:RelV y u)(h:∀s',Inv X pins σ H s'->Q (.bool (!o.isSome)) s'):
  wpAny (model X.prog X.w) A (compareOp .NotIn u (.ref a)) Q E s:=by
 rcases g with⟨kvs,k,e,ey,l⟩|⟨kvs,k,b,e,ey,eb,l⟩
 ·subst ey
  obtain⟨z,hd,vs,rel,dd⟩:=vt I.hok e
  refine wpAny_notIn_of (jj ry) hd dd.mapOf ?_
  rw[<- (rel.val k).isSome_eq,<- l]
  exact h _ (I.tok _)
 ·subst ey
  cases(show u=Value.ref b from ry)
  obtain⟨z,hd,xs,rel,dd⟩:=vv I.hok e
  refine wpAny_notIn_heap (tupleKind_room_in1 hu) (xF I.hok eb) hd dd ?_
  have q:=(rel.val k).isSome_eq
  rw[Option.isSome_map]at q
  rw[<- q,<- l]
  exact h _ (I.tok _)
theorem jZ{h':Heap}{t':Nat}{ob:HO}(I:Inv X pins σ H s)(mu:Mut (H a))(hs:Heap.SameBut a s.heap h')(he:∃q,h'.get? a=some q)(new:ObjOk X.prog X.w (upd H a ob) h' a ob):
  Inv X pins σ (upd H a ob) { s with heap:=h',toks:=t' } :=
 I.write (x:=a) (e:=a) mu (.inl rfl) (fun b q hb z=>(hs.2 b hb).trans z) he new
theorem zbY{P:Program}{w:World}{H':Hp}{h':Heap}{kvs:List (Key×V)}{vs:List (Key×Value)}(z:kvs.length<=sizeLine)(hd:(a == sysModules)=false)(rel:KV kvs vs)(dd:h'.DictOf (ya P w) a vs):
  ObjOk P w H' h' a (.dK kvs):=⟨z,hd,vs,rel,dd⟩
theorem Wd{H':Hp}{Q:Unit->Shared->Prop}(hu:A.units+1 < cLine)(I:Inv X pins σ H s)(g:DPut H a y v H')(ry:RelV y u)(rv:RelV v r)(h:∀s',Inv X pins σ H' s'->Q () s'):
  wpAny (model X.prog X.w) A (setItem (.ref a) u r) Q E s:=by
 rcases g with⟨kvs,k,e,ey,l,eH⟩|⟨kvs,k,b,e,ey,eb,l,eH⟩
 ·subst ey eH
  obtain⟨z,hd,vs,rel,dd⟩:=zc0 I.hok e
  have hz:vs.length<=sizeLine:=by rw[<- rel.length];exact z
  have hl:(putK kvs k v).length<=sizeLine:=by have:=yc kvs k v;lia
  refine wpAny_setItem_pairs (hsz:=hz) (jj ry) dd fun h' dd' hs=>h _ ?_
  have he:∃q,h'.get? a=some q:=let ⟨q,_,_,hq,_⟩:=dd';⟨q,hq⟩
  exact jZ I (by rw[e];exact True.intro) hs he (zbY hl hd (rel.put k rv) dd')
 ·subst ey eH
  cases(show u=Value.ref b from ry)
  obtain⟨z,hd,xs,rel,dd⟩:=za0 I.hok e
  have hz:xs.length<=sizeLine:=by rw[<- Paired.length rel];exact z
  have hl:(putK kvs k v).length<=sizeLine:=by have:=yc kvs k v;lia
  refine wpAny_setItem_heap (hsz:=hz) (tupleKind_room_in1 hu) (xF I.hok eb) dd fun h' dd' hs=>h _ ?_
  obtain⟨q,es,ep,hq,h2,h3,h4,_,h5⟩:=dd'
  refine jZ I (by rw[e];exact True.intro) hs ⟨q,hq⟩ ⟨hl,hd,_,(rel.put k eb rv).keeps fun c ys ec=>?_,q,es,ep,hq,h2,h3,h4,h5⟩
  rw[zi (yN ec e (fun z=>nomatch z))]
  exact ec
end
section
variable{X:Cx}{pins:List (Addr×Obj)}{σ:St}{H:Hp}{s:Shared}{a:Addr}{kvs:List (Key×V)}{k:Key}{u:Value}{A:Around}{E:Value->Shared->Prop}
end
def NoSl(i:Expr):Prop:=∀ov iv,subscripted i false ov iv=operate [ov,iv] (getItem ov iv)
theorem QC{prog:Program}{w:World}{A:Around}{E:Value->Shared->Prop}{s:Shared}{env:Env}{value slice:Expr}{pos:Pos}{T id:String}{Q:Value->Shared->Prop}
  (hl:typeLookup (.type T) "__getitem__"=pure (some (.builtin id))) (hs:NoSl slice)
  (h:wpAny (model prog w) A (eval value env) (fun o s₁=>wpAny (model prog w) A (eval slice env) (fun i s₂=>s₂.TypeIs o T/\wpAny (model prog w) A (getItem o i) Q E s₂) E s₁) E s) :
  wpAny (model prog w) A (eval (.Subscript value slice pos) env) Q E s:=by
 refine Subscript_ (wpAny_mono h (fun o s₁ h₁=>wpAny_mono h₁ (fun i s₂ h₂=>?_) fun _ _ x=>x) fun _ _ x=>x)
 obtain⟨hT,h₂⟩:=h₂
 unfold subscriptTail
 refine wpAny_bind ?_
 rw[getitemInPython_of_ne hT.not_modules]
 refine wpAny_bind (wpAny_specialOf hT hl ?_)
 have fin:wpAny (model prog w) A (subscripted slice false o i) (fun r s₃=>wpAny (model prog w) A (letTemporaryGo value o r >>= fun _=>pure r) Q E s₃) E s₂:=by
  rw[hs o i]
  exact wpAny_operating (wpAny_mono h₂ (fun r s₃ h₃=>wpAny_bind (wpAny_letTemporaryGo (wpAny_pure h₃))) fun _ _ x=>x)
 first
  |exact wpAny_pure (wpAny_bind fin)
  |exact wpAny_bind (wpAny_pure (wpAny_bind fin))
  |exact wpAny_bind fin
theorem ZJ{X:Cx}{pins:List (Addr×Obj)}{σ:St}{H:Hp}{s:Shared}{a:Addr}{y:V}{o:Option V}(I:Inv X pins σ H s)(g:DGet H a y o):s.TypeIs (.ref a) "dict":=by
 rcases g with⟨kvs,k,e,_,_⟩|⟨kvs,k,b,e,_,_,_⟩
 ·obtain⟨_,_,vs,_,dd⟩:=vt I.hok e
  exact dd.typeIs
 ·obtain⟨_,_,xs,_,dd⟩:=vv I.hok e
  exact dd.typeIs
def za1(td ty:TE):TE:=fun σ H Q=>td σ H fun x H1=>ty σ H1 fun y H2=>∃a v,x=.ref a/\DGet H2 a y (some v)/\Q v H2
def tDIn(ty td:TE):TE:=fun σ H Q=>ty σ H fun y H1=>td σ H1 fun x H2=>∃a o,x=.ref a/\DGet H2 a y o/\Q (.bl o.isSome) H2
def Xl(ty td:TE):TE:=fun σ H Q=>ty σ H fun y H1=>td σ H1 fun x H2=>∃a o,x=.ref a/\DGet H2 a y o/\Q (.bl (!o.isSome)) H2
def za2(td ty tv:TE):TS:=fun D σ H=>tv σ H fun v H1=>td σ H1 fun x H2=>ty σ H2 fun y H3=>∃a H4,x=.ref a/\DPut H3 a y v H4/\D.nx σ H4
section
variable{X:Cx}{o i e value:Expr}{pos pos' tpos:Pos}{td ty tv:TE}
theorem QD(hu:X.A.units+1 < cLine)(ho:PE X o td)(hi:PE X i ty)(hs:NoSl i):PE X (.Subscript o i pos) (za1 td ty):=by
 intro pins s σ H Q I h
 refine QC PySem.F.slot_dict_getitem.lookup hs (thn (ho pins s σ H _ I h) fun u s1 ⟨x,H1,I1,rx,q1⟩=>thn (hi pins s1 σ H1 _ I1 q1) fun iv s2 ⟨y,H2,I2,ry,a,v,ex,g,q2⟩=>?_)
 subst ex
 obtain rfl:u=Value.ref a:=rx
 exact⟨ZJ I2 g,Wc hu I2 g ry fun w' s3 I3 rw'=>⟨v,H2,I3,rw',q2⟩⟩
theorem zbZ(hu:X.A.units+1 < cLine)(hi:PE X i ty)(ho:PE X o td):PC X .In i o (tDIn ty td):=by
 intro pins s σ H Q I h
 refine thn (hi pins s σ H _ I h) fun iv s1 ⟨y,H1,I1,ry,q1⟩=>thn (ho pins s1 σ H1 _ I1 q1) fun u s2 ⟨x,H2,I2,rx,a,ov,ex,g,q2⟩=>?_
 subst ex
 obtain rfl:u=Value.ref a:=rx
 exact d_in hu I2 g ry fun s3 I3=>⟨.bl ov.isSome,H2,I3,rfl,q2⟩
theorem We(hu:X.A.units+1 < cLine)(hi:PE X i ty)(ho:PE X o td):PC X .NotIn i o (Xl ty td):=by
 intro pins s σ H Q I h
 refine thn (hi pins s σ H _ I h) fun iv s1 ⟨y,H1,I1,ry,q1⟩=>thn (ho pins s1 σ H1 _ I1 q1) fun u s2 ⟨x,H2,I2,rx,a,ov,ex,g,q2⟩=>?_
 subst ex
 obtain rfl:u=Value.ref a:=rx
 exact QB hu I2 g ry fun s3 I3=>⟨.bl (!ov.isSome),H2,I3,rfl,q2⟩
theorem QE(hu:X.A.units+1 < cLine)(ho:PE X o td)(hi:PE X i ty)(hv:PE X value tv)(hs:swapsWith value (some (.Subscript o i pos')) pos.line X.env=pure false):
  PS X (.Assign [.Subscript o i pos'] value pos) (za2 td ty tv):=by
 intro pins s σ H D I h
 refine wpAny_Assign_Subscript (thn (hv pins s σ H _ I h) fun r s1 ⟨v,H1,I1,rv,q1⟩=>thn (ho pins s1 σ H1 _ I1 q1) fun u s2 ⟨x,H2,I2,rx,q2⟩=>thn (hi pins s2 σ H2 _ I2 q2) fun iv s3 ⟨y,H3,I3,ry,a,H4,ex,g,q3⟩=>?_) hs
 subst ex
 obtain rfl:u=Value.ref a:=rx
 exact Wd hu I3 g ry rv fun s4 I4=>⟨σ,H4,I4,q3⟩
end
theorem Vq{P:Program}{w:World}{H:Hp}(h:Heap)(hb:sysModules < h.objs.size):ObjOk P w H (h.push { cls:=.type "dict",data:=.dict #[] }) h.objs.size (.dK []) :=
 ⟨uX _,beq_eq_false_iff_ne.mpr (Ne.symm (uS hb)),[],.nil,Heap.DictOf.new h⟩
theorem Vr{P:Program}{w:World}{H:Hp}(h:Heap)(hb:sysModules < h.objs.size):ObjOk P w H (h.push { cls:=.type "dict",data:=.dict #[] }) h.objs.size (.dT []) :=
 ⟨uX _,beq_eq_false_iff_ne.mpr (Ne.symm (uS hb)),[],.nil,_,#[],0,uy _ rfl,⟨rfl,rfl,rfl⟩,rfl,rfl,List.nodup_nil⟩
def Vs:TE:=fun _ H Q=>∀p,H p=none->Q (.ref p) (upd H p (.dK []))
def Vt:TE:=fun _ H Q=>∀p,H p=none->Q (.ref p) (upd H p (.dT []))
section
variable{X:Cx}{pos:Pos}
theorem Vu:PE X (.Dict [] [] pos) Vs:=fun pins s σ H Q I h =>
 wpAny_Dict_empty ⟨.ref s.heap.objs.size,_,I.laid (a:=s.heap.objs.size) (o:=.dK []) (t':=s.toks) (fun _ _ q=>ug _ q) (ud _) (Vq s.heap I.big),rfl,h _ (I.hok.fresh (ud _))⟩
theorem Vv:PE X (.Dict [] [] pos) Vt:=fun pins s σ H Q I h =>
 wpAny_Dict_empty ⟨.ref s.heap.objs.size,_,I.laid (a:=s.heap.objs.size) (o:=.dT []) (t':=s.toks) (fun _ _ q=>ug _ q) (ud _) (Vr s.heap I.big),rfl,h _ (I.hok.fresh (ud _))⟩
end
structure M2(X:Cx)(o:Expr)(m:Str)(apos:Pos)(e f:Expr)(cpos:Pos):Prop where
 base:attributeBase o m X.env (eval o X.env)=eval o X.env
 few:((backTo cpos (starEach [e,f] X.env)).all (fun x=>!x.1) && (backToKw cpos (keywordEach [] X.env)).all (fun x=>x.1.isSome)
  && decide (([e,f]:List Expr).length+([]:List Keyword).length+(if([]:List Keyword).isEmpty then 0 else 1) < 30))=true
 line:(apos.endLine == cpos.line)=true
 trees:backTo cpos (starEach [e,f] X.env)=[(false,eval e X.env),(false,eval f X.env)]
def IsD(H:Hp)(a:Addr):Prop:=(∃kvs,Rd H a (.dK kvs))\/∃kvs,Rd H a (.dT kvs)
theorem Vw{X:Cx}{pins:List (Addr×Obj)}{σ:St}{H:Hp}{s:Shared}{a:Addr}(I:Inv X pins σ H s)(d:IsD H a):
  s.TypeIs (.ref a) "dict"/\(∀b,Value.ref a=.ref b->∃ob,s.heap.get? b=some ob/\ob.dict=none)/\(a == sysModules)=false:=by
 rcases d with⟨kvs,e⟩|⟨kvs,e⟩
 ·obtain⟨_,hd,vs,_,dd⟩:=vt I.hok e
  refine⟨dd.typeIs,fun b q=>?_,hd⟩
  cases q
  obtain⟨ob,_,_,h1,h2,_⟩:=dd
  exact⟨ob,h1,h2.2.1⟩
 ·obtain⟨_,hd,xs,_,dd⟩:=vv I.hok e
  refine⟨dd.typeIs,fun b q=>?_,hd⟩
  cases q
  obtain⟨ob,_,_,h1,h2,_⟩:=dd
  exact⟨ob,h1,h2.2.1⟩
section
variable{X:Cx}{pins:List (Addr×Obj)}{σ:St}{H:Hp}{s:Shared}{a:Addr}{y d:V}{u r:Value}{o:Option V}{A:Around}{E:Value->Shared->Prop}
theorem zb0{Q:Value->Shared->Prop}(hu:A.units+1 < cLine)(I:Inv X pins σ H s)(g:DGet H a y o)(ry:RelV y u)(rd:RelV d r)(h:∀w' s',Inv X pins σ H s'->RelV (o.getD d) w'->Q w' s'):
  wpAny (model X.prog X.w) A (call (.builtin "dict.get") [.ref a,u,r]) Q E s:=by
 rcases g with⟨kvs,k,e,ey,l⟩|⟨kvs,k,b,e,ey,eb,l⟩
 ·subst ey
  obtain⟨z,hd,vs,rel,dd⟩:=vt I.hok e
  refine call_meetsIn PySem.F.slot_dict_get dd.typeIs PySem.F.entry_dict_get (PySem.F.args_dict_get_3 _ _ _) (meets_dict_get_default (ya X.prog X.w) a (jj ry) hd r) ⟨_,dd.mapOf,h _ _ (I.tok _) ?_⟩
  rw[l]
  exact(rel.val k).getD rd
 ·subst ey
  cases(show u=Value.ref b from ry)
  obtain⟨z,hd,xs,rel,dd⟩:=vv I.hok e
  refine call_meetsIn PySem.F.slot_dict_get dd.typeIs PySem.F.entry_dict_get (PySem.F.args_dict_get_3 _ _ _) (meetsH_dict_get_default (tupleKind (ya X.prog X.w)) a b hd r) ⟨tupleKind_room_in1 hu,k,xs,xF I.hok eb,dd,h _ _ (I.tok _) ?_⟩
  rw[l]
  exact(rel.val k).getD rd
end
def Vx(td ty tx:TE):TE:=fun σ H Q=>td σ H fun x H1=>∃a,x=.ref a/\IsD H1 a/\ty σ H1 fun y H2=>tx σ H2 fun z H3=>∃o,DGet H3 a y o/\Q (o.getD z) H3
section
variable{X:Cx}{o e f:Expr}{apos cpos:Pos}{td ty tx:TE}
theorem Vy(hu:X.A.units+1 < cLine)(ho:PE X o td)(he:PE X e ty)(hf:PE X f tx)(m:M2 X o "get" apos e f cpos):PE X (.Call (.Attribute o "get" apos) [e,f] [] cpos) (Vx td ty tx):=by
 intro pins s σ H Q I h
 refine wpAny_Call_method m.base m.few m.line PySem.F.plainAttrs_dict PySem.F.slot_dict_get PySem.F.type_dict_get (thn (ho pins s σ H _ I h) fun u s1 ⟨x,H1,I1,rx,a,ex,d,q1⟩=>?_)
 subst ex
 obtain rfl:u=Value.ref a:=rx
 obtain⟨t1,t2,_⟩:=Vw I1 d
 refine⟨t1,t2,?_⟩
 rw[m.trees]
 refine Calls.callWith_builtin rfl (Calls.evalArgs_plain (Calls.spliced_cons (thn (he pins s1 σ H1 _ I1 q1) fun iv s2 ⟨y,H2,I2,ry,q2⟩ =>
  Calls.spliced_cons (thn (hf pins s2 σ H2 _ I2 q2) fun fv s3 ⟨z,H3,I3,rz,ov,g,q3⟩=>Calls.spliced_nil ?_))))
 exact zb0 hu I3 g ry rz fun w' s4 I4 rw'=>⟨_,H3,I4,rw',q3⟩
end
section
variable{X:Cx}{pins:List (Addr×Obj)}{σ:St}{H:Hp}{s:Shared}{a:Addr}{kvs:List (Key×V)}{A:Around}{E:Value->Shared->Prop}
end
section
variable{X:Cx}{pins:List (Addr×Obj)}{σ:St}{H:Hp}{s:Shared}{a:Addr}{y:V}{u:Value}{A:Around}{E:Value->Shared->Prop}
end
end L2
namespace Att
open PySem PySem.W PySem.Calls PyProof.Rows
section
variable{prog:Program}{w:World}{A:Around}{E:Value->Shared->Prop}{s:Shared}{K:Frag}
end
end Att
namespace L2
open PySem PySem.Spec PyProof.Rows
section
variable{P:Program}{w:World}{K:ub}{mg:Str->Option Value}{base:Heap}
end
section
variable{X:Cx}
end
section
variable{κ:Type}[DecidableEq κ]
end
section
variable{X:Cx}{pos:Pos}
theorem vw:jE X (.Dict [] [] pos) Vs:=⟨Vu⟩
end
theorem SqK.l{K:ub}{H:Hp}{a:Addr}{xs:List V}(h:H a=some (.lst xs)):SqK true K H a xs:=SqL.of h
theorem Xm{K:ub}{k m:Bool}{a b:Addr}{xs ys:List V}{g:TG}{tb:TS}{D:Ends}{σ:St}{H:Hp}(hlen:xs.length=ys.length)(Pv:Nat->St->Hp->Prop)(h0:Pv 0 σ H)(hl:∀i σ H,i<=xs.length->Pv i σ H->SqK k K H a xs/\SqK m K H b ys)
  (hs:∀i x y T σ H,xs[i]?=some x->ys[i]?=some y->H T=none->Pv i σ H->g (.ref T) σ (upd H T (.tup [x,y])) fun σ2 H2=>tb { D with nx:=Pv (i+1),ct:=Pv (i+1),bk:=D.nx } σ2 H2) (hd:∀σ H,Pv xs.length σ H->D.nx σ H) :
  ∃W:Nat->Nat->St->Hp->Prop,(∃m,W 0 m σ H)/\∀i n σ H,W i n σ H ->
   ((Itz K k m a b).stop i H/\D.nx σ H)\/((Itz K k m a b).go i H/\∃N:St->Hp->Prop,(∀σ' H',N σ' H'->∃m',m' < n/\W (i+1) m' σ' H')/\∀x H',(Itz K k m a b).yld i H x H'->g x σ H' fun σ2 H2=>tb { D with nx:=N,ct:=N,bk:=D.nx } σ2 H2):=by
 refine⟨fun i m σ H=>m=xs.length-i/\i<=xs.length/\Pv i σ H,⟨xs.length,by simp,uX _,h0⟩,?_⟩
 rintro i n σ H ⟨rfl,hi,p⟩
 obtain⟨q1,q2⟩:=hl i σ H hi p
 by_cases hlt:i < xs.length
 ·refine .inr ⟨⟨xs,ys,xs[i],ys[i]'(by lia),q1,q2,by simp[hlt],by simp[<- hlen,hlt]⟩,Pv (i+1),fun σ' H' p'=>⟨xs.length-(i+1),by lia,rfl,hlt,p'⟩,fun x H' y=>?_⟩
  obtain⟨T,x,y,rfl,hT,rfl,e1,e2⟩:=y
  exact hs i x y T σ H (e1 xs q1) (e2 ys q2) hT p
 ·have e:i=xs.length:=by lia
  subst e
  exact .inl ⟨⟨xs,ys,q1,q2,.inl (ud _)⟩,hd σ H p⟩
def lay(H:Hp):List (Addr×HO)->Hp
 |[]=>H
 |p::r=>upd (lay H r) p.1 p.2
section
variable{X:Cx}{pins:List (Addr×Obj)}{σ:St}{H:Hp}{s:Shared}{h':Heap}
end
section
variable{X:Cx}
theorem xv{o i value:Expr}{td ty tv:TE}{pos pos':Pos}{k:Nat}(hr:Room k X.A)(ho:jE X o td)(hi:jE X i ty)(hv:jE X value tv)(hs:swapsWith value (some (.Subscript o i pos')) pos.line X.env=pure false:=by rfl):
  jS X (.Assign [.Subscript o i pos'] value pos) (za2 td ty tv):=⟨QE (by have:=hr.units;lia) ho.out hi.out hv.out hs⟩
end
section
variable{X:Cx}{pos:Pos}
theorem yb(K:ub)(h:X.K=K:=by rfl):jIx X (rIxT K):=h ▸ zY
theorem xw(K:ub){es:List Expr}{k:Nat}{gs:TGs}{n:Nat}(hc:X.calm=true)(g:jGs X es gs)(h:X.K=K:=by rfl)(hn:(assignEach es X.env).length=n:=by rfl)(hst:(assignEach es X.env).findIdx? (·.1)=none:=by rfl):jG X (.Tuple es k pos) (gTup K n gs):=h ▸ yi hc g hn hst
theorem xk(K:ub)(h:X.K=K:=by rfl):jCa X (.builtin "len") (fun xs H Q=>∃p ys,xs=[.ref p]/\(SqL K H p ys\/SqT K H p ys)/\Q (.int ys.length) H):=h ▸ vq
end
end L2
namespace K11
open PySem
def sg(c:Nat):Str:=⟨#[c]⟩
theorem vy(a:Array Nat):∀(k:Nat)(acc:Array Nat),((uT k a).foldl (· ++ ·) acc).size=acc.size+k*a.size
 |0,acc=>by simp
 |k+1,acc=>by
  rw[Uz,Uh,vy a k,Array.size_append,tM]
  lia
theorem QF{z:Str}{n:Int}(hz:z.length=1):(Txt.mul z n).length<=n.toNat:=by
 unfold Txt.mul
 split
 ·simp[Str.empty,Str.length]
 ·rename_i h
  split
  ·rw[hz];lia
  ·show((uT n.toNat z.cps).foldl (· ++ ·) #[]).size<=n.toNat
   have e:z.cps.size=1:=hz
   rw[vy,e]
   simp
theorem zb1{z:Str}{n:Int}(hz:z.length=1)(h0:0<=n)(h1:n<=1000):MulOk z n:=by
 have hs:sizeLine=16777216:=by decide
 refine⟨?_,fun a b=>?_,fun a b=>?_⟩
 ·have e1:decide (n < -(2 ^ 63:Int))=false:=decide_eq_false (by lia)
  have e2:decide (n ≥ 2 ^ 63)=false:=decide_eq_false (by lia)
  rw[e1,e2];rfl
 ·rw[hz]
  have:(1:Int)<=(2 ^ 63-1) / n:=Int.le_ediv_of_mul_le (by lia) (by lia)
  intro c
  have c':(1:Int) > (2 ^ 63-1) / n:=c
  lia
 ·rw[hz]
  unfold Builtin.Str.tooLong
  exact decide_eq_false (by rw[hs];lia)
end K11
namespace K11
open PySem PySem.Spec PyProof.Rows Builtin Builtin.Str
abbrev cl(z:Str):List Nat:=z.cps.toList
theorem xl(z:Str):(cl z).length=z.length:=by simp[Str.length]
theorem yB(x y:Str):cl (x++y)=cl x++cl y:=by
 show(x.cps++y.cps).toList=_
 simp
theorem j0{sep x y:Str}{r:List Str}:cl (Str.join sep (x::y::r))=cl x++(cl sep++cl (Str.join sep (y::r))):=by
 show cl (x++sep++Str.join sep (y::r))=_
 rw[yB,yB,Ui]
end K11
namespace GN
open PySem L2
def top(i:Nat):Stmt:=PySem.Challenge.pw_reusewise_k52_lent_without_a_reason.main.body.getD i (.Pass ⟨0,0,0,0⟩)
abbrev Vz:Stmt:=top 1
abbrev Yt:Stmt:=wQ (top 4) 0
abbrev j1:Stmt:=top 5
abbrev VA:Stmt:=top 6
abbrev Yu:Stmt:=top 8
abbrev VB:Stmt:=top 9
abbrev sTog:Stmt:=top 10
abbrev wr:Stmt:=top 11
abbrev yW:Stmt:=top 12
abbrev j2:Stmt:=top 13
abbrev xG:Stmt:=top 14
abbrev vz:Stmt:=top 15
abbrev yS:Stmt:=top 2
abbrev wu:Stmt:=top 3
abbrev vA:Stmt:=top 17
abbrev vB:Stmt:=top 18
abbrev Yv:Stmt:=wQ (top 19) 0
abbrev xH:Stmt:=wQ (top 19) 1
abbrev vC:Stmt:=wQ (top 19) 2
abbrev vD:Stmt:=top 20
abbrev wv:Stmt:=top 21
abbrev ww:Stmt:=top 22
abbrev wx:Stmt:=top 23
abbrev vE:Stmt:=top 24
abbrev Yw:Stmt:=top 25
abbrev VC:Stmt:=top 27
abbrev sNm:Stmt:=top 28
abbrev Yx:Stmt:=top 29
abbrev Yy:Stmt:=top 30
abbrev Yz:Stmt:=top 31
abbrev VD:Stmt:=top 32
abbrev YA:Stmt:=top 33
abbrev j3:Stmt:=top 34
abbrev VE:Stmt:=top 35
abbrev YB:Stmt:=top 36
abbrev VF:Stmt:=top 37
abbrev Xn:Stmt:=top 38
abbrev sDef:Stmt:=top 39
abbrev vF:Stmt:=top 40
abbrev j4:Stmt:=top 54
abbrev j5:Stmt:=top 53
abbrev sLaw:Stmt:=top 55
abbrev YC:Stmt:=top 41
abbrev wy:Stmt:=top 42
abbrev VG:Stmt:=top 43
abbrev Xo:Stmt:=top 44
abbrev wz:Stmt:=top 45
abbrev wT:Stmt:=top 46
abbrev YD:Stmt:=top 47
abbrev VH:Stmt:=top 48
abbrev YE:Stmt:=top 49
abbrev j6:Stmt:=top 50
abbrev j7:Stmt:=top 51
abbrev YF:Stmt:=top 52
end GN
namespace L2
open PySem
section
variable{X:Cx}{o i:Expr}{to ti:TE}{pos:Pos}
theorem Xp(ho:jE X o to)(hi:jE X i ti)(ha:∀v,assign (.Subscript o i pos) X.env v=(do
   let ov <- holding [v] (eval o X.env)
   let iv <- holding [v,ov] (eval i X.env)
   standAt pos
   holding [v,ov,iv] (setItem ov iv v)
   release [v,ov,iv] []):=by intro _;rfl):jG X (.Subscript o i pos) (gSub to ti zaR):=⟨zbo ho.out hi.out W1 ha⟩
theorem zb2:jOp X (binaryOp .Mult) rRep:=⟨zbO⟩
theorem YG:jMt X "list.reverse" Zx:=⟨Yn⟩
theorem QG(hc:X.calm=true):jCa X (.builtin "max") (fun xs H Q=>∃i j,xs=[.int i,.int j]/\Q (.int (if j > i then j else i)) H):=⟨X1 hc⟩
end
end L2
namespace GN
open PySem L2 K11
theorem zn{H:Hp}{p:Addr}(h:H p=none)(o:HO):Same H (upd H p o):=fun b u q=>by rw[zi (zk q h)];exact q
def LIM:Nat:=4611686018427387904
def Sta(K:ub)(H:Hp)(st:Addr)(B:Nat):Prop:=∃(a:Addr)(ns:List Int)(k:Nat),H st=some (.lst [.ref a,.int (k:Nat)])/\(a=st->∀H',SqL K H' a (ns.map V.int))/\SqL K H a (ns.map V.int)/\k<=B
structure Kp(st:Addr)(H H':Hp):Prop where
 k:∀b u,b≠st->H b=some u->H' b=some u
 s:∀a k,H st=some (.lst [.ref a,.int k])->∃k',H' st=some (.lst [.ref a,.int k'])
theorem Kp.refl{st:Addr}{H:Hp}:Kp st H H:=⟨fun _ _ _ h=>h,fun _ k h=>⟨k,h⟩⟩
theorem Kp.trans{st:Addr}{H H1 H2:Hp}(a:Kp st H H1)(b:Kp st H1 H2):Kp st H H2:=⟨fun c u n h=>b.k c u n (a.k c u n h),fun x k h=>let ⟨k',h'⟩:=a.s x k h;b.s x k' h'⟩
theorem Kp.of{st:Addr}{H H1:Hp}(a:Same H H1):Kp st H H1:=⟨fun c u _ h=>a c u h,fun _ k h=>⟨k,a _ _ h⟩⟩
theorem Kp.new{st p:Addr}{H H1:Hp}{o:HO}(a:Kp st H H1)(h:H1 p=none):Kp st H (upd H1 p o):=a.trans (.of (zn h o))
theorem Kp.put{st p:Addr}{H H1:Hp}{o:HO}(a:Kp st H H1)(h:H p=none):Kp st H (upd H1 p o):=⟨fun b u n q=>by rw[zi (zk q h)];exact a.k b u n q,fun x k q=>by
 obtain⟨k',h'⟩:=a.s x k q
 exact⟨k',by rw[zi (zk q h)];exact h'⟩⟩
theorem Kp.seq{K:ub}{st a:Addr}{H H':Hp}{xs:List V}(e:Kp st H H')(n:a≠st)(h:SqL K H a xs):SqL K H' a xs:=by
 rcases h with(h|⟨o,h⟩)|h
 ·exact .inl (.inl (e.k _ _ n h))
 ·exact .inl (.inr ⟨o,e.k _ _ n h⟩)
 ·exact .inr h
theorem Kp.free{st p:Addr}{H H':Hp}(e:Kp st H H')(n:p≠st)(h:H' p=none):H p=none:=by
 cases q:H p with
 |none=>rfl
 |some o =>
  rw[e.k p o n q]at h
  cases h
section
variable{K:ub}{H H':Hp}{st:Addr}{B B':Nat}
theorem Sta.ex(h:Sta K H st B):∃o,H st=some o:=let ⟨_,_,_,e,_⟩:=h;⟨_,e⟩
theorem Sta.mono(h:Sta K H st B)(l:B<=B'):Sta K H st B':=let ⟨a,ns,k,h1,h2,h3,h4⟩:=h;⟨a,ns,k,h1,h2,h3,Ua h4 l⟩
theorem Sta.same(h:Sta K H st B)(s:Same H H'):Sta K H' st B:=let ⟨a,ns,k,h1,h2,h3,h4⟩:=h;⟨a,ns,k,s _ _ h1,h2,s.seq h3,h4⟩
theorem Sta.new(h:Sta K H st B){p:Addr}(hp:H p=none)(o:HO):Sta K (upd H p o) st B:=h.same (zn hp o)
theorem Sta.ne{p:Addr}(h:Sta K H st B)(hp:H p=none):p≠st:=fun e=>by
 obtain⟨o,q⟩:=h.ex
 rw[e,q]at hp
 cases hp
theorem Sta.neR{p:Addr}{ts:List Addr}(h:Sta K H st B)(hp:H p=some (.lst (ts.map V.ref))):p≠st:=fun e=>by
 obtain⟨a,ns,k,h1,_⟩:=h
 rw[e,h1]at hp
 have e2:=congrArg (fun o=>match o with|some (HO.lst l)=>l|_=>[]) hp
 simp only at e2
 match ts,e2 with
 |[_,_],e2=>simp at e2
 |[],e2=>simp at e2
 |[_],e2=>simp at e2
 |_::_::_::_,e2=>simp at e2
theorem Sta.neI{p:Addr}{ts:List Int}(h:Sta K H st B)(hp:H p=some (.lst (ts.map V.int))):p≠st:=fun e=>by
 obtain⟨a,ns,k,h1,_⟩:=h
 rw[e,h1]at hp
 have e2:=congrArg (fun o=>match o with|some (HO.lst l)=>l|_=>[]) hp
 simp only at e2
 match ts,e2 with
 |[],e2=>simp at e2
 |_::_,e2=>simp at e2
theorem Sta.neS{p:Addr}{ts:List Str}(h:Sta K H st B)(hp:H p=some (.lst (ts.map V.str))):p≠st:=fun e=>by
 obtain⟨a,ns,k,h1,_⟩:=h
 rw[e,h1]at hp
 have e2:=congrArg (fun o=>match o with|some (HO.lst l)=>l|_=>[]) hp
 simp only at e2
 match ts,e2 with
 |[],e2=>simp at e2
 |_::_,e2=>simp at e2
theorem Sta.neW{p:Addr}{x:Str}{xs:List V}(h:Sta K H st B)(hp:H p=some (.lst (.str x::xs))):p≠st:=fun e=>by
 obtain⟨a,ns,k,h1,_⟩:=h
 rw[e,h1]at hp
 simp at hp
theorem Sta.put{H2:Hp}{p:Addr}{o:HO}(S0:Sta K H st B)(hp:H p=none)(k:Kp st H H2)(S2:Sta K H2 st B'):Sta K (upd H2 p o) st B':=by
 obtain⟨a,ns,i,h1,h2,h3,_⟩:=S0
 obtain⟨a',ns',i',g1,g2,g3,g4⟩:=S2
 obtain⟨k',h'⟩:=k.s a _ h1
 rw[g1]at h'
 have ea:a'=a:=by
  have:=congrArg (fun o=>match o with|some (HO.lst (V.ref x::_))=>x|_=>0) h'
  exact this
 subst ea
 have g1':upd H2 p o st=some (.lst [.ref a',.int ((i':Nat):Int)]):=by rw[zi (zk h1 hp)];exact g1
 have key:a'≠p->Sta K (upd H2 p o) st B':=fun n=>by
  refine⟨a',ns',i',g1',g2,?_,g4⟩
  rcases g3 with(g|⟨o,g⟩)|g
  ·exact .inl (.inl (by rw[zi n];exact g))
  ·exact .inl (.inr ⟨o,by rw[zi n];exact g⟩)
  ·exact .inr g
 rcases h3 with(h|⟨_,h⟩)|h
 ·exact key (zk h hp)
 ·exact key (zk h hp)
 ·exact⟨a',ns,i',g1',fun _ _=>.inr h,.inr h,g4⟩
def Tups(H H':Hp):Prop:=∀p xs,H p=some (.tup xs)->H' p=some (.tup xs)
theorem Tups.of(s:Same H H'):Tups H H':=fun p xs h=>s p _ h
theorem Tups.trans{H2:Hp}(a:Tups H H')(b:Tups H' H2):Tups H H2:=fun p xs h=>b p xs (a p xs h)
theorem Kp.tups(k:Kp st H H')(h:Sta K H st B):Tups H H':=fun p xs q=>k.k p _ (fun e=>by
 obtain⟨_,_,_,h1,_⟩:=h
 rw[e,h1]at q
 cases q) q
end
def yq(K:ub):Sp:=fun vs H Q _=>∃(st:Addr)(m:Int)(B:Nat),vs=[.ref st,.int m]/\Sta K H st B/\B < LIM/\0 < m/\∀(H':Hp)(r:Int),Kp st H H'->Sta K H' st (B+1)->0<=r->r < m->Q (.int r) H'
def LET:Str:="abcdefghijklmnopqrstuvwxyz"
theorem zb3:cl LET=(uE 26).map (97 + ·):=by decide +kernel
def lt(i:Nat):Str:=sg (97+i)
theorem zb4{i:Nat}(h:i < 26):atI LET.cps.toList (i:Int)=some (97+i):=by
 refine zP ?_
 show(cl LET)[i]?=_
 rw[zb3,ue,tE h]
 rfl
theorem j8{m:Int}(h0:0<=m)(h:m < 26):atI LET.cps.toList m=some (97+m.toNat):=by
 have e:=zb4 (i:=m.toNat) (by lia)
 rw[UX h0]at e
 exact e
theorem j9:LET.length=26:=by decide +kernel
def core(k:Nat):Str:=lt (k / 2 % 26)++("z":Str)++lt (k / 52 % 26)
def ys(k:Nat):Str:=Txt.mul "y" ((k % 2:Nat):Int)
def nm(z:Str)(b:Bool)(k:Nat):Str:=if b=true then core k++z++ys k else ys k++z++core k
theorem wU(k:Nat):cl (core k)=[97+k / 2 % 26,122,97+k / 52 % 26]:=by
 unfold core
 rw[yB,yB]
 rfl
theorem VI(k:Nat):(core k).length=3:=by rw[<- xl,wU];rfl
theorem zb5(k:Nat):(ys k).length<=1:=by
 have h:=QF (z:="y") (n:=((k % 2:Nat):Int)) rfl
 unfold ys
 lia
theorem Xq(a b:Str):(a++b).length=a.length+b.length:=by rw[<- xl,yB,uf,xl,xl]
def spNm:Sp:=fun vs H Q _=>∃(p:Addr)(z:Str)(b:Bool)(xs:List V)(k:Nat),vs=[.ref p,.int (k:Nat)]/\H p=some (.lst (.str z::.bl b::xs))/\z.length<=6/\Q (.str (nm z b k)) H
def So(l:List Int):Prop:=∀x∈l,0<=x/\x<=2
theorem So.app{a b:List Int}(h:So a)(g:So b):So (a++b):=fun x hx=>(uz.mp hx).elim (h x) (g x)
theorem So.nil:So []:=fun x hx=>by cases hx
def Xr(K:ub):Sp:=fun vs H Q _=>∃(st:Addr)(l m:Nat)(B:Nat),vs=[.ref st,.int (l:Nat),.int (m:Nat)]/\l<=m/\m<=9/\Sta K H st B/\B+11 < LIM/\∀(H':Hp)(p:Addr)(l:List Int),Kp st H H'->Sta K H' st (B+11)->H p=none->l.length<=m->So l->H' p=some (.lst (l.map V.int))->Q (.ref p) H'
section
variable{P:Program}{w:World}{K:ub}{mg:Str->Option Value}{base:Heap}{f:Addr}{fd:FuncData}
theorem scDraw:FnScope ["_law_state","_law_many","_law_k","_law_cell"] lS2 (zo VC):=.ok
theorem QH(F:Fun K "_law_draw" "_law_draw" VC f fd)(m_len:mg "len"=none):FnOk P w K mg base CX0 1 f fd lS2 (yq K):=by
 refine F.by scDraw (fun vs H Q E h=>?_) (fun cdv A outer s H vs Q E hr h=>?_)
 ·obtain⟨st,m,B,rfl,_⟩:=h
  rfl
 obtain⟨st,m,B,rfl,⟨a,ns,k,hst,hne,hS,hk⟩,hB,hm,q⟩:=h
 refine⟨_,
  (zg (sE 2 scDraw.nd (xL 0))
  (zg (yR (zx zW (jv 2) zj) (Xp (jv 0) zj))
  (zg (zy (tN vn (jv 2) (jL m_len (xL 0)))
   (zh (zu (zx y9 (xX zH (xL 0) (jv 2)) (jv 1)))) zv)
  (zg (sE 3 scDraw.nd (zx zW (zx vm (jv 2) zj) zj))
  (zg (zy (tN jg (jL m_len (xL 0)) zj)
   (zh (sE 3 scDraw.nd (zx zW (jv 3) (zx vm (xX zH (xL 0) (zx y9 (zx vm (jv 2) zj) (jL m_len (xL 0)))) (zx zW zj (jv 2)))))) zv)
  (zh (zu (zx y9 (zx y9 (jv 3) zj) (jv 1))))))))),?_⟩
 refine⟨_,rfl,ixL hst aI1 ?_⟩
 refine⟨_,rfl,_,_,rfl,rfl,_,rfl,st,_,1,1,rfl,rfl,hst,rfl,?_⟩
 have kp:Kp st H (upd H st (.lst [.ref a,.int ((k+1:Nat):Int)])):=⟨fun b u n h=>by rw[zi n];exact h,fun x y h=>by
  rw[hst]at h
  cases h
  exact⟨_,upd_same⟩⟩
 have hst1:=upd_same (H:=H) (a:=st) (o:=.lst [.ref a,.int ((k+1:Nat):Int)])
 have hS1:SqL K (upd H st (.lst [.ref a,.int ((k+1:Nat):Int)])) a (ns.map V.int):=by
  by_cases e:a=st
  ·exact hne e _
  ·exact kp.seq e hS
 have fin:∀r:Int,0<=r->r < m->Q (.int r) (upd H st (.lst [.ref a,.int ((k+1:Nat):Int)])):=fun r h0 h1=>q _ r kp ⟨a,ns,k+1,hst1,hne,hS1,by lia⟩ h0 h1
 show(tSeq _ _:TS) _ _ (upd H st (.lst [.ref a,.int ((k+1:Nat):Int)]))
 generalize upd H st (.lst [.ref a,.int ((k+1:Nat):Int)])=H1 at *
 have ix0:atI [V.ref a,V.int ((k+1:Nat):Int)] 0=some (.ref a):=aI0
 have mm:∀x:Int,0<=x % m/\x % m < m:=fun x=>⟨Int.emod_nonneg x (by lia),Int.emod_lt_of_pos x hm⟩
 refine⟨_,rfl,_,rfl,st,_,_,_,rfl,rfl,SqL.of hst1,ix0,_,_,rfl,.inl hS1,_,_,rfl,rfl,_,rfl,?_⟩
 rw[ua]
 refine ite2 (fun c=>?_) (fun c=>?_)
 ·rw[decide_eq_true_eq]at c
  have hi:k < ns.length:=by lia
  have hx:(ns.map V.int)[k]?=some (.int ns[k]):=by rw[ue,uk hi];rfl
  exact⟨_,rfl,st,_,_,_,rfl,rfl,SqL.of hst1,ix0,_,rfl,a,_,_,_,rfl,rfl,hS1,zP hx,_,rfl,_,_,rfl,rfl,hm,fin _ (mm _).1 (mm _).2⟩
 ·refine⟨_,rfl,_,_,rfl,rfl,.inr ⟨by decide,by decide⟩,_,_,rfl,rfl,?_⟩
  have tail:∀(c:Int)(D:Ends),D.rt=Q->(tRet (tOp (rI (fun _ j=>0 < j) fun i j=>V.int (i % j)) (tOp (rI (fun _ j=>0 < j) fun i j=>V.int (i % j)) (tVar 3) (tC (.int 2147483629))) (tVar 1)):TS) D [some (.ref st),some (.int m),some (.int (k:Nat)),some (.int c)] H1:=fun c D e=>by
   refine⟨_,rfl,_,_,rfl,rfl,(by show(0:Int) < _;decide),_,rfl,_,_,rfl,rfl,hm,?_⟩
   rw[e]
   exact fin _ (mm _).1 (mm _).2
  refine⟨_,rfl,st,_,_,_,rfl,rfl,SqL.of hst1,ix0,_,_,rfl,.inl hS1,_,_,rfl,rfl,_,rfl,?_⟩
  rw[ua]
  refine ite2 (fun c2=>?_) (fun c2=>tail _ _ rfl)
  rw[decide_eq_true_eq]at c2
  have hl:(0:Int) < (ns.length:Nat):=by lia
  have c0:=Int.emod_nonneg ((k:Nat)*7:Int) (show((ns.length:Nat):Int)≠0 by lia)
  have c1:=Int.emod_lt_of_pos ((k:Nat)*7:Int) hl
  have hi:(((k:Nat)*7:Int) % (ns.length:Nat)).toNat < ns.length:=by lia
  have hx:(ns.map V.int)[(((k:Nat)*7:Int) % (ns.length:Nat)).toNat]?=some (.int ns[(((k:Nat)*7:Int) % (ns.length:Nat)).toNat]):=by rw[ue,uk hi];rfl
  have hx2:atI (ns.map V.int) (((k:Nat)*7:Int) % (ns.length:Nat))=some (.int ns[(((k:Nat)*7:Int) % (ns.length:Nat)).toNat]):=by
   have e:=zP hx
   rw[UX c0]at e
   exact e
  refine⟨_,rfl,_,rfl,st,_,_,_,rfl,rfl,SqL.of hst1,ix0,_,rfl,_,_,rfl,rfl,.inr ⟨by decide,by decide⟩,_,rfl,st,_,_,_,rfl,rfl,SqL.of hst1,ix0,_,_,rfl,.inl hS1,_,_,rfl,rfl,(by rw[ua];exact hl),?_⟩
  refine⟨a,_,_,_,rfl,rfl,hS1,(by rw[ua];exact hx2),_,rfl,_,_,rfl,rfl,_,_,rfl,rfl,.inr ⟨by show -(2 ^ 64) < (48271+(k:Nat):Int);lia,by show(48271+(k:Nat):Int) < 2 ^ 64;unfold LIM at hB;lia⟩,_,_,rfl,rfl,tail _ _ rfl⟩
theorem scNm:FnScope ["_law_world_here","_law_k","_law_letters","_law_core"] lS3 (zo sNm):=.ok
theorem zc1(F:Fun K "_law_name" "_law_name" sNm f fd):FnOk P w K mg base CX0 1 f fd lS3 spNm:=by
 refine F.by scNm (fun vs H Q E h=>?_) (fun cdv A outer s H vs Q E hr h=>?_)
 ·obtain⟨p,z,b,xs,k,rfl,_⟩:=h
  rfl
 obtain⟨p,z,b,xs,k,rfl,hp,hz,q⟩:=h
 refine⟨_,
  (zg (sE 2 scNm.nd zp)
  (zg (sE 3 scNm.nd (zx yz (zx yz (xX Yq (jv 2) (zx y9 (zx yP (jv 1) zj) zj)) zp) (xX Yq (jv 2) (zx y9 (zx yP (jv 1) zj) zj))))
  (zg (zy (wp (xL 0))
   (zh (zu (zx yz (zx yz (jv 3) (xL 0)) (zx vo zp (zx y9 (jv 1) zj))))) zv)
  (zh (zu (zx yz (zx yz (zx vo zp (zx y9 (jv 1) zj)) (xL 0)) (jv 3))))))),?_⟩
 have sl:=zE
 have e1:((k:Nat):Int) / 2 % 26=((k / 2 % 26:Nat):Int):=by lia
 have e2:((k:Nat):Int) / 52 % 26=((k / 52 % 26:Nat):Int):=by lia
 have e3:((k:Nat):Int) % 2=((k % 2:Nat):Int):=by lia
 have cl3:=VI k
 have yl:=zb5 k
 have ec:(⟨#[97+(((k:Nat):Int) / 2 % 26).toNat]⟩:Str)++("z":Str)++(⟨#[97+(((k:Nat):Int) / 52 % 26).toNat]⟩:Str)=core k:=by
  rw[e1,e2]
  rfl
 suffices rest:∀c3:Str,c3=core k->(tSeq _ _:TS) { nx:=fun _ H'=>Q .non H',rt:=Q } [some (.ref p),some (.int (k:Nat)),some (.str LET),some (.str c3)] H by
  exact⟨_,rfl,_,rfl,_,_,rfl,rfl,⟨by decide,by decide⟩,_,_,rfl,rfl,(by show(0:Int) < _;decide),LET,_,_,rfl,rfl,by rw[j9];decide,j8 (by lia) (by lia),_,_,rfl,rfl,by show 1+1<=sizeLine;decide,_,rfl,_,rfl,_,_,rfl,rfl,⟨by decide,by decide⟩,_,_,rfl,rfl,(by show(0:Int) < _;decide),LET,_,_,rfl,rfl,by rw[j9];decide,j8 (by lia) (by lia),_,_,rfl,rfl,by show 2+1<=sizeLine;decide,rest _ ec⟩
 rintro _ rfl
 have mo:MulOk "y" (((k % 2:Nat):Int)):=zb1 rfl (by lia) (by lia)
 refine⟨_,rfl,ixL hp aI1 ⟨_,rfl,?_⟩⟩
 unfold nm at q
 cases b with
 |true =>
  rw[if_pos rfl]at q
  refine iteT ?_
  refine⟨_,rfl,_,rfl,ixL hp aI0 ⟨_,_,rfl,rfl,by lia,_,rfl,_,_,rfl,rfl,(by show(0:Int) < _;decide),_,_,rfl,rfl,by rw[e3];exact mo,?_⟩⟩
  rw[e3]
  exact⟨_,_,rfl,rfl,by rw[Xq];show(core k).length+z.length+(ys k).length<=_;lia,q⟩
 |false =>
  rw[if_neg (by decide)]at q
  refine iteF ?_
  refine⟨_,rfl,_,_,rfl,rfl,(by show(0:Int) < _;decide),_,_,rfl,rfl,by rw[e3];exact mo,?_⟩
  rw[e3]
  refine⟨_,rfl,ixL hp aI0 ⟨_,_,rfl,rfl,by show(ys k).length+z.length<=_;lia,_,rfl,_,_,rfl,rfl,by show(Txt.mul "y" (((k % 2:Nat):Int))++z).length+(core k).length<=_;rw[Xq];show(ys k).length+z.length+(core k).length<=_;lia,q⟩⟩
theorem QI:FnScope lS14 lS14 (zo Yx):=.ok
theorem QJ:(["_law_state","_law_least","_law_most","_law_k"]:List Str).Nodup:=by decide +kernel
theorem VJ(F:Fun K "_law_sorts" "_law_sorts" Yx f fd)(GD:Ca P w K mg base CX0 1 "_law_draw" lS2 (yq K))(m_range:mg "range"=none):FnOk P w K mg base CX0 2 f fd lS14 (Xr K):=by
 refine F.by QI (fun vs H Q E h=>?_) (fun cdv A outer s H vs Q E hr h=>?_)
 ·obtain⟨st,l,m,B,rfl,_⟩:=h
  rfl
 obtain⟨st,l,m,B,rfl,hlm,hm,hS,hB,q⟩:=h
 refine⟨_,
  (zh (zu (yk ["_law_k"] rfl (zQ rfl m_range (jA1 (zx zW (jv 1) (cA GD hr (jA2 (jv 0) (zx ym (zx zW (jv 2) zj) (jv 1))))))) (fun _ _ _ _ _=>(gN 3 QJ)) (fun _ _ _ _ _=>zR) (fun _ _ _ _ _=>(cA GD hr (jA2 (jv 0) zj)))))),?_⟩
 have sl:=zE
 refine⟨_,rfl,_,rfl,_,rfl,_,_,rfl,rfl,_,rfl,_,_,rfl,rfl,st,_,B,rfl,hS,by lia,by lia,fun H1 r k1 S1 r0 r1=>?_⟩
 refine⟨_,_,rfl,rfl,_,rfl,by lia,by lia,yu (n:=(((l:Nat):Int)+r).toNat) (fun i τ ys H'=>Kp st H H'/\Sta K H' st (B+1+i)/\(∃x,τ=[some (.ref st),some (.int (l:Nat)),some (.int (m:Nat)),x])/\∃ns:List Int,ys=ns.map V.int/\ns.length=i/\So ns) ⟨k1,S1,⟨none,rfl⟩,[],rfl,rfl,.nil⟩ ?_ ?_⟩
 ·rintro i τ ys H2 hi ⟨k2,S2,⟨x,rfl⟩,ns,rfl,hl,hso⟩
  refine⟨_,rfl,st,3,B+1+i,rfl,S2,by lia,by decide,fun H3 r3 k3 S3 q0 q1=>⟨by rw[ua];lia,k2.trans k3,S3,⟨_,rfl⟩,ns++[r3],by simp,by simp[hl],hso.app fun x hx=>by rw[ui.mp hx];exact⟨q0,by lia⟩⟩⟩
 ·rintro τ ys H2 ⟨k2,S2,_,ns,rfl,hl,hso⟩ p hp
  exact q _ p ns (k2.new hp) ((S2.mono (by lia)).new hp _) (k2.free (S2.ne hp) hp) (by lia) hso upd_same
theorem ZK:∀{zs:List Str},(∀z∈zs,z.length=1)->(Str.join "" zs).length=zs.length
 |[],_=>rfl
 |[x],h=>h x uJ
 |x::y::r,h=>by
  have ih:=ZK (zs:=y::r) fun z hz=>h z (uB _ hz)
  rw[<- xl,j0,uf,uf,xl,xl,xl,ih,h x uJ]
  show 1+(0+(y::r).length)=(y::r).length+1
  lia
theorem VL{zs:List Str}(h:∀z∈zs,z.length=1):wide "" zs=zs.length:=by
 unfold wide
 have e:∀{l:List Str},(∀z∈l,z.length=1)->(l.map (·.length)).sum=l.length:=by
  intro l
  induction l with
  |nil=>intro _;rfl
  |cons a l ih=>intro h;rw[uH,Ur,ih fun z hz=>h z (uB _ hz),h a uJ,ul];lia
 rw[e h]
 rfl
abbrev TS3:=List (Str×List Int×Int)
inductive Tri(H:Hp):TS3->List Addr->Prop
 |nil:Tri H [] []
 |cons {z:Str} {s:List Int} {k:Int} {t q:Addr} {l:TS3} {ts:List Addr}:H t=some (.tup [.str z,.ref q,.int k])->H q=some (.lst (s.map V.int))->Tri H l ts->Tri H ((z,s,k)::l) (t::ts)
theorem Tri.keep{H H':Hp}{l:TS3}{ts:List Addr}(h:Tri H l ts)(t:Tups H H')(i:∀q (s:List Int),H q=some (.lst (s.map V.int))->H' q=some (.lst (s.map V.int))):Tri H' l ts:=by
 induction h with
 |nil=>exact .nil
 |cons a b _ ih=>exact .cons (t _ _ a) (i _ _ b) ih
theorem Tri.kp{K:ub}{st:Addr}{B:Nat}{H H':Hp}{l:TS3}{ts:List Addr}(h:Tri H l ts)(S:Sta K H st B)(k:Kp st H H'):Tri H' l ts:=h.keep (k.tups S) fun q s e=>k.k _ _ (S.neI e) e
theorem Tri.app{H:Hp}{a b:TS3}{p q:List Addr}(h:Tri H a p)(g:Tri H b q):Tri H (a++b) (p++q):=by
 induction h with
 |nil=>exact g
 |cons x y _ ih=>exact .cons x y ih
theorem Tri.len{H:Hp}{l:TS3}{ts:List Addr}(h:Tri H l ts):l.length=ts.length:=by
 induction h with
 |nil=>rfl
 |cons _ _ _ ih=>rw[ul,ul,ih]
theorem Tri.get{H:Hp}:∀{l:TS3}{ts:List Addr}{i:Nat}{t:Addr},Tri H l ts->ts[i]?=some t->∃z s k q,l[i]?=some (z,s,k)/\H t=some (.tup [.str z,.ref q,.int k])/\H q=some (.lst (s.map V.int))
 |_,_,_,_,.nil,e=>by simp at e
 |_,_,0,_,.cons a b _,e=>by
  simp at e
  subst e
  exact⟨_,_,_,_,rfl,a,b⟩
 |_,_,i+1,_,.cons _ _ c,e=>by
  obtain⟨z,s,k,q,h1,h2⟩:=Tri.get (i:=i) c (by simpa using e)
  exact⟨z,s,k,q,by simpa using h1,h2⟩
structure Wo where
 z:Str
 b:Bool
 tags:TS3
 defs:TS3
structure WOk(o:Wo):Prop where
 z:o.z.length<=6
 tn:o.tags.map (·.1)=(uE 4).map (nm o.z o.b)
 tk:o.tags.map (·.2.2)=[1,1,1,2]
 ts:∀p∈o.tags,p.2.1.length<=9/\So p.2.1
 dn:o.defs.map (·.1)=(uE 3).map fun k=>nm o.z o.b (2-k)
 ds:∀p∈o.defs,p.2.1.length<=3/\So p.2.1/\0<=p.2.2/\p.2.2<=2
structure IsW(H:Hp)(o:Wo)(w:Addr):Prop where
 ex:∃(tl dl:Addr)(ts ds:List Addr),H w=some (.lst [.str o.z,.bl o.b,.ref tl,.ref dl])/\H tl=some (.lst (ts.map V.ref))/\H dl=some (.lst (ds.map V.ref))/\Tri H o.tags ts/\Tri H o.defs ds
 ok:WOk o
theorem IsW.kp{K:ub}{st w:Addr}{B:Nat}{H H':Hp}{o:Wo}(h:IsW H o w)(S:Sta K H st B)(k:Kp st H H'):IsW H' o w:=by
 obtain⟨⟨tl,dl,ts,ds,h1,h2,h3,h4,h5⟩,ok⟩:=h
 exact⟨⟨tl,dl,ts,ds,k.k _ _ (S.neW h1) h1,k.k _ _ (S.neR h2) h2,k.k _ _ (S.neR h3) h3,h4.kp S k,h5.kp S k⟩,ok⟩
theorem IsW.same{w:Addr}{H H':Hp}{o:Wo}(h:IsW H o w)(s:Same H H'):IsW H' o w:=by
 obtain⟨⟨tl,dl,ts,ds,h1,h2,h3,h4,h5⟩,ok⟩:=h
 exact⟨⟨tl,dl,ts,ds,s _ _ h1,s _ _ h2,s _ _ h3,h4.keep (.of s) (fun _ _ e=>s _ _ e),h5.keep (.of s) (fun _ _ e=>s _ _ e)⟩,ok⟩
theorem WOk.tlen{o:Wo}(h:WOk o):o.tags.length=4:=by
 have e:=congrArg tZ h.tk
 rw[ua]at e
 exact e
theorem WOk.dlen{o:Wo}(h:WOk o):o.defs.length=3:=by
 have e:=congrArg tZ h.dn
 rw[ua,ua,Us]at e
 exact e
def Xs(K:ub):Sp:=fun vs H Q _=>∃(st:Addr)(B:Nat),vs=[.ref st]/\Sta K H st B/\B+200 < LIM/\∀(H':Hp)(w:Addr)(o:Wo),Kp st H H'->Sta K H' st (B+200)->IsW H' o w->Q (.ref w) H'
theorem Wf(k:Nat):(uT k [V.int 0]).flatten=(uT k (0:Int)).map V.int:=by
 induction k with
 |zero=>rfl
 |succ k ih=>rw[Uz,tK,ih,Uz,uH];rfl
theorem YH{H:Hp}:∀(nf:Nat->Str)(R:Nat->List Int->Int->Prop)(ts:List Addr),(∀k t,ts[k]?=some t->∃q s g,H t=some (.tup [.str (nf k),.ref q,.int g])/\H q=some (.lst (s.map V.int))/\R k s g)->∃l:TS3,Tri H l ts/\l.length=ts.length/\∀k p,l[k]?=some p->p.1=nf k/\R k p.2.1 p.2.2
 |_,_,[],_=>⟨[],.nil,rfl,fun k p h=>by simp at h⟩
 |nf,R,t::ts,h=>by
  obtain⟨q,s,g,h1,h2,h3⟩:=h 0 t rfl
  obtain⟨l,a,b,c⟩:=YH (fun k=>nf (k+1)) (fun k=>R (k+1)) ts fun k u hu=>h (k+1) u (by simpa using hu)
  refine⟨(nf 0,s,g)::l,.cons h1 h2 a,by rw[ul,ul,b],fun k p hp=>?_⟩
  cases k with
  |zero =>
   simp at hp
   subst hp
   exact⟨rfl,h3⟩
  |succ k=>exact c k p (by simpa using hp)
theorem names_of{α β:Type}{f:α->β}{g:Nat->β}{l:List α}{n:Nat}(hl:l.length=n)(h:∀k p,l[k]?=some p->f p=g k):l.map f=(uE n).map g:=by
 apply List.ext_getElem?
 intro k
 rw[ue,ue]
 rcases Nat.lt_or_ge k n with c|c
 ·rw[tE c,uk (by lia)]
  simp[h k _ (uk (by lia))]
 ·rw[List.getElem?_eq_none (by lia),List.getElem?_eq_none (by simp;lia)]
  rfl
theorem scWorld:FnScope ["_law_state","_law_letters","_law_stem","_law_world_here","_law_more","_law_some","_law_k"] ["_law_state"] (zo Yy):=.ok
theorem VM(F:Fun K "_law_world" "_law_world" Yy f fd)(GD:Ca P w K mg base CX0 1 "_law_draw" lS2 (yq K))(GN':Ca P w K mg base CX0 1 "_law_name" lS3 spNm)(GS:Ca P w K mg base CX0 2 "_law_sorts" lS14 (Xr K))(m_range:mg "range"=none):FnOk P w K mg base CX0 3 f fd ["_law_state"] (Xs K):=by
 refine F.by scWorld (fun vs H Q E h=>?_) (fun cdv A outer s H vs Q E hr h=>?_)
 ·obtain⟨st,B,rfl,_⟩:=h
  rfl
 obtain⟨st,B,rfl,S0,hB,q⟩:=h
 have hr1:Room 1 _:=hr.mono (by decide)
 refine⟨_,
  (zg (sE 1 scWorld.nd zp)
  (zg (sE 2 scWorld.nd (yy PySem.F.plainAttrs_str PySem.F.slot_str_join PySem.F.type_str_join Qw zp (jA1 (Ve [6] [] rfl (zQ rfl m_range (jA1 (cA GD hr1 (jA2 (jv 0) zj)))) (fun _ _ _ _ _=>(gN 6 scWorld.nd)) (fun _ _ _ _ _=>zR) (fun _ _ _ _ _=>(xX Yq (jv 1) (cA GD hr1 (jA2 (jv 0) zj))))))))
  (zg (sE 3 scWorld.nd (zB (jA4 (jv 2) (wR zA (cA GD hr1 (jA2 (jv 0) zj)) zj (w9 _)) (zB zD) (zB zD))))
  (zg (sE 4 scWorld.nd (zx zb2 (zB (jA1 zj)) (zx vm (zx yP (cA GD hr1 (jA2 (jv 0) zj)) zj) (cA GD hr1 (jA2 (jv 0) zj)))))
  (zg (sE 5 scWorld.nd (zB (jA4 (zB zD) (zx yL (cA GS hr (jA3 (jv 0) zj zj)) (jv 4)) (cA GS hr (jA3 (jv 0) zj zj)) (zx yL (cA GS hr (jA3 (jv 0) zj zj)) (jv 4)))))
  (zg (zJ PassesOwn.never rfl (zQ rfl m_range (jA1 zj)) (gN 6 scWorld.nd)
   (zh (zG (yy uA uN uO zK (xL 3) (jA1 (zq (jA3 (cA GN' hr1 (jA2 (jv 3) (jv 6))) (xX zH (jv 5) (jv 6)) (zx zW zj (zx yP (jv 6) zj)))))))))
  (zg (zJ PassesOwn.never rfl (zQ rfl m_range (jA1 zj)) (gN 6 scWorld.nd)
   (zh (zG (yy uA uN uO zK (xL 3) (jA1 (zq (jA3 (cA GN' hr1 (jA2 (jv 3) (zx ym zj (jv 6)))) (cA GS hr (jA3 (jv 0) zj zj)) (cA GD hr1 (jA2 (jv 0) zj)))))))))
  (zh (zu (jv 3)))))))))),?_⟩
 have sl:=zE
 unfold LIM at hB
 have LM:LIM=4611686018427387904:=rfl
 refine cut5 fun r1_ hr1_=>?_
 refine⟨rfl,_,rfl,st,7,B,rfl,S0,by lia,by decide,fun H1 r k1 S1 r0 r1=>?_⟩
 refine⟨_,rfl,by lia,by lia,yu (n:=r.toNat) (fun i τ ys H'=>Kp st H H'/\Sta K H' st (B+1+i)/\(∃x,τ=[some (.ref st),some (.str LET),none,none,none,none,x])/\∃zs:List Str,ys=zs.map V.str/\zs.length=i/\∀z∈zs,z.length=1) ⟨k1,S1,⟨none,rfl⟩,[],rfl,rfl,fun z hz=>by cases hz⟩ ?_ ?_⟩
 ·rintro i τ ys H2 hi ⟨k2,S2,⟨x,rfl⟩,zs,rfl,hl,h1⟩
  refine⟨_,rfl,_,rfl,st,26,B+1+i,rfl,S2,by lia,by decide,fun H3 r3 k3 S3 q0 q1=>?_⟩
  refine⟨LET,_,_,rfl,rfl,by rw[j9];decide,j8 q0 q1,by rw[ua];lia,k2.trans k3,S3,⟨_,rfl⟩,zs++[⟨#[97+r3.toNat]⟩],by simp,by simp[hl],?_⟩
  intro z hz
  rcases uz.mp hz with hz|hz
  ·exact h1 z hz
  ·rw[ui.mp hz]
   rfl
 rintro τ ys H2 ⟨k2,S2,_,zs,rfl,hl,h1⟩ pj hpj
 refine⟨"",pj,zs,rfl,rfl,SqL.of upd_same,by rw[VL h1];lia,?_⟩
 have zl:(Str.join "" zs).length<=6:=by rw[ZK h1];lia
 replace k2:=k2.new (o:=.lst (zs.map V.str)) hpj
 replace S2:=(S2.mono (show _<=B+7 by lia)).new hpj (.lst (zs.map V.str))
 generalize upd H2 pj (.lst (zs.map V.str))=H3 at *
 generalize Str.join "" zs=z at *
 refine⟨_,rfl,_,rfl,st,2,B+7,rfl,S2,by lia,by decide,fun H4 r4 k4 S4 _ _=>?_⟩
 refine⟨rfl,sN0,fun tl h5=>⟨sN0,fun dl h6=>⟨sN4,fun w0 h7=>?_⟩⟩⟩
 generalize decide (V.int r4=V.int 1)=b at *
 have ntl:=S4.ne h5
 have S5:=S4.new h5 (.lst [])
 have ndl:=S5.ne h6
 have S6:=S5.new h6 (.lst [])
 have nw0:=S6.ne h7
 have S7:=S6.new h7 (.lst [.str z,.bl b,.ref tl,.ref dl])
 have ntd:tl≠dl:=zk (upd_same (H:=H4) (a:=tl) (o:=.lst [])) h6
 have htl:upd (upd (upd H4 tl (.lst [])) dl (.lst [])) w0 (.lst [.str z,.bl b,.ref tl,.ref dl]) tl=some (.lst []):=old h7 (old h6 upd_same)
 have hdl:upd (upd (upd H4 tl (.lst [])) dl (.lst [])) w0 (.lst [.str z,.bl b,.ref tl,.ref dl]) dl=some (.lst []):=old h7 upd_same
 have hw0:upd (upd (upd H4 tl (.lst [])) dl (.lst [])) w0 (.lst [.str z,.bl b,.ref tl,.ref dl]) w0=some (.lst [.str z,.bl b,.ref tl,.ref dl]):=upd_same
 have k7:Kp st H (upd (upd (upd H4 tl (.lst [])) dl (.lst [])) w0 (.lst [.str z,.bl b,.ref tl,.ref dl])):=(((k2.trans k4).new h5).new h6).new h7
 have f_tl:H tl=none:=(k2.trans k4).free ntl h5
 have f_dl:H dl=none:=(k2.trans k4).free ndl (by rw[<- zi (H:=H4) (a:=tl) (o:=.lst []) ntd.symm];exact h6)
 clear h5 h6 h7 S5 S6 k4 S4
 generalize upd (upd (upd H4 tl (.lst [])) dl (.lst [])) w0 (.lst [.str z,.bl b,.ref tl,.ref dl])=H5 at *
 refine⟨sN1,fun m0 h8=>?_⟩
 have S8:=S7.new h8 (.lst [.int 0])
 have nm0:=S7.ne h8
 refine⟨_,rfl,st,6,_,rfl,S8,by lia,by decide,fun H9 r9 k9 S9 q0 q1=>⟨_,_,rfl,rfl,⟨by decide,by decide⟩,_,rfl,st,7,_,rfl,S9,by lia,by decide,fun H10 r10 k10 S10 q2 q3=>?_⟩⟩
 have hmul:0<=r9 / 5*r10/\r9 / 5*r10<=6:=by
  have:r9 / 5=0\/r9 / 5=1:=by lia
  rcases this with e|e<;>rw[e]<;>lia
 have hm0:=(k9.trans k10).k _ _ nm0 (upd_same (H:=H5) (a:=m0) (o:=.lst [.int 0]))
 refine⟨_,_,rfl,rfl,.inl ⟨by lia,by lia⟩,m0,_,_,rfl,rfl,hm0,by lia,by lia,by show 1*_<=_;lia,fun pm h11=>?_⟩
 rw[Wf]
 generalize hz9:uT (r9 / 5*r10).toNat (0:Int)=zr
 have ozr:So zr:=by
  intro x hx
  rw[<- hz9]at hx
  rw[List.eq_of_mem_replicate hx]
  exact⟨by decide,by decide⟩
 have hzr:zr.length<=6:=by rw[<- hz9,UB];lia
 have k11:Kp st H5 (upd H10 pm (.lst (zr.map V.int))):=(((Kp.refl.new h8).trans k9).trans k10).new h11
 have S11:=S10.new h11 (.lst (zr.map V.int))
 have hpm:=upd_same (H:=H10) (a:=pm) (o:=.lst (zr.map V.int))
 clear hm0 h11 S10 S9 S8 k9 k10 h8
 generalize upd H10 pm (.lst (zr.map V.int))=H6 at *
 replace htl:=k11.k _ _ ntl htl
 replace hdl:=k11.k _ _ ndl hdl
 replace hw0:=k11.k _ _ nw0 hw0
 replace k11:=k7.trans k11
 refine⟨sN0,fun e0 h12=>?_⟩
 have S12:=S11.new h12 (.lst [])
 have ne0:=S11.ne h12
 refine⟨_,rfl,st,1,3,_,rfl,by decide,by decide,S12,by lia,fun H13 p1 l1 k13 S13 f1 b1 o1 hp1=>?_⟩
 have hpm13:=k13.k _ _ (S12.neI (old h12 hpm)) (old h12 hpm)
 refine⟨_,rfl,p1,pm,_,_,rfl,rfl,hp1,hpm13,by rw[ua,ua];lia,fun c1 h14=>?_⟩
 rw[<- uq]
 have S14:=S13.new h14 (.lst ((l1++zr).map V.int))
 refine⟨_,rfl,st,0,2,_,rfl,by decide,by decide,S14,by lia,fun H15 p2 l2 k15 S15 f2 b2 o2 hp2=>?_⟩
 refine⟨_,rfl,st,1,3,_,rfl,by decide,by decide,S15,by lia,fun H16 p3 l3 k16 S16 f3 b3 o3 hp3=>?_⟩
 have hpm14:=old (o:=.lst ((l1++zr).map V.int)) h14 hpm13
 have hpm15:=k15.k _ _ (S14.neI hpm14) hpm14
 have hpm16:=k16.k _ _ (S15.neI hpm15) hpm15
 refine⟨_,rfl,p3,pm,_,_,rfl,rfl,hp3,hpm16,by rw[ua,ua];lia,fun c3 h17=>?_⟩
 rw[<- uq]
 refine⟨sN4,fun sm h18=>?_⟩
 have S17:=S16.new h17 (.lst ((l3++zr).map V.int))
 have S18:=S17.new h18 (.lst [.ref e0,.ref c1,.ref p2,.ref c3])
 have k18:Kp st H6 (upd (upd H16 c3 (.lst ((l3++zr).map V.int))) sm (.lst [.ref e0,.ref c1,.ref p2,.ref c3])):=((((((Kp.refl.new h12).trans k13).new h14).trans k15).trans k16).new h17).new h18
 have he0:=(((((k13.new h14).trans k15).trans k16).new h17).new (o:=.lst [.ref e0,.ref c1,.ref p2,.ref c3]) h18).k _ _ ne0 (upd_same (H:=H6) (a:=e0) (o:=.lst []))
 have hc1:=(((k15.trans k16).new h17).new (o:=.lst [.ref e0,.ref c1,.ref p2,.ref c3]) h18).k c1 _ (S13.ne h14) (upd_same (H:=H13) (a:=c1) (o:=.lst ((l1++zr).map V.int)))
 have hp2':=((k16.new h17).new (o:=.lst [.ref e0,.ref c1,.ref p2,.ref c3]) h18).k _ _ (S15.neI hp2) hp2
 have hc3:=old (o:=.lst [.ref e0,.ref c1,.ref p2,.ref c3]) h18 (upd_same (H:=H16) (a:=c3) (o:=.lst ((l3++zr).map V.int)))
 have hsm:=upd_same (H:=upd H16 c3 (.lst ((l3++zr).map V.int))) (a:=sm) (o:=.lst [.ref e0,.ref c1,.ref p2,.ref c3])
 have k13':=(Kp.refl.new (o:=.lst []) h12).trans k13
 have k16':=((k13'.new (o:=.lst ((l1++zr).map V.int)) h14).trans k15).trans k16
 have apart:∀p,p≠st->H6 p=some (.lst [])->p≠e0/\p≠c1/\p≠p2/\p≠c3/\p≠sm:=fun p n hp=>by
  have g13:=k13'.k _ _ n hp
  have g16:=k16'.k _ _ n hp
  exact⟨zk hp h12,zk g13 h14,zk (old h14 g13) f2,zk g16 h17,zk (old h17 g16) h18⟩
 obtain⟨nt0,nt1,nt2,nt3,nts⟩:=apart tl ntl htl
 obtain⟨nd0,nd1,nd2,nd3,nds⟩:=apart dl ndl hdl
 replace htl:=k18.k _ _ ntl htl
 replace hdl:=k18.k _ _ ndl hdl
 replace hw0:=k18.k _ _ nw0 hw0
 have kA:=k11.trans k18
 have nwt:w0≠tl:=yN hw0 htl (by intro e;cases e)
 have nwd:w0≠dl:=yN hw0 hdl (by intro e;cases e)
 replace S18:=S18.mono (show _<=B+43 by lia)
 have n0s:=ne0
 have n1s:=S18.neI hc1
 have n2s:=S18.neI hp2'
 have n3s:=S18.neI hc3
 have nss:=S18.neR (ts:=[e0,c1,p2,c3]) hsm
 clear hp1 hpm13 hp3 hpm16 hpm15 hpm14 hpm hp2 S17 S16 S15 S14 S13 S12 S11 k13' k16' k13 k15 k16 k18 apart S7 k7 k11
 generalize upd (upd H16 c3 (.lst ((l3++zr).map V.int))) sm (.lst [.ref e0,.ref c1,.ref p2,.ref c3])=H0 at *
 let Fx:Hp->Prop:=fun H'=>∀b u,b≠st->b≠tl->b≠dl->H0 b=some u->H' b=some u
 have Fx.kp:∀{H1 H2:Hp},Fx H1->Kp st H1 H2->Fx H2:=fun f k b u n1 n2 n3 h=>k.k _ _ n1 (f b u n1 n2 n3 h)
 have Fx.tl:∀{H1:Hp}{o:HO},Fx H1->Fx (upd H1 tl o):=fun f b u n1 n2 n3 h=>by rw[zi n2];exact f b u n1 n2 n3 h
 have Fx.dl:∀{H1:Hp}{o:HO},Fx H1->Fx (upd H1 dl o):=fun f b u n1 n2 n3 h=>by rw[zi n3];exact f b u n1 n2 n3 h
 let AD:Nat->Addr:=fun k=>if k=0 then e0 else if k=1 then c1 else if k=2 then p2 else c3
 let SS:Nat->List Int:=fun k=>if k=0 then[]else if k=1 then l1++zr else if k=2 then l2 else l3++zr
 have hAD:∀{H':Hp}(k:Nat),Fx H'->H' (AD k)=some (.lst ((SS k).map V.int)):=fun{H'} k fx=>by
  show H' (if k=0 then e0 else if k=1 then c1 else if k=2 then p2 else c3)=some (.lst ((if k=0 then([]:List Int)else if k=1 then l1++zr else if k=2 then l2 else l3++zr).map V.int))
  by_cases c0:k=0
  ·rw[if_pos c0,if_pos c0];exact fx _ _ n0s nt0.symm nd0.symm he0
  ·rw[if_neg c0,if_neg c0]
   by_cases c1:k=1
   ·rw[if_pos c1,if_pos c1];exact fx _ _ n1s nt1.symm nd1.symm hc1
   ·rw[if_neg c1,if_neg c1]
    by_cases c2:k=2
    ·rw[if_pos c2,if_pos c2];exact fx _ _ n2s nt2.symm nd2.symm hp2'
    ·rw[if_neg c2,if_neg c2];exact fx _ _ n3s nt3.symm nd3.symm hc3
 have hSS:∀k,(SS k).length<=9/\So (SS k):=fun k=>by
  show(if k=0 then([]:List Int)else if k=1 then l1++zr else if k=2 then l2 else l3++zr).length<=9/\So (if k=0 then([]:List Int)else if k=1 then l1++zr else if k=2 then l2 else l3++zr)
  split
  ·exact⟨by decide,.nil⟩
  ·split
   ·exact⟨by rw[uf];lia,o1.app ozr⟩
   ·split
    ·exact⟨by lia,o2⟩
    ·exact⟨by rw[uf];lia,o3.app ozr⟩
 have aAD:∀k,k < 4->[V.ref e0,V.ref c1,V.ref p2,V.ref c3][k]?=some (V.ref (AD k)):=fun k hk=>by
  match k,hk with
  |0,_=>rfl
  |1,_=>rfl
  |2,_=>rfl
  |3,_=>rfl
 subst hr1_
 refine⟨_,rfl,by decide,by decide,yT (n:=4) (fun i σ H'=>Fx H'/\Kp st H H'/\Sta K H' st (B+43)/\H' dl=some (.lst [])/\(∃ts:List Addr,H' tl=some (.lst (ts.map V.ref))/\ts.length=i/\∀k t,ts[k]?=some t->H' t=some (.tup [.str (nm z b k),.ref (AD k),.int (1+((k:Nat):Int) / 3)]))/\∃x,σ=[some (.ref st),some (.str LET),some (.str z),some (.ref w0),some (.ref pm),some (.ref sm),x])
  ⟨fun b u _ _ _ h=>h,kA,S18,hdl,⟨[],htl,rfl,fun k t h=>by simp at h⟩,none,rfl⟩ ?_ ?_⟩
 ·rintro i σ H1 hi ⟨fx,kp,S1,hd1,⟨ts,ht1,hl1,hts⟩,x,rfl⟩
  have hw1:=fx _ _ nw0 nwt nwd hw0
  unfold xg
  dsimp only[List.set]
  refine cutD (fun D_ fin=>?_) (fun _ _ h=>h)
  refine⟨_,rfl,ixL hw1 aI2 ⟨.inl ⟨rfl,_,SqL.of ht1⟩,_,rfl,_,rfl,w0,z,b,_,i,(by show[V.ref w0,V.int (0+(i:Nat))]=_;rw[tH]),hw1,zl,?_⟩⟩
  refine⟨_,rfl,_,rfl,sm,_,_,_,rfl,rfl,SqL.of (fx _ _ nss nts.symm nds.symm hsm),(by rw[tH];exact zP (aAD i hi)),_,rfl,_,_,rfl,rfl,⟨by decide,by decide⟩,_,_,rfl,rfl,sN3,fun t ht=>?_⟩
  rw[tH]
  have tp:Tups H1 (upd (upd H1 t (.tup [.str (nm z b i),.ref (AD i),.int (1+((i:Nat):Int) / 3)])) tl (.lst (ts.map V.ref++[.ref t]))):=fun p xs hp=>by
   rw[zi (yN hp ht1 (by intro e;cases e))]
   exact old ht hp
  refine⟨tl,_,_,rfl,rfl,old ht ht1,by rw[ua];lia,fin _ _ ⟨Fx.tl (Fx.kp fx (Kp.refl.new ht)),(kp.new ht).put f_tl,Sta.put S0 f_tl (kp.new ht) (S1.new ht _),?_,⟨ts++[t],by rw[upd_same];simp,by simp[hl1],fun k u hu=>?_⟩,_,rfl⟩⟩
  ·rw[zi ntd.symm]
   exact old ht hd1
  ·rcases Nat.lt_or_ge k ts.length with c|c
   ·rw[Uc c]at hu
    exact tp _ _ (hts k u hu)
   ·rw[Ul c]at hu
    have c':k=i:=by
     have:=(uc.mp hu).1
     simp at this
     lia
    subst c'
    rw[hl1,Nat.sub_self]at hu
    simp at hu
    subst hu
    rw[zi (zk ht1 ht).symm]
    exact upd_same
 rintro σ H1 ⟨fx1,kp1,S1,hd1,⟨ts,ht1,hl1,hts⟩,x,rfl⟩
 refine⟨_,rfl,by decide,by decide,yT (n:=3) (fun i σ H'=>Fx H'/\Kp st H H'/\Sta K H' st (B+43+12*i)/\(H' tl=some (.lst (ts.map V.ref))/\∀k t,ts[k]?=some t->H' t=some (.tup [.str (nm z b k),.ref (AD k),.int (1+((k:Nat):Int) / 3)]))/\(∃ds:List Addr,H' dl=some (.lst (ds.map V.ref))/\ds.length=i/\∀k t,ds[k]?=some t->∃(q:Addr)(s:List Int)(g:Int),H' t=some (.tup [.str (nm z b (2-k)),.ref q,.int g])/\H' q=some (.lst (s.map V.int))/\(s.length<=3/\So s/\0<=g/\g<=2)/\q≠dl/\q≠st)/\∃x,σ=[some (.ref st),some (.str LET),some (.str z),some (.ref w0),some (.ref pm),some (.ref sm),x])
  ⟨fx1,kp1,S1,⟨ht1,hts⟩,⟨[],hd1,rfl,fun k t h=>by simp at h⟩,_,rfl⟩ ?_ ?_⟩
 ·rintro i σ H2 hi ⟨fx,kp,S2,⟨ht2,hts2⟩,⟨ds,hd2,hl2,hds⟩,x,rfl⟩
  have hw1:=fx _ _ nw0 nwt nwd hw0
  have e2:(2:Int)-(0+(i:Nat))=((2-i:Nat):Int):=by lia
  unfold xg
  dsimp only[List.set]
  refine cutD (fun D_ fin=>?_) (fun _ _ h=>h)
  refine⟨_,rfl,ixL hw1 aI3 ⟨.inl ⟨rfl,_,SqL.of hd2⟩,_,rfl,_,rfl,_,_,rfl,rfl,w0,z,b,_,2-i,(by show[V.ref w0,V.int (2-(0+(i:Nat)))]=_;rw[e2]),hw1,zl,?_⟩⟩
  refine⟨_,rfl,st,0,3,_,rfl,by decide,by decide,S2,by lia,fun H3 p l k3 S3 f3 b3 o3 hp3=>?_⟩
  refine⟨_,rfl,st,3,_,rfl,S3,by lia,by decide,fun H4 r k4 S4 g0 g1=>⟨sN3,fun t ht=>?_⟩⟩
  have k24:=k3.trans k4
  have hp4:=k4.k _ _ (S3.neI hp3) hp3
  have hd4:=k24.k _ _ ndl hd2
  have ht4:=k24.k _ _ ntl ht2
  have npd:p≠dl:=(zk hd2 f3).symm
  have tp:Tups H2 (upd (upd H4 t (.tup [.str (nm z b (2-i)),.ref p,.int r])) dl (.lst (ds.map V.ref++[.ref t]))):=fun a xs ha=>by
   have g:=k24.tups S2 _ _ ha
   rw[zi (yN g hd4 (by intro e;cases e))]
   exact old ht g
  have kpt:=(kp.trans k24).new (o:=.tup [.str (nm z b (2-i)),.ref p,.int r]) ht
  refine⟨dl,_,_,rfl,rfl,old ht hd4,by rw[ua];lia,fin _ _ ⟨Fx.dl (Fx.kp fx (k24.new ht)),kpt.put f_dl,Sta.put S0 f_dl kpt ((S4.mono (by lia)).new ht _),⟨?_,fun k u hu=>tp _ _ (hts2 k u hu)⟩,⟨ds++[t],by rw[upd_same];simp,by simp[hl2],fun k u hu=>?_⟩,_,rfl⟩⟩
  ·rw[zi ntd]
   exact old ht ht4
  ·rcases Nat.lt_or_ge k ds.length with c|c
   ·rw[Uc c]at hu
    obtain⟨q,s,g,h1,h2,h3,h4,h5⟩:=hds k u hu
    exact⟨q,s,g,tp _ _ h1,by rw[zi h4];exact old ht (k24.k _ _ h5 h2),h3,h4,h5⟩
   ·rw[Ul c]at hu
    have c':k=i:=by
     have:=(uc.mp hu).1
     simp at this
     lia
    subst c'
    rw[hl2,Nat.sub_self]at hu
    simp at hu
    subst hu
    exact⟨p,l,r,by rw[zi (zk hd4 ht).symm];exact upd_same,by rw[zi npd];exact old ht hp4,⟨b3,o3,g0,by lia⟩,npd,S3.neI hp3⟩
 rintro σ H2 ⟨fx,kp,S2,⟨ht2,hts2⟩,⟨ds,hd2,hl2,hds⟩,x,rfl⟩
 obtain⟨tags,hT,lT,aT⟩:=YH (H:=H2) (nm z b) (fun k s g=>(s.length<=9/\So s)/\g=1+((k:Nat):Int) / 3) ts fun k t h=>⟨AD k,SS k,_,hts2 k t h,hAD k fx,hSS k,rfl⟩
 obtain⟨defs,hD,lD,aD⟩:=YH (H:=H2) (fun k=>nm z b (2-k)) (fun k s g=>s.length<=3/\So s/\0<=g/\g<=2) ds fun k t h=>by
  obtain⟨q,s,g,h1,h2,h3,_⟩:=hds k t h
  exact⟨q,s,g,h1,h2,h3⟩
 refine⟨_,rfl,q _ w0 ⟨z,b,tags,defs⟩ kp (S2.mono (by lia)) ⟨⟨tl,dl,ts,ds,fx _ _ nw0 nwt nwd hw0,ht2,hd2,hT,hD⟩,?_⟩⟩
 refine⟨zl,names_of (by show tags.length=4;lia) fun k p h=>(aT k p h).1,?_,fun p hp=>?_,names_of (by show defs.length=3;lia) fun k p h=>(aD k p h).1,fun p hp=>?_⟩
 ·have e:([1,1,1,2]:List Int)=(uE 4).map fun k=>1+((k:Nat):Int) / 3:=by decide
  show tags.map (·.2.2)=[1,1,1,2]
  rw[e]
  exact names_of (by lia) fun k p h=>(aT k p h).2.2
 ·obtain⟨k,h⟩:=UD.mp hp
  exact(aT k p h).2.1
 ·obtain⟨k,h⟩:=UD.mp hp
  exact(aD k p h).2
inductive Tps(H:Hp):List (Str×Int)->List Addr->Prop
 |nil:Tps H [] []
 |cons {a:Str} {s:Int} {t:Addr} {l:List (Str×Int)} {ts:List Addr}:H t=some (.tup [.str a,.int s])->Tps H l ts->Tps H ((a,s)::l) (t::ts)
theorem Tps.keep{H H':Hp}(t:Tups H H'){l:List (Str×Int)}{ts:List Addr}(h:Tps H l ts):Tps H' l ts:=by
 induction h with
 |nil=>exact .nil
 |cons a _ ih=>exact .cons (t _ _ a) ih
theorem Tps.app{H:Hp}{a b:List (Str×Int)}{p q:List Addr}(h:Tps H a p)(g:Tps H b q):Tps H (a++b) (p++q):=by
 induction h with
 |nil=>exact g
 |cons x _ ih=>exact .cons x ih
theorem Tps.len{H:Hp}{l:List (Str×Int)}{ts:List Addr}(h:Tps H l ts):l.length=ts.length:=by
 induction h with
 |nil=>rfl
 |cons _ _ ih=>rw[ul,ul,ih]
theorem Tps.get{H:Hp}:∀{l:List (Str×Int)}{ts:List Addr}{i:Nat}{t:Addr},Tps H l ts->ts[i]?=some t->∃a s,l[i]?=some (a,s)/\H t=some (.tup [.str a,.int s])
 |_,_,_,_,.nil,e=>by simp at e
 |_,_,0,_,.cons a _,e=>by
  simp at e
  subst e
  exact⟨_,_,rfl,a⟩
 |_,_,i+1,_,.cons _ b,e=>by
  obtain⟨a,s,h1,h2⟩:=Tps.get (i:=i) b (by simpa using e)
  exact⟨a,s,by simpa using h1,h2⟩
theorem vG{α β:Type}{l:List α}{i:Nat}{x:α}(f:α->β)(h:l[i]?=some x):(l.take i).map f++[f x]=(l.take (i+1)).map f:=by
 rw[uv,h,uq]
 rfl
theorem xm{α:Type}{l:List α}{i:Nat}{x:α}(p:α->Bool)(h:l[i]?=some x):(l.take (i+1)).filter p=(l.take i).filter p++(if p x=true then[x]else[]):=by
 rw[uv,h,List.filter_append]
 congr 1
 cases e:p x<;>simp[e]
structure Sc(H:Hp)(l:List (Str×Int))(sc:Addr):Prop where
 ex:∃ts,H sc=some (.lst (ts.map V.ref))/\Tps H l ts
 n:l.length<=1000
 s:∀p∈l,0<=p.2/\p.2<=13
theorem Sc.kp{K:ub}{st sc:Addr}{B:Nat}{H H':Hp}{l:List (Str×Int)}(h:Sc H l sc)(S:Sta K H st B)(k:Kp st H H'):Sc H' l sc:=by
 obtain⟨⟨ts,h1,h2⟩,n,s⟩:=h
 exact⟨⟨ts,k.k _ _ (S.neR h1) h1,h2.keep (k.tups S)⟩,n,s⟩
theorem Sc.same{sc:Addr}{H H':Hp}{l:List (Str×Int)}(h:Sc H l sc)(k:Same H H'):Sc H' l sc:=by
 obtain⟨⟨ts,h1,h2⟩,n,s⟩:=h
 exact⟨⟨ts,k _ _ h1,h2.keep (.of k)⟩,n,s⟩
def vH(K:ub):Sp:=fun vs H Q _=>∃(st sc:Addr)(s:Int)(B:Nat)(l:List (Str×Int)),vs=[.ref st,.ref sc,.int s]/\Sta K H st B/\B+2 < LIM/\Sc H l sc/\l≠[]/\∀(H':Hp)(x:Str),Kp st H H'->Sta K H' st (B+2)->x∈l.map (·.1)->Q (.str x) H'
def Za(K:ub):Sp:=fun vs H Q _=>∃(st sc q:Addr)(s:List Int)(B:Nat)(l:List (Str×Int)),vs=[.ref st,.ref sc,.ref q]/\Sta K H st B/\B+80 < LIM/\Sc H l sc/\l≠[]/\H q=some (.lst (s.map V.int))/\s.length<=40/\∀(H':Hp)(p:Addr)(xs:List Str),Kp st H H'->Sta K H' st (B+80)->H' p=some (.tup (xs.map V.str))->xs.length=s.length->(∀x∈xs,x∈l.map (·.1))->Q (.ref p) H'
theorem scPick:FnScope ["_law_state","_law_scope","_law_sort","_law_some"] lS6 (zo VD):=.ok
theorem Zb:(["_law_state","_law_scope","_law_sort","_law_some","_law_name_here","_law_one"]:List Str).Nodup:=by decide +kernel
theorem QK(F:Fun K "_law_pick" "_law_pick" VD f fd)(GD:Ca P w K mg base CX0 1 "_law_draw" lS2 (yq K))(m_len:mg "len"=none):FnOk P w K mg base CX0 2 f fd lS6 (vH K):=by
 refine F.by scPick (fun vs H Q E h=>?_) (fun cdv A outer s H vs Q E hr h=>?_)
 ·obtain⟨st,sc,s,B,l,rfl,_⟩:=h
  rfl
 obtain⟨st,sc,s,B,l,rfl,S0,hB,hSc,hl0,q⟩:=h
 obtain⟨⟨ts,hsc,hT⟩,hn,_⟩:=hSc
 refine⟨_,
  (zg (yp ["_law_name_here","_law_one"] (i:=3) scPick.nd rfl (Or.inl rfl) rfl (zF (jv 1)) (fun _ _ _ _ _=>(xw K (n:=2) rfl (zt (gN 4 Zb) (zt (gN 5 Zb) zL)))) (fun _ _ _ _ _=>(yG (tN zA (jv 5) (jv 2)))) (fun _ _ _ _ _=>(jv 4)))
  (zg (zy (jW.pt (wM (tN (jV hr) (jv 3) (zB zD)) (xD (tN zA (cA GD hr (jA2 (jv 0) zj)) zj))))
   (zh (yp ["_law_name_here","_law_one"] (i:=3) scPick.nd rfl (Or.inl rfl) rfl (zF (jv 1)) (fun _ _ _ _ _=>(xw K (n:=2) rfl (zt (gN 4 Zb) (zt (gN 5 Zb) zL)))) (fun _ _ _ _ _=>zR) (fun _ _ _ _ _=>(jv 4)))) zv)
  (zh (zu (xX zH (jv 3) (cA GD hr (jA2 (jv 0) (jL m_len (jv 3))))))))),?_⟩
 have sl:=zE
 have LM:LIM=4611686018427387904:=rfl
 have htl:=hT.len
 refine(show ∀(u:TS)(D:Ends),(∀(H':Hp)(p:Addr)(xs:List Str),Kp st H H'->Sta K H' st (B+1)->H' p=some (.lst (xs.map V.str))->xs≠[]->(∀x∈xs,x∈l.map (·.1))->u D [some (.ref st),some (.ref sc),some (.int s),some (.ref p)] H')->(tSeq _ (tSeq _ u):TS) D _ H from ?key) _ _ ?rest
 case key =>
  intro u D tail
  refine⟨_,rfl,_,rfl,⟨_,SqL.of hsc⟩,zX (xs:=ts.map V.ref) (fun j τ ys H'=>H=H'/\(∃u v,τ=[some (.ref st),some (.ref sc),some (.int s),none,u,v])/\ys=((l.take j).filter fun a=>decide (V.int a.2=V.int s)).map fun a=>V.str a.1) ⟨rfl,⟨none,none,rfl⟩,rfl⟩ (fun j τ ys H' _ h=>by rw[<- h.1];exact SqL.of hsc) ?_ ?_⟩
  ·rintro j v τ ys H3 hv ⟨rfl,⟨u,v',rfl⟩,rfl⟩
   rw[ue]at hv
   obtain⟨tq,htq,rfl⟩:=uh.mp hv
   obtain⟨a,n,e1,e2⟩:=hT.get htq
   have hj:j < l.length:=(uc.mp e1).1
   have tf:=xm (fun a:Str×Int=>decide (V.int a.2=V.int s)) e1
   refine⟨_,_,rfl,SqT.of e2,rfl,_,_,rfl,_,_,rfl,rfl,_,rfl,_,rfl,rfl,_,rfl,?_⟩
   refine ite2 (fun c=>?_) (fun c=>?_)
   ·refine⟨_,rfl,?_,rfl,⟨_,_,rfl⟩,?_⟩
    ·rw[ua]
     have:=U0 (fun a:Str×Int=>decide (V.int a.2=V.int s)) (l.take j)
     rw[uD]at this
     lia
    ·rw[tf,if_pos c,uq]
     rfl
   ·refine⟨rfl,⟨_,_,rfl⟩,?_⟩
    rw[tf,if_neg c,uu]
  rintro τ ys H3 ⟨rfl,_,rfl⟩ p1 hp1
  rw[ua,<- htl,uj (ud _)]
  generalize hf:l.filter (fun a:Str×Int=>decide (V.int a.2=V.int s))=fl
  have hfm:∀x∈fl.map (·.1),x∈l.map (·.1):=fun x hx=>by
   obtain⟨a,h1,h2⟩:=uC.mp hx
   rw[<- hf]at h1
   exact uC.mpr ⟨a,(UT.mp h1).1,h2⟩
  have em:(fl.map fun a=>V.str a.1)=(fl.map (·.1)).map V.str:=by rw[tQ];rfl
  rw[em]
  have k1:Kp st H (upd H p1 (.lst ((fl.map (·.1)).map V.str))):=Kp.refl.new hp1
  have S1:=S0.new hp1 (.lst ((fl.map (·.1)).map V.str))
  have h1:=upd_same (H:=H) (a:=p1) (o:=.lst ((fl.map (·.1)).map V.str))
  generalize upd H p1 (.lst ((fl.map (·.1)).map V.str))=H4 at *
  refine⟨_,rfl,sN0,fun pe h2=>?_⟩
  have k2:=k1.new (o:=.lst []) h2
  have S2:=S1.new h2 (.lst [])
  have h12:=old (o:=.lst []) h2 h1
  refine⟨_,_,_,rfl,rfl,SqL.of h12,SqL.of upd_same,_,rfl,?_⟩
  show if(if false=true then !((fl.map (·.1)).map V.str).isEmpty else((fl.map (·.1)).map V.str).isEmpty)=true then _ else _
  generalize upd H4 pe (.lst [])=H5 at *
  by_cases hfe:fl=[]
  ·have e0:((fl.map (·.1)).map V.str).isEmpty=true:=by rw[hfe];rfl
   rw[e0]
   refine iteT ?_
   obtain⟨hsc2,hT2⟩:H5 sc=some (.lst (ts.map V.ref))/\Tps H5 l ts:=⟨(k2).k _ _ (S0.neR hsc) hsc,hT.keep ((k2).tups S0)⟩
   refine⟨_,rfl,_,rfl,⟨_,SqL.of hsc2⟩,zX (xs:=ts.map V.ref) (fun j τ ys H'=>H5=H'/\(∃u v,τ=[some (.ref st),some (.ref sc),some (.int s),some (.ref p1),u,v])/\ys=(l.take j).map fun a=>V.str a.1) ⟨rfl,⟨none,none,rfl⟩,rfl⟩ (fun j τ ys H' _ h=>by rw[<- h.1];exact SqL.of hsc2) ?_ ?_⟩
   ·rintro j v τ ys H3 hv ⟨rfl,⟨u,v',rfl⟩,rfl⟩
    rw[ue]at hv
    obtain⟨tq,htq,rfl⟩:=uh.mp hv
    obtain⟨a,n,e1,e2⟩:=hT2.get htq
    have hj:j < l.length:=(uc.mp e1).1
    refine⟨_,_,rfl,SqT.of e2,rfl,_,_,rfl,_,_,rfl,rfl,_,rfl,?_,rfl,⟨_,_,rfl⟩,vG (fun a:Str×Int=>V.str a.1) e1⟩
    rw[ua,uD]
    lia
   ·rintro τ ys H3 ⟨rfl,_,rfl⟩ p2 hp2
    rw[ua,<- htl,uj (ud _)]
    have em:(l.map fun a=>V.str a.1)=(l.map (·.1)).map V.str:=by rw[tQ];rfl
    rw[em]
    exact tail _ p2 (l.map (·.1)) ((k2).new hp2) (((S2).mono (by lia)).new hp2 _) upd_same (by simpa using hl0) (fun x hx=>hx)
  ·have e0:((fl.map (·.1)).map V.str).isEmpty=false:=by
    cases fl with
    |nil=>exact absurd rfl hfe
    |cons _ _=>rfl
   rw[e0]
   refine iteF ?_
   refine⟨_,rfl,st,16,B,rfl,S2,by lia,by decide,fun H6 r k6 S6 _ _=>?_⟩
   have k26:=k2.trans k6
   refine⟨rfl,_,rfl,?_⟩
   refine ite2 (fun _=>?_) (fun _=>?_)
   ·obtain⟨hsc2,hT2⟩:H6 sc=some (.lst (ts.map V.ref))/\Tps H6 l ts:=⟨(k26).k _ _ (S0.neR hsc) hsc,hT.keep ((k26).tups S0)⟩
    refine⟨_,rfl,_,rfl,⟨_,SqL.of hsc2⟩,zX (xs:=ts.map V.ref) (fun j τ ys H'=>H6=H'/\(∃u v,τ=[some (.ref st),some (.ref sc),some (.int s),some (.ref p1),u,v])/\ys=(l.take j).map fun a=>V.str a.1) ⟨rfl,⟨none,none,rfl⟩,rfl⟩ (fun j τ ys H' _ h=>by rw[<- h.1];exact SqL.of hsc2) ?_ ?_⟩
    ·rintro j v τ ys H3 hv ⟨rfl,⟨u,v',rfl⟩,rfl⟩
     rw[ue]at hv
     obtain⟨tq,htq,rfl⟩:=uh.mp hv
     obtain⟨a,n,e1,e2⟩:=hT2.get htq
     have hj:j < l.length:=(uc.mp e1).1
     refine⟨_,_,rfl,SqT.of e2,rfl,_,_,rfl,_,_,rfl,rfl,_,rfl,?_,rfl,⟨_,_,rfl⟩,vG (fun a:Str×Int=>V.str a.1) e1⟩
     rw[ua,uD]
     lia
    ·rintro τ ys H3 ⟨rfl,_,rfl⟩ p2 hp2
     rw[ua,<- htl,uj (ud _)]
     have em:(l.map fun a=>V.str a.1)=(l.map (·.1)).map V.str:=by rw[tQ];rfl
     rw[em]
     exact tail _ p2 (l.map (·.1)) ((k26).new hp2) (((S6).mono (by lia)).new hp2 _) upd_same (by simpa using hl0) (fun x hx=>hx)
   ·exact tail _ p1 (fl.map (·.1)) k26 S6 (k6.k _ _ (S2.neS h12) h12) (by simpa using hfe) hfm
 case rest =>
  intro H' p xs kp S1 hp hx hm
  have h0:0 < xs.length:=UM.mpr hx
  refine⟨_,rfl,_,rfl,_,rfl,_,_,rfl,.inl (SqL.of hp),st,_,_,rfl,S1,by lia,(by rw[ua];lia),fun H2 r k2 S2 r0 r1=>?_⟩
  rw[ua]at r1
  have hi:r.toNat < xs.length:=by lia
  have e:atI (xs.map V.str) r=some (.str xs[r.toNat]):=by
   have g:(xs.map V.str)[r.toNat]?=some (.str xs[r.toNat]):=by rw[ue,uk hi];rfl
   have g2:=zP g
   rw[UX r0]at g2
   exact g2
  exact⟨p,_,_,_,rfl,rfl,SqL.of (k2.k _ _ (S1.neS hp) hp),e,q _ _ (kp.trans k2) S2 (hm _ (tR hi))⟩
theorem QL:FnScope lS7 lS7 (zo YA):=.ok
theorem QM:(["_law_state","_law_scope","_law_sorts_here","_law_sort"]:List Str).Nodup:=by decide +kernel
theorem VN(F:Fun K "_law_picks" "_law_picks" YA f fd)(GP:Ca P w K mg base CX0 2 "_law_pick" lS6 (vH K))(m_tuple:mg "tuple"=none):FnOk P w K mg base CX0 3 f fd lS7 (Za K):=by
 refine F.by QL (fun vs H Q E h=>?_) (fun cdv A outer s H vs Q E hr h=>?_)
 ·obtain⟨st,sc,q,s,B,l,rfl,_⟩:=h
  rfl
 obtain⟨st,sc,qs,s,B,l,rfl,S0,hB,hSc,hl0,hq,hs,q⟩:=h
 refine⟨_,
  (zh (zu (yv zN rfl m_tuple u0 (jA1 (yk ["_law_sort"] rfl (zF (jv 2)) (fun _ _ _ _ _=>(gN 3 QM)) (fun _ _ _ _ _=>zR) (fun _ _ _ _ _=>(cA GP hr (jA3 (jv 0) (jv 1) (jv 3))))))))),?_⟩
 have sl:=zE
 have LM:LIM=4611686018427387904:=rfl
 refine⟨_,rfl,_,rfl,⟨_,SqL.of hq⟩,zX (xs:=s.map V.int) (fun i τ ys H'=>Kp st H H'/\Sta K H' st (B+2*i)/\(∃x,τ=[some (.ref st),some (.ref sc),some (.ref qs),x])/\∃xs:List Str,ys=xs.map V.str/\xs.length=i/\∀x∈xs,x∈l.map (·.1)) ⟨Kp.refl,S0,⟨none,rfl⟩,[],rfl,rfl,fun x hx=>by cases hx⟩ (fun i τ ys H' _ h=>SqL.of (h.1.k _ _ (S0.neI hq) hq)) ?_ ?_⟩
 ·rintro i v τ ys H1 hv ⟨k1,S1,⟨x,rfl⟩,xs,rfl,hl,hm⟩
  rw[ue]at hv
  obtain⟨n,hn,rfl⟩:=uh.mp hv
  have hi:i < s.length:=(uc.mp hn).1
  refine⟨_,rfl,_,rfl,_,rfl,st,sc,n,B+2*i,l,rfl,S1,by lia,hSc.kp S0 k1,hl0,fun H2 y k2 S2 hy=>⟨by rw[ua];lia,k1.trans k2,S2,⟨_,rfl⟩,xs++[y],by simp,by simp[hl],fun z hz=>?_⟩⟩
  rcases uz.mp hz with hz|hz
  ·exact hm z hz
  ·rw[ui.mp hz]
   exact hy
 ·rintro τ ys H1 ⟨k1,S1,_,xs,rfl,hl,hm⟩ p hp
  rw[ua]at hl S1
  refine⟨p,_,rfl,.inl ⟨SqL.of upd_same,fun p2 hp2=>?_⟩⟩
  exact q _ p2 xs ((k1.new hp).new hp2) ((((S1.mono (by lia)).new hp _)).new hp2 _) upd_same hl hm
inductive De
 |num (i:Int)
 |op (w a b:Str)
 |app (w f:Str) (xs:List Str)
def De.uses:De->List Str
 |.num _=>[]
 |.op _ a b=>[a,b]
 |.app w f xs=>if w="ask"then f::xs else xs
theorem xR{f:Str}{xs:List Str}:De.uses (.app "ask" f xs)=f::xs:=by unfold De.uses;exact if_pos rfl
theorem xn{w f:Str}{xs:List Str}(h:w≠"ask"):De.uses (.app w f xs)=xs:=by unfold De.uses;exact if_neg h
inductive IsDe(H:Hp):De->Addr->Prop
 |num {i:Int} {p:Addr}:H p=some (.tup [.str "num",.int i])->IsDe H (.num i) p
 |op {w a b:Str} {p:Addr}:H p=some (.tup [.str "op",.str w,.str a,.str b])->IsDe H (.op w a b) p
 |app {w f:Str} {xs:List Str} {p q:Addr}:(w≠"num"/\w≠"op"/\xs.length<=40)->H p=some (.tup [.str w,.str f,.ref q])->H q=some (.tup (xs.map V.str))->IsDe H (.app w f xs) p
theorem IsDe.keep{H H':Hp}{d:De}{p:Addr}(h:IsDe H d p)(t:Tups H H'):IsDe H' d p:=by
 cases h with
 |num a=>exact .num (t _ _ a)
 |op a=>exact .op (t _ _ a)
 |app c a b=>exact .app c (t _ _ a) (t _ _ b)
theorem ZM{α:Type}{f:α->V}{s:List α}{m:Int}(h:0<=m):cutV (s.map f) none (some m)=(s.take m.toNat).map f:=by
 unfold cutV
 have c1:HT.sIx (s.map f).length 0 none=0:=rfl
 have c2:HT.sIx (s.map f).length (s.map f).length (some m)=min m.toNat (s.map f).length:=by
  show(if m < 0 then(m+((s.map f).length:Nat)).toNat else min m.toNat (s.map f).length)=_
  rw[if_neg (by lia)]
 rw[c1,c2,List.drop_zero,Nat.sub_zero,List.map_take,ua]
 rcases Nat.le_total m.toNat s.length with c|c
 ·rw[Nat.min_eq_left c]
 ·rw[Nat.min_eq_right c,uj (by simp),uj (by simpa using c)]
theorem xp{α β:Type}{f:α->β}{xs:List α}{r:Int}{x:α}(h0:0<=r)(h:xs[r.toNat]?=some x):atI (xs.map f) r=some (f x):=by
 have g:(xs.map f)[r.toNat]?=some (f x):=by rw[ue,h];rfl
 have g2:=zP g
 rw[UX h0]at g2
 exact g2
def DeQ(K:ub)(st:Addr)(B:Nat)(l:List (Str×Int))(H:Hp)(Q:VK):Prop:=∀(H':Hp)(p q:Addr)(d:De)(g:Int),Kp st H H'->Sta K H' st B->H' p=some (.tup [.ref q,.int g])->IsDe H' d q->0<=g->g<=13->(∀x∈d.uses,x∈l.map (·.1))->Q (.ref p) H'
def ZN(K:ub):Sp:=fun vs H Q _=>∃(st sc w:Addr)(B:Nat)(l:List (Str×Int))(o:Wo),vs=[.ref st,.ref sc,.ref w]/\Sta K H st B/\B+100 < LIM/\Sc H l sc/\l≠[]/\IsW H o w/\DeQ K st (B+100) l H Q
def VO(K:ub):Sp:=fun vs H Q _=>∃(st sc w:Addr)(B:Nat)(l:List (Str×Int))(o:Wo)(a:Nat),vs=[.ref st,.ref sc,.ref w,.int (a:Nat)]/\a < 3/\Sta K H st B/\B+200 < LIM/\Sc H l sc/\IsW H o w/\DeQ K st (B+200) l H Q
theorem zb6{i j:Int}(h:i<=3)(h2:j<=3)(h0:0<=j):0<=(if j > i then j else i)/\(if j > i then j else i)<=3:=by
 split<;>lia
theorem scHanded:FnScope ["_law_state","_law_scope","_law_world_here","_law_some","_law_way","_law_name_here","_law_sort","_law_sorts_here","_law_gives","_law_many"] lS18 (zo j3):=.ok
theorem VP:(["_law_state","_law_scope","_law_world_here","_law_some","_law_way","_law_name_here","_law_sort","_law_sorts_here","_law_gives","_law_many","_law_one"]:List Str).Nodup:=by decide +kernel
theorem Wg:(["_law_state","_law_scope","_law_world_here","_law_some","_law_way","_law_name_here","_law_sort","_law_sorts_here","_law_gives","_law_many","_law_k"]:List Str).Nodup:=by decide +kernel
theorem Wh(F:Fun K "_law_handed" "_law_handed" j3 f fd)(GD:Ca P w K mg base CX0 1 "_law_draw" lS2 (yq K))(GP:Ca P w K mg base CX0 3 "_law_picks" lS7 (Za K))(m_len:mg "len"=none)(m_range:mg "range"=none)(m_max:mg "max"=none):FnOk P w K mg base CX0 4 f fd lS18 (ZN K):=by
 refine F.by scHanded (fun vs H Q E h=>?_) (fun cdv A outer s H vs Q E hr h=>?_)
 ·obtain⟨st,sc,w,B,l,o,rfl,_⟩:=h
  rfl
 obtain⟨st,sc,w0,B,l,o,rfl,S0,hB,hSc,hl0,hW,q⟩:=h
 have hr1:Room 1 _:=hr.mono (by decide)
 refine⟨_,
  (zg (yp ["_law_one"] (i:=3) scHanded.nd rfl (Or.inl rfl) rfl (zF (jv 1)) (fun _ _ _ _ _=>(gN 10 VP)) (fun _ _ _ _ _=>(yG (tN zaU (zT (yb K) (jv 10) zj (fun _ _=>rfl)) zj))) (fun _ _ _ _ _=>(jv 10)))
  (zg (sE 4 scHanded.nd (cA GD hr1 (jA2 (jv 0) zj)))
  (zg (zy (tN zA (jv 4) zj)
   (zh (sE 3 scHanded.nd (jv 1))) zv)
  (zg (zy (jW.pt (yd (tN (Yr hr) (jv 3) (zB zD)) (yh (tN jg (jv 4) zj))))
   (zg (yR (xX zH (jv 3) (cA GD hr1 (jA2 (jv 0) (jL m_len (jv 3))))) (yi rfl (zt (gN 5 scHanded.nd) (zt (gN 6 scHanded.nd) zL))))
   (zh (zu (zq (jA2 (zq (jA3 zp (jv 5) (cA GP hr (jA3 (jv 0) (jv 1) (yk ["_law_k"] rfl (zQ rfl m_range (jA1 (xE (QG rfl) rfl m_max PyProof.Rows.boot_max (jA2 (zx ym (jv 6) zj) (cA GD hr1 (jA2 (jv 0) zj)))))) (fun _ _ _ _ _=>(gN 10 Wg)) (fun _ _ _ _ _=>zR) (fun _ _ _ _ _=>(zx y9 (jv 10) zj))))))) zj))))) zv)
  (zg (yR (xX zH (xL 2) (cA GD hr1 (jA2 (jv 0) zj))) (yi rfl (zt (gN 5 scHanded.nd) (zt (gN 7 scHanded.nd) (zt (gN 8 scHanded.nd) zL)))))
  (zg (sE 9 scHanded.nd (cA GD hr1 (jA2 (jv 0) (zx zW (jL m_len (jv 7)) zj))))
  (zh (zu (zq (jA2 (zq (jA3 zp (jv 5) (cA GP hr (jA3 (jv 0) (jv 1) (yJ jU (jv 7) y0 (y8 (jv 9))))))) (zx ym (zx zW zj (jL m_len (jv 7))) (jv 9)))))))))))),?_⟩
 have sl:=zE
 have LM:LIM=4611686018427387904:=rfl
 obtain⟨⟨ts,hsc,hT⟩,hn,hs⟩:=id hSc
 have htl:=hT.len
 refine(show ∀(u:TS)(D:Ends),(∀(H':Hp)(p:Addr)(fl:List (Str×Int))(fs:List Addr)(r:Int),Kp st H H'->Sta K H' st (B+1)->H' p=some (.lst (fs.map V.ref))->Tps H' fl fs->(∀x∈fl,x∈l)->u D [some (.ref st),some (.ref sc),some (.ref w0),some (.ref p),some (.int r),none,none,none,none,none] H')->(tSeq _ (tSeq _ (tSeq _ u)):TS) D _ H from ?key) _ _ ?rest
 case key =>
  intro u D tail
  refine⟨_,rfl,_,rfl,⟨_,SqL.of hsc⟩,zX (xs:=ts.map V.ref) (fun j τ ys H'=>H=H'/\(∃v,τ=[some (.ref st),some (.ref sc),some (.ref w0),none,none,none,none,none,none,none,v])/\∃(fl:List (Str×Int))(fs:List Addr),ys=fs.map V.ref/\fs.length<=j/\Tps H fl fs/\∀x∈fl,x∈l) ⟨rfl,⟨none,rfl⟩,[],[],rfl,uX _,.nil,fun x hx=>by cases hx⟩ (fun j τ ys H' _ h=>by rw[<- h.1];exact SqL.of hsc) ?_ ?_⟩
  ·rintro j v τ ys H3 hv ⟨rfl,⟨v',rfl⟩,fl,fs,rfl,hj,hf,hm⟩
   rw[ue]at hv
   obtain⟨tq,htq,rfl⟩:=uh.mp hv
   obtain⟨a,n,e1,e2⟩:=hT.get htq
   have hjl:j < l.length:=(uc.mp e1).1
   refine⟨_,rfl,ixT e2 aI1 ⟨_,_,rfl,rfl,_,rfl,?_⟩⟩
   refine ite2 (fun c=>?_) (fun c=>?_)
   ·refine⟨_,rfl,by rw[ua];lia,rfl,⟨_,rfl⟩,fl++[(a,n)],fs++[tq],by simp,by simp;lia,hf.app (.cons e2 .nil),fun x hx=>?_⟩
    rcases uz.mp hx with hx|hx
    ·exact hm x hx
    ·rw[ui.mp hx]
     exact uo e1
   ·exact⟨rfl,⟨_,rfl⟩,fl,fs,rfl,by lia,hf,hm⟩
  rintro τ ys H3 ⟨rfl,_,fl,fs,rfl,hj,hf,hm⟩ p1 hp1
  have S1:=S0.new hp1 (.lst (fs.map V.ref))
  refine⟨_,rfl,st,4,B,rfl,S1,by lia,by decide,fun H2 r k2 S2 r0 r1=>?_⟩
  have k12:=(Kp.refl.new (o:=.lst (fs.map V.ref)) hp1).trans k2
  have hp2:=k2.k _ _ (S0.ne hp1) (upd_same (H:=H) (a:=p1) (o:=.lst (fs.map V.ref)))
  refine⟨_,rfl,rfl,_,rfl,?_⟩
  refine ite2 (fun c=>?_) (fun c=>?_)
  ·exact⟨_,rfl,tail _ sc l ts r k12 S2 (k12.k _ _ (S0.neR hsc) hsc) (hT.keep (k12.tups S0)) fun x hx=>hx⟩
  ·exact tail _ p1 fl fs r k12 S2 hp2 (hf.keep (k12.tups S0)) hm
 case rest =>
  intro H1 p1 fl fs r k1 S1 hp1 hf hm
  have hfl:=hf.len
  have gpos:∀x∈fl,0<=x.2/\x.2<=13:=fun x hx=>hs x (hm x hx)
  refine(show ∀(u:TS)(D:Ends),D.rt=Q->(∀(H':Hp),Kp st H H'->Sta K H' st (B+1)->u D [some (.ref st),some (.ref sc),some (.ref w0),some (.ref p1),some (.int r),none,none,none,none,none] H')->(tSeq _ u:TS) D _ H1 from ?key2) _ _ rfl ?rest2
  case key2 =>
   intro u D hD tail
   refine⟨_,rfl,sN0,fun pe h2=>?_⟩
   have k2:=k1.new (o:=.lst []) h2
   have S2:=S1.new h2 (.lst [])
   have hp2:=old (o:=.lst []) h2 hp1
   have hf2:=hf.keep (.of (zn h2 (.lst [])))
   refine⟨_,_,_,rfl,rfl,SqL.of hp2,SqL.of upd_same,_,rfl,?_⟩
   show if(if true=true then !(fs.map V.ref).isEmpty else(fs.map V.ref).isEmpty)=true then _ else _
   generalize upd H1 pe (.lst [])=H2 at *
   by_cases hfe:fs=[]
   ·have e0:(fs.map V.ref).isEmpty=true:=by rw[hfe];rfl
    rw[e0]
    exact iteF (tail _ k2 S2)
   have e0:(fs.map V.ref).isEmpty=false:=by
    cases fs with
    |nil=>exact absurd rfl hfe
    |cons _ _=>rfl
   rw[e0]
   refine iteT ?_
   refine⟨_,rfl,_,_,rfl,rfl,_,rfl,?_⟩
   refine ite2 (fun _=>?_) (fun _=>tail _ k2 S2)
   have h0:0 < fs.length:=UM.mpr hfe
   refine⟨_,rfl,_,rfl,_,rfl,_,_,rfl,.inl (SqL.of hp2),st,_,_,rfl,S2,by lia,(by rw[ua];lia),fun H3 r3 k3 S3 q0 q1=>?_⟩
   rw[ua]at q1
   have hi:r3.toNat < fs.length:=by lia
   obtain⟨t,ht⟩:∃t,fs[r3.toNat]?=some t:=⟨_,uk hi⟩
   have hf3:=hf2.keep (k3.tups S2)
   obtain⟨a,g,e1,e2⟩:=hf3.get ht
   have hg:=gpos _ (uo e1)
   have ha:a∈l.map (·.1):=uC.mpr ⟨_,hm _ (uo e1),rfl⟩
   have hp3:=k3.k _ _ (S2.neR hp2) hp2
   refine⟨p1,_,_,_,rfl,rfl,SqL.of hp3,xp q0 ht,_,_,rfl,SqT.of e2,rfl,_,_,rfl,_,_,rfl,rfl,?_⟩
   refine⟨_,rfl,_,rfl,_,rfl,_,rfl,_,_,rfl,rfl,_,rfl,st,3,_,rfl,S3,by lia,by decide,fun H4 r4 k4 S4 q2 q3=>?_⟩
   have mx:=zb6 (i:=g-10) (j:=r4) (by lia) (by lia) q2
   refine⟨_,_,rfl,?_⟩
   generalize (if r4 > g-10 then r4 else g-10)=n at *
   refine⟨_,rfl,by lia,by lia,yu (n:=n.toNat) (fun i τ ys H'=>H4=H'/\(∃x,τ=[some (.ref st),some (.ref sc),some (.ref w0),some (.ref p1),some (.int r),some (.str a),some (.int g),none,none,none,x])/\∃ns:List Int,ys=ns.map V.int/\ns.length=i) ⟨rfl,⟨none,rfl⟩,[],rfl,rfl⟩ ?_ ?_⟩
   ·rintro i τ ys H5 hi ⟨rfl,⟨x,rfl⟩,ns,rfl,hln⟩
    exact⟨_,rfl,_,_,rfl,rfl,(by show(0:Int) < _;decide),by rw[ua];lia,rfl,⟨_,rfl⟩,ns++[_],by rw[uq];rfl,by simp[hln]⟩
   rintro τ ys H5 ⟨rfl,_,ns,rfl,hln⟩ p5 hp5
   have k04:=(k2.trans k3).trans k4
   have k5:=k04.new (o:=.lst (ns.map V.int)) hp5
   have S5:=S4.new hp5 (.lst (ns.map V.int))
   refine⟨st,sc,p5,ns,_,l,rfl,S5,by lia,hSc.kp S0 k5,hl0,upd_same,by lia,fun H6 p6 xs k6 S6 hp6 hl6 hm6=>?_⟩
   refine⟨sN3,fun t1 h7=>⟨sN2,fun t2 h8=>?_⟩⟩
   rw[hD]
   refine q _ t2 t1 (.app "ask" a xs) 0 (((k5.trans k6).new h7).new h8) ((((S6.mono (by lia)).new h7 _)).new h8 _) upd_same (.app ⟨by decide,by decide,by lia⟩ (old h8 upd_same) (old h8 (old h7 hp6))) (by decide) (by decide) fun x hx=>?_
   rw[xR]at hx
   rcases um.mp hx with e|e
   ·rw[e];exact ha
   ·exact hm6 x e
  case rest2 =>
   intro H2 k2 S2
   obtain⟨⟨tl,dl,tt,ds,hw,htl2,hdl,hTt,hTd⟩,wok⟩:=hW.kp S0 k2
   have dlen:=wok.dlen
   have hdl2:=hTd.len
   refine⟨_,rfl,ixL hw aI3 ⟨_,rfl,st,3,_,rfl,S2,by lia,by decide,fun H3 r3 k3 S3 q0 q1=>?_⟩⟩
   have hi:r3.toNat < ds.length:=by lia
   obtain⟨t,ht⟩:∃t,ds[r3.toNat]?=some t:=⟨_,uk hi⟩
   obtain⟨z,ss,g,sq,e1,e2,e3⟩:=(hTd.kp S2 k3).get ht
   have wd:ss.length<=3/\So ss/\0<=g/\g<=2:=wok.ds _ (uo e1)
   refine⟨dl,_,_,_,rfl,rfl,SqL.of (k3.k _ _ (S2.neR hdl) hdl),xp q0 ht,_,_,rfl,SqT.of e2,rfl,_,_,rfl,_,_,rfl,_,_,rfl,rfl,?_⟩
   refine⟨_,rfl,_,rfl,_,_,rfl,.inl (SqL.of e3),_,_,rfl,rfl,st,_,_,rfl,S3,by lia,(by lia),fun H4 r4 k4 S4 q2 q3=>?_⟩
   rw[ua]at q3
   have e34:=k4.k _ _ (S3.neI e3) e3
   refine⟨_,rfl,_,rfl,_,rfl,_,rfl,_,rfl,_,rfl,_,_,rfl,SqL.of e34,fun p5 hp5=>?_⟩
   rw[ZM q2]
   have k04:=(k2.trans k3).trans k4
   have k5:=k04.new (o:=.lst ((ss.take r4.toNat).map V.int)) hp5
   have S5:=S4.new hp5 (.lst ((ss.take r4.toNat).map V.int))
   refine⟨st,sc,p5,ss.take r4.toNat,_,l,rfl,S5,by lia,hSc.kp S0 k5,hl0,upd_same,by rw[uD];lia,fun H6 p6 xs k6 S6 hp6 hl6 hm6=>?_⟩
   refine⟨sN3,fun t1 h7=>?_⟩
   have e37:=old (o:=.tup [.str "func",.str z,.ref p6]) h7 (k6.k _ _ (S5.neI (old hp5 e34)) (old hp5 e34))
   refine⟨_,rfl,_,_,rfl,.inl (SqL.of e37),_,_,rfl,rfl,_,rfl,_,_,rfl,rfl,sN2,fun t2 h8=>?_⟩
   rw[ua]
   refine q _ t2 t1 (.app "func" z xs) _ (((k5.trans k6).new h7).new h8) ((((S6.mono (by lia)).new h7 _)).new h8 _) upd_same (.app ⟨by decide,by decide,by rw[hl6,uD];lia⟩ (old h8 upd_same) (old h8 (old h7 hp6))) (by lia) (by lia) fun x hx=>?_
   rw[xn (by decide)]at hx
   exact hm6 x hx
theorem scDeed:FnScope ["_law_state","_law_scope","_law_world_here","_law_at","_law_way","_law_word","_law_tag","_law_sorts_here","_law_kind","_law_to","_law_name_here","_law_gives"] lS8 (zo VE):=.ok
theorem QN(F:Fun K "_law_deed" "_law_deed" VE f fd)(GD:Ca P w K mg base CX0 1 "_law_draw" lS2 (yq K))(GK:Ca P w K mg base CX0 2 "_law_pick" lS6 (vH K))(GP:Ca P w K mg base CX0 3 "_law_picks" lS7 (Za K))(GH:Ca P w K mg base CX0 4 "_law_handed" lS18 (ZN K)):FnOk P w K mg base CX0 5 f fd lS8 (VO K):=by
 refine F.by scDeed (fun vs H Q E h=>?_) (fun cdv A outer s H vs Q E hr h=>?_)
 ·obtain⟨st,sc,w,B,l,o,a,rfl,_⟩:=h
  rfl
 obtain⟨st,sc,w0,B,l,o,a,rfl,ha,S0,hB,hSc,hW,q⟩:=h
 have hr1:Room 1 _:=hr.mono (by decide)
 have hr2:Room 2 _:=hr.mono (by decide)
 have hr3:Room 3 _:=hr.mono (by decide)
 refine⟨_,
  (zg (sE 4 scDeed.nd (cA GD hr1 (jA2 (jv 0) zj)))
  (zg (zy (jW.pt (wM (tN vn (jv 4) zj) (xD (tN (jV hr) (jv 1) (zB zD)))))
   (zh (zu (zq (jA2 (zq (jA2 zp (zx ym (cA GD hr1 (jA2 (jv 0) zj)) zj))) zj)))) zv)
  (zg (zy (tN zA (jv 4) zj)
   (zg (sE 5 scDeed.nd (xX zH (zB (jA7 zp zp zp zp zp zp zp)) (cA GD hr1 (jA2 (jv 0) zj))))
   (zh (zu (zq (jA2 (zq (jA4 zp (jv 5) (cA GK hr2 (jA3 (jv 0) (jv 1) zj)) (cA GK hr2 (jA3 (jv 0) (jv 1) zj)))) zj))))) zv)
  (zg (zy (tN vn (jv 4) zj)
   (zg (yR (xX zH (xL 2) (cA GD hr1 (jA2 (jv 0) zj))) (yi rfl (zt (gN 6 scDeed.nd) (zt (gN 7 scDeed.nd) (zt (gN 8 scDeed.nd) zL)))))
   (zh (zu (zq (jA2 (zq (jA3 zp (jv 6) (cA GP hr3 (jA3 (jv 0) (jv 1) (jv 7))))) (jv 8)))))) zv)
  (zg (zy (tN zA (jv 4) zj)
   (zh (zu (cA GH hr (jA3 (jv 0) (jv 1) (jv 2))))) zv)
  (zg (sE 9 scDeed.nd (cA GD hr1 (jA2 (jv 0) zj)))
  (zg (zy (jW.pt (yd (tN vn (jv 3) zj) (yh (tN jg (cA GD hr1 (jA2 (jv 0) zj)) zj))))
   (zh (sE 9 scDeed.nd (zx zW (zx zW (jv 3) zj) (cA GD hr1 (jA2 (jv 0) (zx ym zj (jv 3))))))) zv)
  (zg (yR (xX zH (xL 2) (jv 9)) (yi rfl (zt (gN 10 scDeed.nd) (zt (gN 7 scDeed.nd) (zt (gN 11 scDeed.nd) zL)))))
  (zh (zu (zq (jA2 (zq (jA3 zp (jv 10) (cA GP hr3 (jA3 (jv 0) (jv 1) (jv 7))))) (jv 11))))))))))))),?_⟩
 have sl:=zE
 have LM:LIM=4611686018427387904:=rfl
 obtain⟨⟨ts,hsc,hT⟩,hn,hs⟩:=id hSc
 have htl:=hT.len
 refine⟨_,rfl,st,9,B,rfl,S0,by lia,by decide,fun H1 r k1 S1 r0 r1=>?_⟩
 refine(show ∀(u:TS)(D:Ends),D.rt=Q->(∀(H':Hp),l≠[]->Kp st H H'->Sta K H' st (B+1)->u D [some (.ref st),some (.ref sc),some (.ref w0),some (.int (a:Nat)),some (.int r),none,none,none,none,none,none,none] H')->(tSeq _ (tSeq _ u):TS) D _ H1 from ?key) _ _ rfl ?rest
 case key =>
  intro u D hD tail
  refine⟨_,rfl,_,_,rfl,rfl,_,rfl,?_⟩
  refine ite2 (fun _=>?_) (fun _=>?_)
  ·refine⟨_,rfl,st,9,_,rfl,S1,by lia,by decide,fun H2 r2 k2 S2 _ _=>⟨_,_,rfl,rfl,sN2,fun t1 h3=>⟨sN2,fun t2 h4=>?_⟩⟩⟩
   rw[hD]
   exact q _ t2 t1 (.num (r2-4)) 0 (((k1.trans k2).new h3).new h4) (((S2.mono (by lia)).new h3 _).new h4 _) upd_same (.num (old h4 upd_same)) (by decide) (by decide) fun x hx=>by cases hx
  ·refine⟨_,rfl,sN0,fun pe h2=>?_⟩
   have k2:=k1.new (o:=.lst []) h2
   have S2:=S1.new h2 (.lst [])
   have hsc2:=k2.k _ _ (S0.neR hsc) hsc
   refine⟨_,_,_,rfl,rfl,SqL.of hsc2,SqL.of upd_same,_,rfl,?_⟩
   show if(if false=true then !(ts.map V.ref).isEmpty else(ts.map V.ref).isEmpty)=true then _ else _
   generalize upd H1 pe (.lst [])=H2 at *
   by_cases he:ts=[]
   ·have e0:(ts.map V.ref).isEmpty=true:=by rw[he];rfl
    rw[e0]
    refine iteT ?_
    refine⟨_,rfl,st,9,_,rfl,S2,by lia,by decide,fun H3 r2 k3 S3 _ _=>⟨_,_,rfl,rfl,sN2,fun t1 h3=>⟨sN2,fun t2 h4=>?_⟩⟩⟩
    rw[hD]
    exact q _ t2 t1 (.num (r2-4)) 0 (((k2.trans k3).new h3).new h4) (((S3.mono (by lia)).new h3 _).new h4 _) upd_same (.num (old h4 upd_same)) (by decide) (by decide) fun x hx=>by cases hx
   ·have e0:(ts.map V.ref).isEmpty=false:=by
     cases ts with
     |nil=>exact absurd rfl he
     |cons _ _=>rfl
    rw[e0]
    refine iteF (tail _ (fun e=>he ?_) k2 S2)
    rw[e]at htl
    exact Ut.mp htl.symm
 case rest =>
  intro H2 hl0 k2 S2
  have hSc2:=hSc.kp S0 k2
  have hW2:=hW.kp S0 k2
  refine cut1 fun c_ hc_=>?_
  refine⟨_,rfl,rfl,_,rfl,?_⟩
  refine ite2 (fun _=>?_) (fun _=>?_)
  ·refine⟨sN7,fun pl h3=>?_⟩
   have S3:=S2.new h3 (.lst [.str "plus",.str "minus",.str "times",.str "over",.str "rest",.str "less",.str "same"])
   have k3:=k2.new (o:=.lst [.str "plus",.str "minus",.str "times",.str "over",.str "rest",.str "less",.str "same"]) h3
   refine⟨_,rfl,st,7,_,rfl,S3,by lia,by decide,fun H4 r4 k4 S4 q0 q1=>?_⟩
   have hpl:=k4.k _ _ (S2.ne h3) (upd_same (H:=H2) (a:=pl) (o:=.lst [.str "plus",.str "minus",.str "times",.str "over",.str "rest",.str "less",.str "same"]))
   have hi:r4.toNat < (["plus","minus","times","over","rest","less","same"]:List Str).length:=by show r4.toNat < 7;lia
   obtain⟨wd,hwd⟩:∃x,(["plus","minus","times","over","rest","less","same"]:List Str)[r4.toNat]?=some x:=⟨_,uk hi⟩
   refine⟨pl,_,_,_,rfl,rfl,SqL.of hpl,xp (f:=V.str) q0 hwd,?_⟩
   have k34:=k3.trans k4
   refine⟨_,rfl,_,rfl,_,rfl,st,sc,0,_,l,rfl,S4,by lia,hSc.kp S0 k34,hl0,fun H5 x k5 S5 hx=>?_⟩
   have k35:=k34.trans k5
   refine⟨_,rfl,_,rfl,st,sc,0,_,l,rfl,S5,by lia,hSc.kp S0 k35,hl0,fun H6 y k6 S6 hy=>?_⟩
   refine⟨sN4,fun t1 h7=>⟨sN2,fun t2 h8=>?_⟩⟩
   refine q _ t2 t1 (.op wd x y) 0 (((k35.trans k6).new h7).new h8) (((S6.mono (by lia)).new h7 _).new h8 _) upd_same (.op (old h8 upd_same)) (by decide) (by decide) fun z hz=>?_
   have hz':z∈[x,y]:=hz
   rcases um.mp hz' with e|e
   ·rw[e];exact hx
   ·rw[ui.mp e];exact hy
  subst hc_
  refine nxtC ?_
  dsimp only
  refine cut1 fun c_ hc_=>?_
  refine⟨_,rfl,_,_,rfl,rfl,_,rfl,?_⟩
  obtain⟨⟨tl,dl,tt,ds,hw,htl2,hdl,hTt,hTd⟩,wok⟩:=hW2
  refine ite2 (fun _=>?_) (fun _=>?_)
  ·have tlen:=wok.tlen
   have htl3:=hTt.len
   refine⟨_,rfl,ixL hw aI2 ⟨_,rfl,st,4,_,rfl,S2,by lia,by decide,fun H3 r3 k3 S3 q0 q1=>?_⟩⟩
   have hi:r3.toNat < tt.length:=by lia
   obtain⟨t,ht⟩:∃t,tt[r3.toNat]?=some t:=⟨_,uk hi⟩
   obtain⟨z,ss,g,sq,e1,e2,e3⟩:=(hTt.kp S2 k3).get ht
   have wd:ss.length<=9/\So ss:=wok.ts _ (uo e1)
   have hg:g=1\/g=2:=by
    have m:g∈o.tags.map (·.2.2):=uC.mpr ⟨_,uo e1,rfl⟩
    rw[wok.tk]at m
    simpa using m
   refine⟨tl,_,_,_,rfl,rfl,SqL.of (k3.k _ _ (S2.neR htl2) htl2),xp q0 ht,_,_,rfl,SqT.of e2,rfl,_,_,rfl,_,_,rfl,_,_,rfl,rfl,?_⟩
   have k23:=k2.trans k3
   refine⟨_,rfl,_,rfl,_,rfl,_,rfl,st,sc,sq,ss,_,l,rfl,S3,by lia,hSc.kp S0 k23,hl0,e3,by lia,fun H6 p6 xs k6 S6 hp6 hl6 hm6=>?_⟩
   refine⟨sN3,fun t1 h7=>⟨_,rfl,sN2,fun t2 h8=>?_⟩⟩
   refine q _ t2 t1 (.app "make" z xs) g (((k23.trans k6).new h7).new h8) (((S6.mono (by lia)).new h7 _).new h8 _) upd_same (.app ⟨by decide,by decide,by lia⟩ (old h8 upd_same) (old h8 (old h7 hp6))) (by lia) (by lia) fun x hx=>?_
   rw[xn (by decide)]at hx
   exact hm6 x hx
  subst hc_
  refine nxtC ?_
  dsimp only
  refine cut1 fun c_ hc_=>?_
  refine⟨_,rfl,rfl,_,rfl,?_⟩
  refine ite2 (fun _=>?_) (fun _=>?_)
  ·refine⟨_,rfl,_,rfl,_,rfl,st,sc,w0,_,l,o,rfl,S2,by lia,hSc2,hl0,⟨⟨tl,dl,tt,ds,hw,htl2,hdl,hTt,hTd⟩,wok⟩,fun H3 p q' d g k3 S3 h1 h2 h3 h4 h5=>?_⟩
   exact q _ p q' d g (k2.trans k3) (S3.mono (by lia)) h1 h2 h3 h4 h5
  subst hc_
  refine⟨_,rfl,st,3,_,rfl,S2,by lia,by decide,fun H3 r3 k3 S3 q0 q1=>?_⟩
  have k23:=k2.trans k3
  refine(show ∀(u:TS)(D:Ends),(∀(H':Hp)(x:Int),Kp st H H'->Sta K H' st (B+4)->0<=x->x < 3->u D [some (.ref st),some (.ref sc),some (.ref w0),some (.int (a:Nat)),some (.int r),none,none,none,none,some (.int x),none,none] H')->(tSeq _ (tSeq _ u):TS) D _ H3 from ?key3) _ _ ?rest3
  case key3 =>
   intro u D tail
   refine⟨_,rfl,_,_,rfl,rfl,_,rfl,?_⟩
   refine ite2 (fun c=>?_) (fun _=>tail _ r3 k23 (S3.mono (by lia)) q0 q1)
   rw[decide_eq_true_eq]at c
   refine⟨_,rfl,st,4,_,rfl,S3,by lia,by decide,fun H4 r4 k4 S4 _ _=>⟨_,_,rfl,rfl,_,rfl,?_⟩⟩
   refine ite2 (fun _=>?_) (fun _=>tail _ r3 (k23.trans k4) (S4.mono (by lia)) q0 q1)
   refine⟨_,rfl,_,_,rfl,rfl,_,rfl,_,rfl,_,_,rfl,rfl,st,_,_,rfl,S4,by lia,by lia,fun H5 r5 k5 S5 p0 p1=>⟨_,_,rfl,rfl,?_⟩⟩
   exact tail _ _ ((k23.trans k4).trans k5) (S5.mono (by lia)) (by lia) (by lia)
  case rest3 =>
   intro H4 x k4 S4 x0 x1
   obtain⟨⟨tl,dl,tt,ds,hw,htl2,hdl,hTt,hTd⟩,wok⟩:=hW.kp S0 k4
   have dlen:=wok.dlen
   have hdl2:=hTd.len
   have hi:x.toNat < ds.length:=by lia
   obtain⟨t,ht⟩:∃t,ds[x.toNat]?=some t:=⟨_,uk hi⟩
   obtain⟨z,ss,g,sq,e1,e2,e3⟩:=hTd.get ht
   have wd:ss.length<=3/\So ss/\0<=g/\g<=2:=wok.ds _ (uo e1)
   refine⟨_,rfl,ixL hw aI3 ⟨_,rfl,dl,_,_,_,rfl,rfl,SqL.of hdl,xp x0 ht,_,_,rfl,SqT.of e2,rfl,_,_,rfl,_,_,rfl,_,_,rfl,rfl,?_⟩⟩
   refine⟨_,rfl,_,rfl,_,rfl,_,rfl,st,sc,sq,ss,_,l,rfl,S4,by lia,hSc.kp S0 k4,hl0,e3,by lia,fun H6 p6 xs k6 S6 hp6 hl6 hm6=>?_⟩
   refine⟨sN3,fun t1 h7=>⟨_,rfl,sN2,fun t2 h8=>?_⟩⟩
   refine q _ t2 t1 (.app "call" z xs) g (((k4.trans k6).new h7).new h8) (((S6.mono (by lia)).new h7 _).new h8 _) upd_same (.app ⟨by decide,by decide,by lia⟩ (old h8 upd_same) (old h8 (old h7 hp6))) (by lia) (by lia) fun x hx=>?_
   rw[xn (by decide)]at hx
   exact hm6 x hx
end
mutual
inductive Bd
 |give (x:Str)
 |lt (x:Str) (d:De) (b:Bd)
 |iff (x:Str) (a b:Bd)
 |case(x:Str) (as:Arms)
inductive Arms
 |nil
 |cons (t:Str) (ns:List Str) (b:Bd) (r:Arms)
end
mutual
def Bd.sz:Bd->Nat
 |.give _=>1
 |.lt _ _ b=>b.sz+1
 |.iff _ a b=>a.sz+b.sz+1
 |.case _ as=>as.sz+1
def Arms.sz:Arms->Nat
 |.nil=>0
 |.cons _ ns b r=>ns.length+b.sz+r.sz+1
end
mutual
def Bd.dp:Bd->Nat
 |.give _=>1
 |.lt _ _ b=>b.dp+1
 |.iff _ a b=>max a.dp b.dp+1
 |.case _ as=>as.dp+1
def Arms.dp:Arms->Nat
 |.nil=>0
 |.cons _ _ b r=>max b.dp r.dp
end
def Arms.app:Arms->Arms->Arms
 |.nil,b=>b
 |.cons t ns d r,b=>.cons t ns d (Arms.app r b)
def Arms.rev:Arms->Arms
 |.nil=>.nil
 |.cons t ns d r=>Arms.app (Arms.rev r) (.cons t ns d .nil)
theorem Arms.sz_app:∀(a b:Arms),(Arms.app a b).sz=a.sz+b.sz
 |.nil,b=>by unfold Arms.app;rw[Arms.sz];lia
 |.cons t ns d r,b=>by unfold Arms.app;rw[Arms.sz,Arms.sz,Arms.sz_app r b];lia
theorem Arms.dp_app:∀(a b:Arms),(Arms.app a b).dp=max a.dp b.dp
 |.nil,b=>by unfold Arms.app;rw[Arms.dp];lia
 |.cons t ns d r,b=>by unfold Arms.app;rw[Arms.dp,Arms.dp,Arms.dp_app r b];lia
theorem Arms.dp_rev:∀(a:Arms),(Arms.rev a).dp=a.dp
 |.nil=>rfl
 |.cons t ns d r=>by unfold Arms.rev;rw[Arms.dp_app,Arms.dp_rev r,Arms.dp,Arms.dp,Arms.dp];lia
theorem Arms.sz_rev:∀(a:Arms),(Arms.rev a).sz=a.sz
 |.nil=>rfl
 |.cons t ns d r=>by unfold Arms.rev;rw[Arms.sz_app,Arms.sz_rev r,Arms.sz,Arms.sz,Arms.sz];lia
mutual
inductive IsB(H:Hp):Bd->Addr->Prop
 |give {x:Str} {p:Addr}:H p=some (.tup [.str "give",.str x])->IsB H (.give x) p
 |lt {x:Str} {d:De} {b:Bd} {p q r:Addr}:H p=some (.tup [.str "let",.str x,.ref q,.ref r])->IsDe H d q->IsB H b r->IsB H (.lt x d b) p
 |iff {x:Str} {a b:Bd} {p q r:Addr}:H p=some (.tup [.str "if",.str x,.ref q,.ref r])->IsB H a q->IsB H b r->IsB H (.iff x a b) p
 |case{x:Str} {as:Arms} {ps:List Addr} {p q:Addr}:H p=some (.tup [.str "case",.str x,.ref q])->H q=some (.tup (ps.map V.ref))->0 < ps.length->IsA H as ps->IsB H (.case x as) p
inductive IsA(H:Hp):Arms->List Addr->Prop
 |nil:IsA H .nil []
 |cons {t:Str} {ns:List Str} {b:Bd} {r:Arms} {p q s:Addr} {ps:List Addr}:H p=some (.tup [.str t,.ref q,.ref s])->H q=some (.tup (ns.map V.str))->IsB H b s->IsA H r ps->IsA H (.cons t ns b r) (p::ps)
end
mutual
theorem IsB.keep{H H':Hp}(t:Tups H H'):∀{b:Bd}{p:Addr},IsB H b p->IsB H' b p
 |_,_,.give a=>.give (t _ _ a)
 |_,_,.lt a d b=>.lt (t _ _ a) (d.keep t) (IsB.keep t b)
 |_,_,.iff a b c=>.iff (t _ _ a) (IsB.keep t b) (IsB.keep t c)
 |_,_,.case a b l c=>.case (t _ _ a) (t _ _ b) l (IsA.keep t c)
theorem IsA.keep{H H':Hp}(t:Tups H H'):∀{b:Arms}{p:List Addr},IsA H b p->IsA H' b p
 |_,_,.nil=>.nil
 |_,_,.cons a b c d=>.cons (t _ _ a) (t _ _ b) (IsB.keep t c) (IsA.keep t d)
end
theorem IsA.app{H:Hp}{b:Arms}{q:List Addr}(g:IsA H b q):∀{a:Arms}{p:List Addr},IsA H a p->IsA H (Arms.app a b) (p++q)
 |_,_,.nil=>by unfold Arms.app;exact g
 |_,_,.cons x y z r=>by unfold Arms.app;exact .cons x y z (IsA.app g r)
theorem IsA.rev{H:Hp}:∀{a:Arms}{p:List Addr},IsA H a p->IsA H (Arms.rev a) p.reverse
 |_,_,.nil=>.nil
 |_,_,.cons x y z r=>by
  unfold Arms.rev
  rw[U9]
  exact IsA.app (.cons x y z .nil) (IsA.rev r)
def CB:Nat->Nat
 |0=>0
 |n+1=>3*CB n+300
def SZ:Nat->Nat
 |0=>0
 |n+1=>3*SZ n+40
mutual
def Bd.binds:Bd->List Str
 |.give _=>[]
 |.lt x _ b=>x::b.binds
 |.iff _ a b=>a.binds++b.binds
 |.case _ as=>as.binds
def Arms.binds:Arms->List Str
 |.nil=>[]
 |.cons _ ns b r=>ns++(b.binds++r.binds)
end
def Bnm(o:Wo)(k m:Nat)(l:List Str):Prop:=∀x∈l,∃j,k<=j/\j < m/\x=nm o.z o.b j
theorem Bnm.mono{o:Wo}{k k' m:Nat}{l:List Str}(h:Bnm o k m l)(e:k'<=k):Bnm o k' m l:=fun x hx=>let ⟨j,a,b,c⟩:=h x hx;⟨j,Ua e a,b,c⟩
theorem Bnm.app{o:Wo}{k m:Nat}{l l':List Str}(h:Bnm o k m l)(h':Bnm o k m l'):Bnm o k m (l++l'):=fun x hx=>(uz.mp hx).elim (h x) (h' x)
theorem Bnm.nil{o:Wo}{k m:Nat}:Bnm o k m []:=fun x hx=>by cases hx
theorem Arms.binds_app:∀(a b:Arms),(Arms.app a b).binds=a.binds++b.binds
 |.nil,b=>by unfold Arms.app;rw[Arms.binds];rfl
 |.cons t ns d r,b=>by unfold Arms.app;rw[Arms.binds,Arms.binds,Arms.binds_app r b,Ui,Ui]
theorem Bnm.rev{o:Wo}{k m:Nat}:∀{a:Arms},Bnm o k m a.binds->Bnm o k m a.rev.binds
 |.nil,h=>h
 |.cons t ns d r,h=>by
  unfold Arms.rev
  rw[Arms.binds_app]
  rw[Arms.binds]at h
  refine Bnm.app (Bnm.rev fun x hx=>h x (ur _ (ur _ hx))) ?_
  rw[Arms.binds,Arms.binds,uu]
  exact fun x hx=>h x ((uz.mp hx).elim (uK _) fun y=>ur _ (uK _ y))
def Zc(K:ub):Sp:=fun vs H Q _=>∃(st:Addr)(room:Int)(m B:Nat),vs=[.ref st,.int room,.int (m:Nat)]/\1<=room/\1<=m/\m<=10/\Sta K H st B/\B+1 < LIM/\∀(H':Hp)(p:Addr)(rs:List Int),Kp st H H'->Sta K H' st (B+1)->H p=none->H' p=some (.lst (rs.map V.int))->rs.length=m->(∀x∈rs,0<=x/\x<=room-1)->Q (.ref p) H'
def wA(K:ub)(n:Nat):Sp:=fun vs H Q _=>∃(st sc w:Addr)(k a B:Nat)(room:Int)(l:List (Str×Int))(o:Wo),vs=[.ref st,.ref sc,.int (k:Nat),.int room,.ref w,.int (a:Nat)]/\a < 3/\Sta K H st B/\B+CB n < LIM/\Sc H l sc/\IsW H o w/\room.toNat+(if l=[]then 1 else 0)+1<=n/\l.length+10*n<=900/\k+10*n<=900/\∀(H':Hp)(p:Addr)(b:Bd),Kp st H H'->Sta K H' st (B+CB n)->IsB H' b p->b.sz<=SZ n->b.dp<=n->Bnm o k 900 b.binds->Q (.ref p) H'
def VQ(K:ub)(n:Nat):Sp:=fun vs H Q _=>∃(st sc w:Addr)(k a B:Nat)(room:Int)(l:List (Str×Int))(o:Wo),vs=[.ref st,.ref sc,.int (k:Nat),.int room,.ref w,.int (a:Nat)]/\a < 3/\Sta K H st B/\B+(3*CB n+10) < LIM/\Sc H l sc/\l≠[]/\IsW H o w/\1<=room/\room.toNat<=n/\l.length+10*(n+1)<=900/\k+10*(n+1)<=900/\∀(H':Hp)(p:Addr)(b:Bd),Kp st H H'->Sta K H' st (B+(3*CB n+10))->IsB H' b p->b.sz<=3*SZ n+31->b.dp<=n+1->Bnm o k 900 b.binds->Q (.ref p) H'
theorem xS{H:Hp}:∀{xs:List Str}{ys:List Int}{ps:List Addr},ps.length=min (xs.map V.str).length (ys.map V.int).length->(∀(i:Nat) x y,(xs.map V.str)[i]?=some x->(ys.map V.int)[i]?=some y->∃t,ps[i]?=some t/\H t=some (.tup [x,y]))->Tps H (xs.zip ys) ps
 |[],_,ps,hl,_=>by
  have:ps=[]:=Ut.mp (by simpa using hl)
  rw[this]
  exact .nil
 |_::_,[],ps,hl,_=>by
  have:ps=[]:=Ut.mp (by simpa using hl)
  rw[this]
  exact .nil
 |x::xs,y::ys,[],hl,_=>by simp at hl
 |x::xs,y::ys,p::ps,hl,h=>by
  obtain⟨t,h1,h2⟩:=h 0 (.str x) (.int y) rfl rfl
  have e:p=t:=by simpa using h1
  refine .cons (by rw[e];exact h2) (xS (by simp only[uH,ul]at hl;lia) fun i u v hu hv=>?_)
  obtain⟨t,h1,h2⟩:=h (i+1) u v (by simpa using hu) (by simpa using hv)
  exact⟨t,by simpa using h1,h2⟩
section
variable{P:Program}{w:World}{K:ub}{mg:Str->Option Value}{base:Heap}{f:Addr}{fd:FuncData}
theorem scRooms:FnScope ["_law_state","_law_room","_law_many","_law_rooms_here"] lS16 (zo YB):=.ok
theorem QO:(["_law_state","_law_room","_law_many","_law_rooms_here","_law_k"]:List Str).Nodup:=by decide +kernel
theorem VR(F:Fun K "_law_rooms" "_law_rooms" YB f fd)(GD:Ca P w K mg base CX0 1 "_law_draw" lS2 (yq K))(m_range:mg "range"=none):FnOk P w K mg base CX0 2 f fd lS16 (Zc K):=by
 refine F.by scRooms (fun vs H Q E h=>?_) (fun cdv A outer s H vs Q E hr h=>?_)
 ·obtain⟨st,room,m,B,rfl,_⟩:=h
  rfl
 obtain⟨st,room,m,B,rfl,h1,m1,m2,S0,hB,q⟩:=h
 refine⟨_,
  (zg (yp ["_law_k"] (i:=3) scRooms.nd rfl (Or.inl rfl) rfl (zQ rfl m_range (jA1 (jv 2))) (fun _ _ _ _ _=>(gN 4 QO)) (fun _ _ _ _ _=>zR) (fun _ _ _ _ _=>(zx yP (zx ym (jv 1) zj) zj)))
  (zg (yR (zx ym (jv 1) zj) (Xp (jv 3) (cA GD hr (jA2 (jv 0) (jv 2)))))
  (zh (zu (jv 3))))),?_⟩
 have sl:=zE
 have LM:LIM=4611686018427387904:=rfl
 refine⟨_,rfl,_,rfl,by lia,by lia,yu (n:=m) (fun i τ ys H'=>H=H'/\(∃x,τ=[some (.ref st),some (.int room),some (.int (m:Nat)),none,x])/\∃rs:List Int,ys=rs.map V.int/\rs.length=i/\∀x∈rs,0<=x/\x<=room-1) ⟨rfl,⟨none,rfl⟩,[],rfl,rfl,fun x hx=>by cases hx⟩ ?_ ?_⟩
 ·rintro i τ ys H1 hi ⟨rfl,⟨x,rfl⟩,rs,rfl,hl,hx⟩
  refine⟨_,rfl,_,_,rfl,rfl,_,_,rfl,rfl,⟨by decide,by decide⟩,by rw[ua];lia,rfl,⟨_,rfl⟩,rs++[(room-1) / 3],by rw[uq];rfl,by simp[hl],fun y hy=>?_⟩
  rcases uz.mp hy with hy|hy
  ·exact hx y hy
  ·rw[ui.mp hy]
   lia
 rintro τ ys H1 ⟨rfl,_,rs,rfl,hl,hx⟩ p hp
 have S1:=S0.new hp (.lst (rs.map V.int))
 refine⟨_,rfl,_,_,rfl,rfl,_,rfl,_,rfl,_,rfl,st,_,_,rfl,S1,by lia,by lia,fun H2 r k2 S2 r0 r1=>?_⟩
 have hp2:=k2.k _ _ (S0.ne hp) (upd_same (H:=H) (a:=p) (o:=.lst (rs.map V.int)))
 have k02:=(Kp.refl.new (o:=.lst (rs.map V.int)) hp).trans k2
 have ix:ixN (rs.map V.int).length r=some r.toNat:=by
  unfold ixN
  rw[if_pos r0,if_pos (by rw[ua];lia)]
 refine⟨p,_,r,r.toNat,rfl,rfl,hp2,ix,_,rfl,?_⟩
 have es:(rs.map V.int).set r.toNat (.int (room-1))=(rs.set r.toNat (room-1)).map V.int:=by rw[List.map_set]
 show Q (.ref p) (upd H2 p (.lst ((rs.map V.int).set r.toNat (.int (room-1)))))
 rw[es]
 refine q _ p _ (k02.put hp) (Sta.put S0 hp k02 S2) hp upd_same (by simp[hl]) fun y hy=>?_
 rcases List.mem_or_eq_of_mem_set hy with hy|hy
 ·exact hx y hy
 ·rw[hy]
  lia
theorem jl{o:Wo}(h:WOk o){s:Int}(hs:s=1\/s=2):1<=(o.tags.filter fun p=>decide (V.int p.2.2=V.int s)).length/\(o.tags.filter fun p=>decide (V.int p.2.2=V.int s)).length<=3:=by
 have e:(o.tags.filter fun p=>decide (V.int p.2.2=V.int s)).length=((o.tags.map (·.2.2)).filter fun x=>decide (V.int x=V.int s)).length:=by
  rw[List.filter_map,ua]
  rfl
 rw[e,h.tk]
 rcases hs with rfl|rfl
 ·exact⟨by decide,by decide⟩
 ·exact⟨by decide,by decide⟩
theorem scCase:FnScope ["_law_state","_law_scope","_law_k","_law_room","_law_world_here","_law_at","_law_sort","_law_x","_law_arms","_law_tags","_law_one","_law_left","_law_names","_law_more"] lS1 (zo VF):=.ok
theorem zb7:(["_law_state","_law_scope","_law_k","_law_room","_law_world_here","_law_at","_law_sort","_law_x","_law_arms","_law_tags","_law_one","_law_left","_law_names","_law_more","_law_j"]:List Str).Nodup:=by decide +kernel
theorem QP{n:Nat}(F:Fun K "_law_case" "_law_case" VF f fd)(GD:Ca P w K mg base CX0 1 "_law_draw" lS2 (yq K))(GN':Ca P w K mg base CX0 1 "_law_name" lS3 spNm)(GK:Ca P w K mg base CX0 2 "_law_pick" lS6 (vH K))(GR:Ca P w K mg base CX0 2 "_law_rooms" lS16 (Zc K))(GB:Ca P w K mg base CX0 (6+2*n) "_law_body" lS1 (wA K n))(m_len:mg "len"=none)(m_range:mg "range"=none)(m_zip:mg "zip"=none)(m_list:mg "list"=none)(m_tuple:mg "tuple"=none):FnOk P w K mg base CX0 (7+2*n) f fd lS1 (VQ K n):=by
 rw[show 7+2*n=(6+2*n)+1 by lia]
 refine F.by scCase (fun vs H Q E h=>?_) (fun cdv A outer s H vs Q E hr h=>?_)
 ·obtain⟨st,sc,w,k,a,B,room,l,o,rfl,_⟩:=h
  rfl
 obtain⟨st,sc,w0,k,a,B,room,l,o,rfl,ha,S0,hB,hSc,hl0,hW,hroom,hrn,hln,hkn,q⟩:=h
 have hr1:Room 1 _:=hr.mono (by lia)
 have hr2:Room 2 _:=hr.mono (by lia)
 refine⟨_,
  (zg (sE 6 scCase.nd (zx zW zj (zx yP (cA GD hr1 (jA2 (jv 0) zj)) zj)))
  (zg (sE 7 scCase.nd (cA GK hr2 (jA3 (jv 0) (jv 1) (jv 6))))
  (zg (sE 8 scCase.nd (zB zD))
  (zg (vk [10] [] (i:=9) scCase.nd rfl (Or.inl rfl) rfl (zF (xL 4)) (fun _ _ _ _ _=>(gN 10 scCase.nd)) (fun _ _ _ _ _=>(yG (tN zA (zT (yb K) (jv 10) zj (fun _ _=>rfl)) (jv 6)))) (fun _ _ _ _ _=>(jv 10)))
  (zg (zJ PassesOwn.never rfl (Vn rfl m_zip (jA2 (jv 9) (cA GR hr2 (jA3 (jv 0) (jv 3) (jL m_len (jv 9)))))) (yi rfl (zt (gN 10 scCase.nd) (zt (gN 11 scCase.nd) zL)))
   (zg (yp ["_law_j"] (i:=12) scCase.nd rfl (Or.inl rfl) rfl (zQ rfl m_range (jA1 (jL m_len (xT 10)))) (fun _ _ _ _ _=>(gN 14 zb7)) (fun _ _ _ _ _=>zR) (fun _ _ _ _ _=>(cA GN' hr1 (jA2 (jv 4) (zx zW (jv 2) (jv 14))))))
   (zg (sE 13 scCase.nd (zx yL (jv 1) (wS rfl rfl m_list rfl m_zip (jA2 (jv 12) (xT 10)))))
   (zh (zG (yy uA uN uO zK (jv 8) (jA1 (zq (jA3 (xT 10) (yv zN rfl m_tuple u0 (jA1 (jv 12))) (cA GB hr (jA6 (jv 0) (jv 13) (zx zW (jv 2) (jL m_len (jv 12))) (jv 11) (jv 4) (jv 5))))))))))))
  (zg (zy (tN zA (cA GD hr1 (jA2 (jv 0) zj)) zj)
   (zh (zG (Yp uA PySem.F.slot_list_reverse PySem.F.type_list_reverse YG (jv 8)))) zv)
  (zh (zu (zq (jA3 zp (jv 7) (yv zN rfl m_tuple u0 (jA1 (jv 8))))))))))))),?_⟩
 have sl:=zE
 have LM:LIM=4611686018427387904:=rfl
 refine cut4 fun r1_ hr1_=>?_
 refine⟨_,rfl,st,4,B,rfl,S0,by lia,by decide,fun H1 r k1 S1 r0 r1=>⟨_,_,rfl,rfl,⟨by decide,by decide⟩,_,_,rfl,rfl,?_⟩⟩
 have hsort:1+r / 3=1\/1+r / 3=2:=by lia
 show(tSeq _ _:TS) _ [some (.ref st),some (.ref sc),some (.int (k:Nat)),some (.int room),some (.ref w0),some (.int (a:Nat)),some (.int (1+r / 3)),none,none,none,none,none,none,none] H1
 generalize 1+r / 3=so at *
 refine⟨_,rfl,_,rfl,_,rfl,st,sc,so,_,l,rfl,S1,by lia,hSc.kp S0 k1,hl0,fun H2 x k2 S2 hx=>?_⟩
 refine⟨sN0,fun pa h3=>?_⟩
 have k12:=k1.trans k2
 have k3:=k12.new (o:=.lst []) h3
 have S3:=S2.new h3 (.lst [])
 have npa:=S2.ne h3
 have fpa:H pa=none:=k12.free npa h3
 have hpa:=upd_same (H:=H2) (a:=pa) (o:=.lst [])
 generalize upd H2 pa (.lst [])=H3 at *
 obtain⟨⟨tl,dl,tt,ds,hw0,htl0,hdl0,hTt,hTd⟩,wok⟩:=id hW
 have hw:=k3.k _ _ (S0.neW hw0) hw0
 have htl:=k3.k _ _ (S0.neR htl0) htl0
 have tlen:=wok.tlen
 have htt:=hTt.len
 refine⟨_,rfl,ixL hw aI2 ⟨tl,rfl,⟨_,SqL.of htl⟩,zX (xs:=tt.map V.ref) (fun j τ ys H'=>H3=H'/\(∃v,τ=[some (.ref st),some (.ref sc),some (.int (k:Nat)),some (.int room),some (.ref w0),some (.int (a:Nat)),some (.int so),some (.str x),some (.ref pa),none,v,none,none,none])/\∃fs:List Addr,ys=fs.map V.ref/\fs.length<=j/\Tri H ((o.tags.take j).filter fun p=>decide (V.int p.2.2=V.int so)) fs) ⟨rfl,⟨none,rfl⟩,[],rfl,uX _,.nil⟩ (fun j τ ys H' _ h=>by rw[<- h.1];exact SqL.of htl) ?_ ?_⟩⟩
 ·rintro j v τ ys H4 hv ⟨rfl,⟨v',rfl⟩,fs,rfl,hj,hf⟩
  rw[ue]at hv
  obtain⟨t,ht,rfl⟩:=uh.mp hv
  obtain⟨z,ss,g,sq,e1,e2,e3⟩:=hTt.get ht
  have hjl:j < o.tags.length:=(uc.mp e1).1
  have tf:=xm (fun p:Str×List Int×Int=>decide (V.int p.2.2=V.int so)) e1
  refine⟨_,rfl,ixT (k3.tups S0 _ _ e2) aI2 ⟨_,rfl,rfl,_,rfl,?_⟩⟩
  refine ite2 (fun c=>?_) (fun c=>?_)
  ·refine⟨_,rfl,by rw[ua];lia,rfl,⟨_,rfl⟩,fs++[t],by simp,by simp;lia,?_⟩
   rw[tf,if_pos c]
   exact hf.app (.cons e2 e3 .nil)
  ·refine⟨rfl,⟨_,rfl⟩,fs,rfl,by lia,?_⟩
   rw[tf,if_neg c,uu]
   exact hf
 rintro τ ys H4 ⟨rfl,_,fs,rfl,_,hf⟩ pt h4
 rw[ua,<- htt,uj (ud _)]at hf
 obtain⟨fl1,fl2⟩:=jl wok hsort
 have ftl:∀p∈o.tags.filter (fun p=>decide (V.int p.2.2=V.int so)),p.2.1.length<=9/\So p.2.1:=fun p hp=>wok.ts p (UT.mp hp).1
 generalize o.tags.filter (fun p=>decide (V.int p.2.2=V.int so))=fl at *
 have hfl:=hf.len
 have S4:=S3.new h4 (.lst (fs.map V.ref))
 have k4:=k3.new (o:=.lst (fs.map V.ref)) h4
 have hpt:=upd_same (H:=H3) (a:=pt) (o:=.lst (fs.map V.ref))
 have npt:pt≠pa:=(zk hpa h4).symm
 replace hpa:=old (o:=.lst (fs.map V.ref)) h4 hpa
 generalize upd H3 pt (.lst (fs.map V.ref))=H4 at *
 subst hr1_
 refine⟨_,rfl,_,rfl,_,rfl,_,rfl,_,_,rfl,.inl (SqL.of hpt),st,room,(fs.map V.ref).length,_,rfl,hroom,by rw[ua];lia,by rw[ua];lia,S4,by lia,fun H5 pr rs k5 S5 fpr hpr hrl hrs=>?_⟩
 rw[ua]at hrl
 have npr:pr≠pa:=(zk hpa fpr).symm
 have npt':=S4.neR hpt
 replace hpt:=k5.k _ _ npt' hpt
 replace hpa:=k5.k _ _ npa hpa
 replace k5:=k4.trans k5
 clear hw htl k4 S4
 have hSc5:=hSc.kp S0 k5
 have hW5:=hW.kp S0 k5
 have npr':=S5.neI hpr
 let Fx:Hp->Prop:=fun H'=>(∀b u,b≠st->b≠pa->H5 b=some u->H' b=some u)
 have Fx.kp:∀{H1 H2:Hp},Fx H1->Kp st H1 H2->Fx H2:=fun f k b u n1 n2 h=>k.k _ _ n1 (f b u n1 n2 h)
 have Fx.pa:∀{H1:Hp}{o:HO},Fx H1->Fx (upd H1 pa o):=fun f b u n1 n2 h=>by rw[zi n2];exact f b u n1 n2 h
 refine⟨_,_,true,true,_,_,rfl,SqK.l hpt,SqK.l hpr,Xm (xs:=fs.map V.ref) (ys:=rs.map V.int) (by rw[ua,ua];lia) (fun i σ H'=>Fx H'/\Kp st H H'/\Sta K H' st (B+4+i*CB n)/\(∃(as:List Addr)(ar:Arms),H' pa=some (.lst (as.map V.ref))/\as.length=i/\IsA H' ar as/\ar.sz<=i*(SZ n+10)/\ar.dp<=n/\Bnm o k 900 ar.binds)/\∃v1 v2 v3 v4,σ=[some (.ref st),some (.ref sc),some (.int (k:Nat)),some (.int room),some (.ref w0),some (.int (a:Nat)),some (.int so),some (.str x),some (.ref pa),some (.ref pt),v1,v2,v3,v4])
  ⟨fun b u _ _ h=>h,k5,(S5.mono (by lia)),⟨[],.nil,hpa,rfl,.nil,by rw[Arms.sz];lia,by rw[Arms.dp];lia,by rw[Arms.binds];exact Bnm.nil⟩,none,none,none,none,rfl⟩ (fun i σ H' _ h=>⟨SqK.l (h.1 _ _ npt' npt hpt),SqK.l (h.1 _ _ npr' npr hpr)⟩) ?_ ?_⟩
 ·rintro i v y T σ H1 hv hy hT ⟨fx,kp,S1,⟨as,ar,hpa1,hal,hA,hz,hdp,hbn⟩,v1,v2,v3,v4,rfl⟩
  rw[ue]at hv hy
  obtain⟨t,ht,rfl⟩:=uh.mp hv
  obtain⟨rr,hrr,rfl⟩:=uh.mp hy
  have hi:i < fs.length:=(uc.mp ht).1
  have hrx:=hrs rr (uo hrr)
  refine⟨_,_,rfl,SqT.of upd_same,rfl,_,_,rfl,_,_,rfl,rfl,?_⟩
  refine cutD (fun D' fin=>?_) (fun _ _ h=>h)
  refine cut2 fun r2_ hr2_=>?_
  replace fx:=Fx.kp fx (Kp.refl.new (o:=.tup [.ref t,.int rr]) hT)
  replace kp:=kp.new (o:=.tup [.ref t,.int rr]) hT
  replace S1:=S1.new hT (.tup [.ref t,.int rr])
  replace hpa1:=old (o:=.tup [.ref t,.int rr]) hT hpa1
  replace hA:=hA.keep (.of (zn hT (.tup [.ref t,.int rr])))
  generalize upd H1 T (.tup [.ref t,.int rr])=H6 at *
  obtain⟨z,ss,g,sq,e1,e2,e3⟩:=(hf.kp S0 kp).get ht
  have hss:ss.length<=9/\So ss:=ftl _ (uo e1)
  have hw6:=kp.k _ _ (S0.neW hw0) hw0
  refine⟨_,rfl,ixT e2 aI1 ⟨_,_,rfl,.inl (SqL.of e3),_,rfl,by rw[ua];lia,by rw[ua];lia,yu (n:=(ss.map V.int).length) (fun j τ ys H'=>H6=H'/\(∃v,τ=[some (.ref st),some (.ref sc),some (.int (k:Nat)),some (.int room),some (.ref w0),some (.int (a:Nat)),some (.int so),some (.str x),some (.ref pa),some (.ref pt),some (.ref t),some (.int rr),v3,v4,v])/\ys=((uE j).map fun i=>nm o.z o.b (k+i)).map V.str) ⟨rfl,⟨none,rfl⟩,rfl⟩ ?_ ?_⟩⟩
  ·rintro j τ ys H7 hj ⟨rfl,⟨v,rfl⟩,rfl⟩
   rw[ua]at hj
   have ek:((k:Nat):Int)+(0+(j:Nat))=((k+j:Nat):Int):=by lia
   refine⟨_,rfl,_,rfl,_,rfl,_,_,rfl,rfl,w0,o.z,o.b,_,k+j,(by show[V.ref w0,V.int (((k:Nat):Int)+(0+(j:Nat)))]=_;rw[ek]),hw6,wok.z,by rw[ua,ua,Us];lia,rfl,⟨_,rfl⟩,?_⟩
   rw[UV,uq,uq]
   rfl
  rintro τ ys H7 ⟨rfl,_,rfl⟩ pn hpn
  rw[ua]
  have nl:((uE ss.length).map fun i=>nm o.z o.b (k+i)).length=ss.length:=by rw[ua,Us]
  have nb:Bnm o k 900 ((uE ss.length).map fun i=>nm o.z o.b (k+i)):=fun x hx=>by
   obtain⟨j,hj,rfl⟩:=uC.mp hx
   have:=UJ.mp hj
   exact⟨k+j,Ux _ _,by lia,rfl⟩
  generalize (uE ss.length).map (fun i=>nm o.z o.b (k+i))=NS at *
  replace fx:=Fx.kp fx (Kp.refl.new (o:=.lst (NS.map V.str)) hpn)
  have kp7:=kp.new (o:=.lst (NS.map V.str)) hpn
  replace S1:=S1.new hpn (.lst (NS.map V.str))
  replace hpa1:=old (o:=.lst (NS.map V.str)) hpn hpa1
  replace hA:=hA.keep (.of (zn hpn (.lst (NS.map V.str))))
  replace e2:=old (o:=.lst (NS.map V.str)) hpn e2
  replace e3:=old (o:=.lst (NS.map V.str)) hpn e3
  have hpn7:=upd_same (H:=H6) (a:=pn) (o:=.lst (NS.map V.str))
  generalize upd H6 pn (.lst (NS.map V.str))=H7 at *
  obtain⟨⟨ts,hsc,hTs⟩,scn,scs⟩:=id hSc
  have htl2:=hTs.len
  have npn:=S1.neS hpn7
  refine⟨_,rfl,_,rfl,_,rfl,ixT e2 aI1 ⟨pn,sq,_,_,rfl,.inl (SqL.of hpn7),.inl (SqL.of e3),fun H8 pz zs s8 f8 hpz hzl _ _ hpair=>?_⟩⟩
  have tz:=xS hzl hpair
  have hzl2:zs.length=ss.length:=by rw[hzl,ua,ua];lia
  have kp8:=kp7.trans (.of s8)
  refine⟨sc,pz,_,_,rfl,rfl,kp8.k _ _ (S0.neR hsc) hsc,hpz,by rw[ua,ua];lia,fun pm h9=>?_⟩
  rw[<- uq]
  have kp9:=kp8.new (o:=.lst ((ts++zs).map V.ref)) h9
  have s79:Same H7 (upd H8 pm (.lst ((ts++zs).map V.ref))):=s8.new h9
  have hpm:=upd_same (H:=H8) (a:=pm) (o:=.lst ((ts++zs).map V.ref))
  have tz9:=tz.keep (.of (zn h9 (.lst ((ts++zs).map V.ref))))
  have sc9:Sc (upd H8 pm (.lst ((ts++zs).map V.ref))) (l++NS.zip ss) pm:=by
   refine⟨⟨ts++zs,hpm,(hTs.keep (kp9.tups S0)).app tz9⟩,?_,fun p hp=>?_⟩
   ·rw[uf,UW]
    lia
   ·rcases uz.mp hp with hp|hp
    ·exact scs p hp
    ·have:=hss.2 p.2 (UG hp).2
     lia
  replace fx:=Fx.kp fx (.of s79)
  replace S1:=S1.same s79
  replace hpa1:=s79 _ _ hpa1
  replace hA:=hA.keep (.of s79)
  replace e2:=s79 _ _ e2
  replace hpn7:=s79 _ _ hpn7
  generalize upd H8 pm (.lst ((ts++zs).map V.ref))=H9 at *
  subst hr2_
  refine⟨_,rfl,.inl ⟨rfl,_,SqL.of hpa1⟩,_,rfl,ixT e2 aI0 ⟨_,rfl,pn,_,rfl,.inl ⟨SqL.of hpn7,fun pu h10=>?_⟩⟩⟩
  replace fx:=Fx.kp fx (Kp.refl.new (o:=.tup (NS.map V.str)) h10)
  have kp10:=kp9.new (o:=.tup (NS.map V.str)) h10
  replace S1:=S1.new h10 (.tup (NS.map V.str))
  replace hpa1:=old (o:=.tup (NS.map V.str)) h10 hpa1
  replace hA:=hA.keep (.of (zn h10 (.tup (NS.map V.str))))
  replace hpn7:=old (o:=.tup (NS.map V.str)) h10 hpn7
  replace sc9:=sc9.same (zn h10 (.tup (NS.map V.str)))
  have hpu:=upd_same (H:=H9) (a:=pu) (o:=.tup (NS.map V.str))
  generalize upd H9 pu (.tup (NS.map V.str))=H10 at *
  have hne:l++NS.zip ss≠[]:=fun e=>hl0 (List.append_eq_nil_iff.mp e).1
  have hbnd:B+4+i*CB n+CB n<=B+4+3*CB n:=by
   have:i+1<=3:=by lia
   have:=tj (CB n) this
   rw[tM]at this
   lia
  refine⟨_,rfl,_,rfl,_,rfl,_,rfl,_,_,rfl,.inl (SqL.of hpn7),_,_,rfl,rfl,_,rfl,_,rfl,_,rfl,st,pm,w0,k+(NS.map V.str).length,a,_,rr,l++NS.zip ss,o,rfl,ha,S1,by lia,sc9,hW.kp S0 kp10,?_,?_,by rw[ua];lia,fun H11 pb b k11 S11 hb hbz hbd hbb=>?_⟩
  ·rw[if_neg hne]
   lia
  ·rw[uf,UW]
   lia
  refine⟨sN3,fun tt h12=>?_⟩
  have hpa11:=k11.k _ _ npa hpa1
  have tp:Tups H10 (upd (upd H11 tt (.tup [.str z,.ref pu,.ref pb])) pa (.lst (as.map V.ref++[.ref tt]))):=fun p xs hp=>by
   have g:=k11.tups S1 _ _ hp
   rw[zi (yN g hpa11 (by intro e;cases e))]
   exact old h12 g
  have tp2:Tups H11 (upd (upd H11 tt (.tup [.str z,.ref pu,.ref pb])) pa (.lst (as.map V.ref++[.ref tt]))):=fun p xs g=>by
   rw[zi (yN g hpa11 (by intro e;cases e))]
   exact old h12 g
  have kp12:=(kp10.trans k11).new (o:=.tup [.str z,.ref pu,.ref pb]) h12
  refine⟨pa,_,_,rfl,rfl,old h12 hpa11,by rw[ua];lia,fin _ _ ⟨Fx.pa (Fx.kp fx (k11.new h12)),kp12.put fpa,Sta.put S0 fpa kp12 ((S11.mono ?_).new h12 _),⟨as++[tt],Arms.app ar (.cons z NS b .nil),by rw[upd_same];simp,by simp[hal],?_,?_,by rw[Arms.dp_app,Arms.dp,Arms.dp];lia,by rw[Arms.binds_app,Arms.binds,Arms.binds,uu];exact hbn.app (nb.app (hbb.mono (Ux _ _)))⟩,_,_,_,_,rfl⟩⟩
  ·rw[tM]
   lia
  ·refine IsA.app (.cons ?_ (tp _ _ hpu) (hb.keep tp2) .nil) (hA.keep tp)
   rw[zi (zk hpa11 h12).symm]
   exact upd_same
  ·rw[Arms.sz_app,Arms.sz,Arms.sz,tM]
   lia
 rintro σ H6 ⟨fx,kp,S6,⟨as,ar,hpa6,hal,hA,hz,hdp,hbn⟩,v1,v2,v3,v4,rfl⟩
 rw[ua]at hal S6 hz
 have hl3:fs.length<=3:=by lia
 have hc3:=tj (CB n) hl3
 have hz3:=tj (SZ n+10) hl3
 refine(show ∀(u:TS)(D:Ends),(∀(H':Hp)(as:List Addr)(ar:Arms),Kp st H H'->Sta K H' st (B+(3*CB n+10))->H' pa=some (.lst (as.map V.ref))->IsA H' ar as->0 < as.length->ar.sz<=3*SZ n+30->ar.dp<=n->Bnm o k 900 ar.binds->u D [some (.ref st),some (.ref sc),some (.int (k:Nat)),some (.int room),some (.ref w0),some (.int (a:Nat)),some (.int so),some (.str x),some (.ref pa),some (.ref pt),v1,v2,v3,v4] H')->(tSeq _ (tSeq _ u):TS) D _ H6 from ?key) _ _ ?rest
 case key =>
  intro u D tail
  refine⟨_,rfl,st,2,_,rfl,S6,by lia,by decide,fun H7 r7 k7 S7 _ _=>?_⟩
  have hpa7:=k7.k _ _ npa hpa6
  have hA7:=hA.keep (k7.tups S6)
  have kp7:=kp.trans k7
  refine⟨rfl,_,rfl,?_⟩
  refine ite2 (fun _=>?_) (fun _=>?_)
  ·refine⟨_,rfl,.inl ⟨rfl,_,SqL.of hpa7⟩,pa,_,rfl,rfl,hpa7,?_⟩
   have tp:Tups H7 (upd H7 pa (.lst (as.map V.ref).reverse)):=fun p xs g=>by rw[zi (yN g hpa7 (by intro e;cases e))];exact g
   exact tail _ as.reverse ar.rev (kp7.put fpa) (Sta.put S0 fpa kp7 (S7.mono (by lia))) (by rw[upd_same,List.map_reverse]) ((hA7.rev).keep tp) (by rw[Uk];lia) (by rw[Arms.sz_rev];lia) (by rw[Arms.dp_rev];exact hdp) hbn.rev
  ·exact tail _ as ar kp7 (S7.mono (by lia)) hpa7 hA7 (by lia) (by lia) hdp hbn
 case rest =>
  intro H8 as ar k8 S8 hpa8 hA8 hl8 hz8 hd8 hb8
  refine⟨_,rfl,_,rfl,pa,_,rfl,.inl ⟨SqL.of hpa8,fun p9 h9=>⟨sN3,fun t h10=>?_⟩⟩⟩
  refine q _ t (.case x ar) ((k8.new h9).new h10) ((S8.new h9 _).new h10 _) (.case upd_same (old h10 upd_same) hl8 ((hA8.keep (.of (zn h9 _))).keep (.of (zn h10 _)))) ?_ ?_ (by rw[Bd.binds];exact hb8)
  ·rw[Bd.sz]
   lia
  ·rw[Bd.dp]
   lia
theorem scBody:FnScope ["_law_state","_law_scope","_law_k","_law_room","_law_world_here","_law_at","_law_way","_law_deed_here","_law_sort","_law_name_here","_law_rooms_here","_law_first"] lS1 (zo Xn):=.ok
theorem QQ{n:Nat}(F:Fun K "_law_body" "_law_body" Xn f fd)(GD:Ca P w K mg base CX0 1 "_law_draw" lS2 (yq K))(GN':Ca P w K mg base CX0 1 "_law_name" lS3 spNm)(GK:Ca P w K mg base CX0 2 "_law_pick" lS6 (vH K))(GR:Ca P w K mg base CX0 2 "_law_rooms" lS16 (Zc K))(GE:Ca P w K mg base CX0 5 "_law_deed" lS8 (VO K))(GC:Ca P w K mg base CX0 (7+2*n) "_law_case" lS1 (VQ K n))(GB:Ca P w K mg base CX0 (6+2*n) "_law_body" lS1 (wA K n)):FnOk P w K mg base CX0 (6+2*(n+1)) f fd lS1 (wA K (n+1)):=by
 rw[show 6+2*(n+1)=(7+2*n)+1 by lia]
 refine F.by scBody (fun vs H Q E h=>?_) (fun cdv A outer s H vs Q E hr h=>?_)
 ·obtain⟨st,sc,w,k,a,B,room,l,o,rfl,_⟩:=h
  rfl
 obtain⟨st,sc,w0,k,a,B,room,l,o,rfl,ha,S0,hB,hSc,hW,hme,hln,hkn,q⟩:=h
 have hr1:Room 1 _:=hr.mono (by lia)
 have hr2:Room 2 _:=hr.mono (by lia)
 have hr5:Room 5 _:=hr.mono (by lia)
 have hrB:Room (6+2*n) _:=hr.mono (by lia)
 refine⟨_,
  (zg (sE 6 scBody.nd (cA GD hr1 (jA2 (jv 0) zj)))
  (zg (zy (jW.pt (yd (tN (Yr hr) (jv 1) (zB zD)) (yh (jW.pt (wM (tN zaT (jv 3) zj) (xD (tN zA (jv 6) zj)))))))
   (zh (zu (zq (jA2 zp (cA GK hr2 (jA3 (jv 0) (jv 1) (zT zY (xX zH (xL 4) (jv 5)) zj (fun _ _=>rfl)))))))) zv)
  (zg (zy (jW.pt (wM (tN (jV hr) (jv 1) (zB zD)) (wM (tN zaT (jv 3) zj) (xD (tN vn (jv 6) zj)))))
   (zg (yR (cA GE hr5 (jA4 (jv 0) (jv 1) (jv 4) (jv 5))) (yi rfl (zt (gN 7 scBody.nd) (zt (gN 8 scBody.nd) zL))))
   (zg (sE 9 scBody.nd (cA GN' hr1 (jA2 (jv 4) (jv 2))))
   (zh (zu (zq (jA4 zp (jv 9) (jv 7) (cA GB hrB (jA6 (jv 0) (zx yL (jv 1) (zB (jA1 (zq (jA2 (jv 9) (jv 8)))))) (zx zW (jv 2) zj) (zx ym (jv 3) zj) (jv 4) (jv 5))))))))) zv)
  (zg (zy (tN jg (jv 6) zj)
   (zh (zu (cA GC hr (jA6 (jv 0) (jv 1) (jv 2) (jv 3) (jv 4) (jv 5))))) zv)
  (zg (sE 10 scBody.nd (cA GR hr2 (jA3 (jv 0) (jv 3) zj)))
  (zg (sE 11 scBody.nd (cA GB hrB (jA6 (jv 0) (jv 1) (jv 2) (xL 10) (jv 4) (jv 5))))
  (zh (zu (zq (jA4 zp (cA GK hr2 (jA3 (jv 0) (jv 1) zj)) (jv 11) (cA GB hrB (jA6 (jv 0) (jv 1) (jv 2) (xL 10) (jv 4) (jv 5))))))))))))),?_⟩
 have sl:=zE
 have LM:LIM=4611686018427387904:=rfl
 have cb:CB (n+1)=3*CB n+300:=rfl
 have sz:SZ (n+1)=3*SZ n+40:=rfl
 rw[cb]at hB q
 rw[sz]at q
 obtain⟨⟨ts,hsc,hT⟩,scn,scs⟩:=id hSc
 have htl:=hT.len
 have h0:l=[]↔ts=[]:=by
  rw[<- Ut,<- Ut,htl]
 refine(show ∀(uG uL uR:TS)(D:Ends),D.rt=Q->(∀(D':Ends)(H':Hp)(r:Int),D'.rt=Q->l≠[]->Kp st H H'->Sta K H' st (B+1)->uG D' [some (.ref st),some (.ref sc),some (.int (k:Nat)),some (.int room),some (.ref w0),some (.int (a:Nat)),some (.int r),none,none,none,none,none] H')->(∀(D':Ends)(H':Hp)(r:Int),D'.rt=Q->(l≠[]->1<=room)->Kp st H H'->Sta K H' st (B+1)->uL D' [some (.ref st),some (.ref sc),some (.int (k:Nat)),some (.int room),some (.ref w0),some (.int (a:Nat)),some (.int r),none,none,none,none,none] H')->(∀(H':Hp)(r:Int),l≠[]->1<=room->Kp st H H'->Sta K H' st (B+1)->uR D [some (.ref st),some (.ref sc),some (.int (k:Nat)),some (.int room),some (.ref w0),some (.int (a:Nat)),some (.int r),none,none,none,none,none] H')->(tSeq _ (tSeq (tIfS _ uG wI) (tSeq (tIfS _ uL wI) uR)):TS) D _ H from ?key) _ _ _ _ rfl ?g ?l ?r
 case key =>
  intro uG uL uR D hD hG hL hR
  refine⟨_,rfl,st,8,B,rfl,S0,by lia,by decide,fun H1 r k1 S1 r0 r1=>?_⟩
  refine⟨_,rfl,sN0,fun pe h2=>?_⟩
  have k2:=k1.new (o:=.lst []) h2
  have S2:=S1.new h2 (.lst [])
  have hsc2:=k2.k _ _ (S0.neR hsc) hsc
  refine⟨_,_,_,rfl,rfl,SqL.of hsc2,SqL.of upd_same,_,rfl,?_⟩
  show if(if true=true then !(ts.map V.ref).isEmpty else(ts.map V.ref).isEmpty)=true then _ else _
  generalize upd H1 pe (.lst [])=H2 at *
  have test3:∀(b:Bool),(ts.map V.ref).isEmpty=b->True:=fun _ _=>trivial
  by_cases he:ts=[]
  ·have e0:(ts.map V.ref).isEmpty=true:=by rw[he];rfl
   rw[e0]
   refine iteF ?_
   refine⟨_,rfl,sN0,fun pe3 h3=>?_⟩
   have k3:=k2.new (o:=.lst []) h3
   have S3:=S2.new h3 (.lst [])
   refine⟨_,_,_,rfl,rfl,SqL.of (old h3 hsc2),SqL.of upd_same,_,rfl,?_⟩
   show if(if false=true then !(ts.map V.ref).isEmpty else(ts.map V.ref).isEmpty)=true then _ else _
   rw[e0]
   exact iteT (hL _ _ r hD (fun e=>absurd (h0.mpr he) e) k3 S3)
  ·have e0:(ts.map V.ref).isEmpty=false:=by
    cases ts with
    |nil=>exact absurd rfl he
    |cons _ _=>rfl
   have hl0:l≠[]:=fun e=>he (h0.mp e)
   rw[e0]
   refine iteT ?_
   refine⟨_,rfl,_,_,rfl,rfl,_,rfl,?_⟩
   refine ite2 (fun _=>hG _ _ r hD hl0 k2 S2) (fun c=>?_)
   rw[decide_eq_true_eq]at c
   have hroom:1<=room:=by lia
   refine⟨_,rfl,rfl,_,rfl,?_⟩
   refine ite2 (fun _=>hG _ _ r hD hl0 k2 S2) (fun _=>?_)
   refine⟨_,rfl,sN0,fun pe3 h3=>?_⟩
   have k3:=k2.new (o:=.lst []) h3
   have S3:=S2.new h3 (.lst [])
   refine⟨_,_,_,rfl,rfl,SqL.of (old h3 hsc2),SqL.of upd_same,_,rfl,?_⟩
   show if(if false=true then !(ts.map V.ref).isEmpty else(ts.map V.ref).isEmpty)=true then _ else _
   rw[e0]
   refine iteF ?_
   refine⟨_,rfl,_,_,rfl,rfl,_,rfl,?_⟩
   refine ite2 (fun _=>hL _ _ r hD (fun _=>hroom) k3 S3) (fun _=>?_)
   refine⟨_,rfl,_,_,rfl,rfl,_,rfl,?_⟩
   exact ite2 (fun _=>hL _ _ r hD (fun _=>hroom) k3 S3) (fun _=>hR _ r hl0 hroom k3 S3)
 case g =>
  intro D' H1 r hD hl0 k1 S1
  obtain⟨⟨tl,dl,tt,ds,hw,htl1,hdl,hTt,hTd⟩,wok⟩:=hW.kp S0 k1
  have dlen:=wok.dlen
  have hdl2:=hTd.len
  obtain⟨t,ht⟩:∃t,ds[a]?=some t:=⟨_,uk (by lia)⟩
  obtain⟨z,ss,g,sq,e1,e2,e3⟩:=hTd.get ht
  have htr:(ds.map V.ref)[a]?=some (.ref t):=by rw[ue,ht];rfl
  refine⟨_,rfl,_,rfl,_,rfl,ixL hw aI3 ⟨_,rfl,dl,_,_,_,rfl,rfl,SqL.of hdl,zP htr,ixT e2 aI2 ⟨st,sc,g,_,l,rfl,S1,by lia,hSc.kp S0 k1,hl0,fun H2 x k2 S2 hx=>⟨sN2,fun t1 h3=>?_⟩⟩⟩⟩
  rw[hD]
  exact q _ t1 (.give x) ((k1.trans k2).new h3) ((S2.mono (by lia)).new h3 _) (.give upd_same) (by rw[Bd.sz];lia) (by rw[Bd.dp];lia) (by rw[Bd.binds];exact Bnm.nil)
 case l =>
  intro D' H1 r hD hroom k1 S1
  refine⟨_,rfl,_,rfl,_,rfl,_,rfl,st,sc,w0,_,l,o,a,rfl,ha,S1,by lia,hSc.kp S0 k1,hW.kp S0 k1,fun H2 p p' d g k2 S2 hp hd g0 g1 hu=>?_⟩
  refine⟨_,_,rfl,SqT.of hp,rfl,_,_,rfl,_,_,rfl,rfl,?_⟩
  have k12:=k1.trans k2
  obtain⟨⟨tl,dl,tt,ds,hw,htl1,hdl,hTt,hTd⟩,wok⟩:=hW.kp S0 k12
  refine⟨_,rfl,_,rfl,w0,o.z,o.b,_,k,rfl,hw,wok.z,?_⟩
  generalize hy:nm o.z o.b k=y
  refine⟨_,rfl,_,rfl,_,rfl,_,rfl,_,rfl,_,rfl,sN2,fun t1 h3=>⟨sN1,fun pl h4=>?_⟩⟩
  have k3:=k12.new (o:=.tup [.str y,.int g]) h3
  have k4:=k3.new (o:=.lst [.ref t1]) h4
  refine⟨sc,pl,_,_,rfl,rfl,k4.k _ _ (S0.neR hsc) hsc,upd_same,by rw[ua];show _+1<=_;lia,fun pm h5=>?_⟩
  have em:ts.map V.ref++[V.ref t1]=(ts++[t1]).map V.ref:=by rw[uq];rfl
  rw[em]
  have k5:=k4.new (o:=.lst ((ts++[t1]).map V.ref)) h5
  have S5:=((S2.new h3 (.tup [.str y,.int g])).new h4 (.lst [.ref t1])).new h5 (.lst ((ts++[t1]).map V.ref))
  have hd5:=(((hd.keep (.of (zn h3 (.tup [.str y,.int g])))).keep (.of (zn h4 (.lst [.ref t1])))).keep (.of (zn h5 (.lst ((ts++[t1]).map V.ref)))))
  have ht1:=old (o:=.lst ((ts++[t1]).map V.ref)) h5 (old (o:=.lst [.ref t1]) h4 (upd_same (H:=H2) (a:=t1) (o:=.tup [.str y,.int g])))
  have hpm:=upd_same (H:=upd (upd H2 t1 (.tup [.str y,.int g])) pl (.lst [.ref t1])) (a:=pm) (o:=.lst ((ts++[t1]).map V.ref))
  generalize upd (upd (upd H2 t1 (.tup [.str y,.int g])) pl (.lst [.ref t1])) pm (.lst ((ts++[t1]).map V.ref))=H5 at *
  have sc5:Sc H5 (l++[(y,g)]) pm:=by
   refine⟨⟨ts++[t1],hpm,(hT.keep (k5.tups S0)).app (.cons ht1 .nil)⟩,?_,fun x hx=>?_⟩
   ·rw[uf,uU]
    lia
   ·rcases uz.mp hx with hx|hx
    ·exact scs x hx
    ·rw[ui.mp hx]
     exact⟨g0,g1⟩
  refine⟨_,rfl,_,_,rfl,rfl,_,rfl,_,_,rfl,rfl,_,rfl,_,rfl,st,pm,w0,k+1,a,_,room-1,l++[(y,g)],o,rfl,ha,S5,by lia,sc5,hW.kp S0 k5,?_,?_,by lia,fun H6 pb b k6 S6 hb hbz hbd hbb=>⟨sN4,fun t2 h7=>?_⟩⟩
  ·rw[if_neg (by simp)]
   by_cases e:l=[]
   ·rw[if_pos e]at hme
    lia
   ·rw[if_neg e]at hme
    have:=hroom e
    lia
  ·rw[uf,uU]
   lia
  rw[hD]
  exact q _ t2 (.lt y d b) ((k5.trans k6).new h7) ((S6.mono (by lia)).new h7 _) (.lt upd_same ((hd5.keep (k6.tups S5)).keep (.of (zn h7 _))) (hb.keep (.of (zn h7 _)))) (by rw[Bd.sz];lia) (by rw[Bd.dp];lia) (by rw[Bd.binds];exact fun x hx=>(um.mp hx).elim (fun e=>⟨k,ud _,by lia,by rw[e,hy]⟩) (hbb.mono (U8 _) x))
 case r =>
  intro H1 r hl0 hroom k1 S1
  rw[if_neg hl0]at hme
  refine⟨_,rfl,_,_,rfl,rfl,_,rfl,?_⟩
  refine ite2 (fun _=>?_) (fun _=>?_)
  ·refine⟨_,rfl,_,rfl,_,rfl,_,rfl,_,rfl,_,rfl,st,sc,w0,k,a,_,room,l,o,rfl,ha,S1,by lia,hSc.kp S0 k1,hl0,hW.kp S0 k1,hroom,by lia,by lia,by lia,fun H2 p b k2 S2 hb hbz hbd hbb=>?_⟩
   exact q _ p b (k1.trans k2) (S2.mono (by lia)) hb (by lia) hbd hbb
  refine⟨_,rfl,_,rfl,st,room,2,_,rfl,hroom,by decide,by decide,S1,by lia,fun H2 pr rs k2 S2 f2 hpr hrl hrs=>?_⟩
  have k12:=k1.trans k2
  obtain⟨r1,r2,rfl⟩:∃r1 r2,rs=[r1,r2]:=by
   match rs,hrl with
   |[x,y],_=>exact⟨x,y,rfl⟩
  have hr1':=hrs r1 (by simp)
  have hr2':=hrs r2 (by simp)
  refine⟨_,rfl,_,rfl,_,rfl,_,rfl,ixL hpr aI0 ⟨_,rfl,_,rfl,st,sc,w0,k,a,_,r1,l,o,rfl,ha,S2,by lia,hSc.kp S0 k12,hW.kp S0 k12,?_,by lia,by lia,fun H3 p1 b1 k3 S3 hb1 hz1 hd1 hn1=>?_⟩⟩
  ·rw[if_neg hl0]
   lia
  have k13:=k12.trans k3
  have hpr3:=k3.k _ _ (S2.neI hpr) hpr
  refine⟨_,rfl,_,rfl,st,sc,0,_,l,rfl,S3,by lia,hSc.kp S0 k13,hl0,fun H4 x k4 S4 hx=>?_⟩
  have k14:=k13.trans k4
  refine⟨_,rfl,_,rfl,_,rfl,_,rfl,_,rfl,ixL (k4.k _ _ (S3.neI hpr3) hpr3) aI1 ⟨_,rfl,_,rfl,st,sc,w0,k,a,_,r2,l,o,rfl,ha,S4,by lia,hSc.kp S0 k14,hW.kp S0 k14,?_,by lia,by lia,fun H5 p2 b2 k5 S5 hb2 hz2 hd2 hn2=>⟨sN4,fun t2 h7=>?_⟩⟩⟩
  ·rw[if_neg hl0]
   lia
  exact q _ t2 (.iff x b1 b2) ((k14.trans k5).new h7) ((S5.mono (by lia)).new h7 _) (.iff upd_same (((hb1.keep (k4.tups S3)).keep (k5.tups S4)).keep (.of (zn h7 _))) (hb2.keep (.of (zn h7 _)))) (by rw[Bd.sz];lia) (by rw[Bd.dp];lia) (by rw[Bd.binds];exact hn1.app hn2)
structure Df where
 z:Str
 ns:List Str
 b:Bd
structure IsF(H:Hp)(d:Df)(p:Addr):Prop where
 ex:∃q pb,H p=some (.tup [.str d.z,.ref q,.ref pb])/\H q=some (.tup (d.ns.map V.str))/\IsB H d.b pb
theorem IsF.keep{H H':Hp}{d:Df}{p:Addr}(h:IsF H d p)(t:Tups H H'):IsF H' d p:=let ⟨q,pb,h1,h2,h3⟩:=h.ex;⟨q,pb,t _ _ h1,t _ _ h2,h3.keep t⟩
inductive IsFs(H:Hp):List Df->List Addr->Prop
 |nil:IsFs H [] []
 |cons {d:Df} {p:Addr} {ds:List Df} {ps:List Addr}:IsF H d p->IsFs H ds ps->IsFs H (d::ds) (p::ps)
theorem IsFs.keep{H H':Hp}{d:List Df}{p:List Addr}(h:IsFs H d p)(t:Tups H H'):IsFs H' d p:=by
 induction h with
 |nil=>exact .nil
 |cons a _ ih=>exact .cons (a.keep t) ih
theorem IsFs.app{H:Hp}{a b:List Df}{p q:List Addr}(h:IsFs H a p)(g:IsFs H b q):IsFs H (a++b) (p++q):=by
 induction h with
 |nil=>exact g
 |cons x _ ih=>exact .cons x ih
theorem IsFs.len{H:Hp}{l:List Df}{ts:List Addr}(h:IsFs H l ts):l.length=ts.length:=by
 induction h with
 |nil=>rfl
 |cons _ _ ih=>rw[ul,ul,ih]
theorem IsFs.get{H:Hp}:∀{l:List Df}{ts:List Addr}{i:Nat}{t:Addr},IsFs H l ts->ts[i]?=some t->∃d,l[i]?=some d/\IsF H d t
 |_,_,_,_,.nil,e=>by simp at e
 |_,_,0,_,.cons a _,e=>by
  simp at e
  subst e
  exact⟨_,rfl,a⟩
 |_,_,i+1,_,.cons _ b,e=>by
  obtain⟨d,h1,h2⟩:=IsFs.get (i:=i) b (by simpa using e)
  exact⟨d,by simpa using h1,h2⟩
def FOk(n:Nat)(d:Df):Prop:=d.ns.length<=3/\d.b.sz<=SZ n/\d.b.dp<=n
structure FNm(o:Wo)(d:Df):Prop where
 n:d.ns=(uE d.ns.length).map fun i=>nm o.z o.b i
 b:Bnm o d.ns.length 900 d.b.binds
 s:∃s∈o.defs,s.1=d.z/\s.2.1.length=d.ns.length
def za3(K:ub)(n:Nat):Sp:=fun vs H Q _=>∃(st w:Addr)(a B:Nat)(room:Int)(o:Wo),vs=[.ref st,.ref w,.int (a:Nat),.int room]/\a < 3/\Sta K H st B/\B+CB n < LIM/\IsW H o w/\room.toNat+2<=n/\10*n<=800/\∀(H':Hp)(p:Addr)(d:Df),Kp st H H'->Sta K H' st (B+CB n)->IsF H' d p->FOk n d/\FNm o d->d.z=nm o.z o.b (2-a)->Q (.ref p) H'
def kd(o:Wo):List (Str×Int):=o.tags.map fun t=>(t.1,((t.2.1.length:Nat):Int))
def Xt:Sp:=fun vs H Q _=>∃(w:Addr)(o:Wo),vs=[.ref w]/\IsW H o w/\∀(H':Hp)(p p1 p2:Addr)(t1 t2:List Addr),Same H H'->H' p=some (.tup [.ref p1,.ref p2])->H' p1=some (.tup (t1.map V.ref))->H' p2=some (.tup (t2.map V.ref))->Tps H' ((kd o).take 3) t1->Tps H' ((kd o).drop 3) t2->Q (.ref p) H'
def jm(K:ub)(n:Nat):Sp:=fun vs H Q _=>∃(st w:Addr)(B:Nat)(room:Int)(o:Wo),vs=[.ref st,.ref w,.int room]/\Sta K H st B/\B+3*CB n < LIM/\IsW H o w/\room.toNat+2<=n/\10*n<=800/\∀(H':Hp)(p pk pd p1 p2:Addr)(t1 t2 ds:List Addr)(dfs:List Df),Kp st H H'->Sta K H' st (B+3*CB n)->H' p=some (.tup [.ref pk,.ref pd])->H' pk=some (.tup [.ref p1,.ref p2])->H' p1=some (.tup (t1.map V.ref))->H' p2=some (.tup (t2.map V.ref))->Tps H' ((kd o).take 3) t1->Tps H' ((kd o).drop 3) t2->H' pd=some (.tup (ds.map V.ref))->IsFs H' dfs ds->ds.length=3->(∀d∈dfs,FOk n d/\FNm o d)->dfs.map (·.z)=(uE 3).map (fun k=>nm o.z o.b (2-k))->Q (.ref p) H'
theorem Tps.take{H:Hp}{l:List (Str×Int)}{ts:List Addr}(h:Tps H l ts)(n:Nat):Tps H (l.take n) (ts.take n):=by
 induction h generalizing n with
 |nil=>rw[List.take_nil,List.take_nil];exact .nil
 |cons a _ ih =>
  cases n with
  |zero=>exact .nil
  |succ n=>rw[List.take_succ_cons,List.take_succ_cons];exact .cons a (ih n)
theorem Tps.drop{H:Hp}{l:List (Str×Int)}{ts:List Addr}(h:Tps H l ts)(n:Nat):Tps H (l.drop n) (ts.drop n):=by
 induction h generalizing n with
 |nil=>rw[List.drop_nil,List.drop_nil];exact .nil
 |cons a b ih =>
  cases n with
  |zero=>exact .cons a b
  |succ n=>rw[List.drop_succ_cons,List.drop_succ_cons];exact ih n
theorem ZO{α:Type}{f:α->V}{s:List α}{m:Int}(h:0<=m):cutV (s.map f) (some m) none=(s.drop m.toNat).map f:=by
 unfold cutV
 have c2:HT.sIx (s.map f).length (s.map f).length none=(s.map f).length:=rfl
 have c1:HT.sIx (s.map f).length 0 (some m)=min m.toNat (s.map f).length:=by
  show(if m < 0 then(m+((s.map f).length:Nat)).toNat else min m.toNat (s.map f).length)=_
  rw[if_neg (by lia)]
 rw[c1,c2,List.map_drop]
 rcases Nat.le_total m.toNat (s.map f).length with c|c
 ·rw[Nat.min_eq_left c]
  exact uj (by simp)
 ·rw[Nat.min_eq_right c,List.drop_of_length_le (ud _),List.drop_of_length_le c]
  exact List.take_nil
theorem VS(F:Fun K "_law_body" "_law_body" Xn f fd):FnOk P w K mg base CX0 (6+2*0) f fd lS1 (wA K 0):=by
 refine F.by scBody (fun vs H Q E h=>?_) (fun cdv A outer s H vs Q E hr h=>?_)
 ·obtain⟨st,sc,w,k,a,B,room,l,o,rfl,_⟩:=h
  rfl
 ·obtain⟨st,sc,w,k,a,B,room,l,o,rfl,_,_,_,_,_,hme,_⟩:=h
  lia
theorem scDef:FnScope ["_law_state","_law_world_here","_law_at","_law_room","_law_name_here","_law_sorts_here","_law_gives","_law_params"] lS10 (zo sDef):=.ok
theorem zc2:(["_law_state","_law_world_here","_law_at","_law_room","_law_name_here","_law_sorts_here","_law_gives","_law_params","_law_k"]:List Str).Nodup:=by decide +kernel
theorem zb8{n:Nat}(F:Fun K "_law_def" "_law_def" sDef f fd)(GN':Ca P w K mg base CX0 1 "_law_name" lS3 spNm)(GB:Ca P w K mg base CX0 (6+2*n) "_law_body" lS1 (wA K n))(m_len:mg "len"=none)(m_range:mg "range"=none)(m_zip:mg "zip"=none)(m_list:mg "list"=none)(m_tuple:mg "tuple"=none):FnOk P w K mg base CX0 (7+2*n) f fd lS10 (za3 K n):=by
 rw[show 7+2*n=(6+2*n)+1 by lia]
 refine F.by scDef (fun vs H Q E h=>?_) (fun cdv A outer s H vs Q E hr h=>?_)
 ·obtain⟨st,w,a,B,room,o,rfl,_⟩:=h
  rfl
 obtain⟨st,w0,a,B,room,o,rfl,ha,S0,hB,hW,hroom,hn,q⟩:=h
 have hr1:Room 1 _:=hr.mono (by lia)
 refine⟨_,
  (zg (yR (xX zH (xL 1) (jv 2)) (yi rfl (zt (gN 4 scDef.nd) (zt (gN 5 scDef.nd) (zt (gN 6 scDef.nd) zL)))))
  (zg (yp ["_law_k"] (i:=7) scDef.nd rfl (Or.inl rfl) rfl (zQ rfl m_range (jA1 (jL m_len (jv 5)))) (fun _ _ _ _ _=>(gN 8 zc2)) (fun _ _ _ _ _=>zR) (fun _ _ _ _ _=>(cA GN' hr1 (jA2 (jv 1) (jv 8)))))
  (zh (zu (zq (jA3 (jv 4) (yv zN rfl m_tuple u0 (jA1 (jv 7))) (cA GB hr (jA6 (jv 0) (wS rfl rfl m_list rfl m_zip (jA2 (jv 7) (jv 5))) (jL m_len (jv 5)) (jv 3) (jv 1) (jv 2))))))))),?_⟩
 have sl:=zE
 have LM:LIM=4611686018427387904:=rfl
 obtain⟨⟨tl,dl,tt,ds,hw,htl1,hdl,hTt,hTd⟩,wok⟩:=id hW
 have dlen:=wok.dlen
 have hdl2:=hTd.len
 obtain⟨t,ht⟩:∃t,ds[a]?=some t:=⟨_,uk (by lia)⟩
 obtain⟨z,ss,g,sq,e1,e2,e3⟩:=hTd.get ht
 have wd:ss.length<=3/\So ss/\0<=g/\g<=2:=wok.ds _ (uo e1)
 have htr:(ds.map V.ref)[a]?=some (.ref t):=by rw[ue,ht];rfl
 refine⟨_,rfl,ixL hw aI3 ⟨_,rfl,dl,_,_,_,rfl,rfl,SqL.of hdl,zP htr,_,_,rfl,SqT.of e2,rfl,_,_,rfl,_,_,rfl,_,_,rfl,rfl,?_⟩⟩
 refine⟨_,rfl,_,_,rfl,.inl (SqL.of e3),_,rfl,by rw[ua];lia,by rw[ua];lia,yu (n:=(ss.map V.int).length) (fun j τ ys H'=>H=H'/\(∃v,τ=[some (.ref st),some (.ref w0),some (.int (a:Nat)),some (.int room),some (.str z),some (.ref sq),some (.int g),none,v])/\ys=((uE j).map fun i=>nm o.z o.b i).map V.str) ⟨rfl,⟨none,rfl⟩,rfl⟩ ?_ ?_⟩
 ·rintro j τ ys H7 hj ⟨rfl,⟨v,rfl⟩,rfl⟩
  rw[ua]at hj
  refine⟨_,rfl,_,rfl,w0,o.z,o.b,_,j,(by show[V.ref w0,V.int (0+(j:Nat))]=_;rw[tH]),hw,wok.z,by rw[ua,ua,Us];lia,rfl,⟨_,rfl⟩,?_⟩
  rw[UV,uq,uq]
  rfl
 rintro τ ys H7 ⟨rfl,_,rfl⟩ pn hpn
 rw[ua]
 have nl:((uE ss.length).map fun i=>nm o.z o.b i).length=ss.length:=by rw[ua,Us]
 generalize eNS:(uE ss.length).map (fun i=>nm o.z o.b i)=NS at *
 refine⟨_,rfl,_,rfl,pn,_,rfl,.inl ⟨SqL.of upd_same,fun pu hpu=>?_⟩⟩
 have s2:Same H (upd (upd H pn (.lst (NS.map V.str))) pu (.tup (NS.map V.str))):=(zn hpn _).new hpu
 have hpn2:=old (o:=.tup (NS.map V.str)) hpu (upd_same (H:=H) (a:=pn) (o:=.lst (NS.map V.str)))
 have hpu2:=upd_same (H:=upd H pn (.lst (NS.map V.str))) (a:=pu) (o:=.tup (NS.map V.str))
 generalize upd (upd H pn (.lst (NS.map V.str))) pu (.tup (NS.map V.str))=H2 at *
 refine⟨_,rfl,_,rfl,_,rfl,pn,sq,_,_,rfl,.inl (SqL.of hpn2),.inl (SqL.of (s2 _ _ e3)),fun H3 pz zs s3 f3 hpz hzl _ _ hpair=>?_⟩
 have tz:=xS hzl hpair
 have s13:=s2.trans s3
 have sc3:Sc H3 (NS.zip ss) pz:=by
  refine⟨⟨zs,hpz,tz⟩,?_,fun p hp=>?_⟩
  ·rw[UW]
   lia
  ·have:=wd.2.1 p.2 (UG hp).2
   lia
 refine⟨_,rfl,_,_,rfl,.inl (SqL.of (s13 _ _ e3)),_,rfl,_,rfl,_,rfl,st,pz,w0,(ss.map V.int).length,a,B,room,NS.zip ss,o,rfl,ha,S0.same s13,hB,sc3,hW.same s13,?_,?_,by rw[ua];lia,fun H4 pb b k4 S4 hb hbz hbd hbb=>⟨sN3,fun t4 h5=>?_⟩⟩
 ·split<;>lia
 ·rw[UW]
  lia
 have ez:z=nm o.z o.b (2-a):=by
  have h1:(o.defs.map (·.1))[a]?=some z:=by rw[ue,e1];rfl
  rw[wok.dn,ue,tE ha]at h1
  exact(uP.inj h1).symm
 refine q _ t4 ⟨z,NS,b⟩ (((Kp.of s13).trans k4).new h5) (S4.new h5 _) ⟨pu,pb,upd_same,old h5 (k4.tups (S0.same s13) _ _ (s3 _ _ hpu2)),hb.keep (.of (zn h5 _))⟩ ⟨⟨by show NS.length<=3;lia,hbz,hbd⟩,⟨by show NS=(uE NS.length).map _;rw[nl];exact eNS.symm,by show Bnm o NS.length 900 b.binds;rw[ua]at hbb;rw[nl];exact hbb,⟨_,uo e1,rfl,nl.symm⟩⟩⟩ ez
theorem scKinds:FnScope ["_law_world_here","_law_some"] ["_law_world_here"] (zo Yz):=.ok
theorem Zd:(["_law_world_here","_law_some","_law_tag","_law_sorts_here","_law_kind"]:List Str).Nodup:=by decide +kernel
theorem VT(F:Fun K "_law_kinds" "_law_kinds" Yz f fd)(m_len:mg "len"=none)(m_tuple:mg "tuple"=none):FnOk P w K mg base CX0 1 f fd ["_law_world_here"] Xt:=by
 refine F.by scKinds (fun vs H Q E h=>?_) (fun cdv A outer s H vs Q E hr h=>?_)
 ·obtain⟨w,o,rfl,_⟩:=h
  rfl
 obtain⟨w0,o,rfl,hW,q⟩:=h
 refine⟨_,
  (zg (yp ["_law_tag","_law_sorts_here","_law_kind"] (i:=1) scKinds.nd rfl (Or.inl rfl) rfl (zF (xL 0)) (fun _ _ _ _ _=>(xw K (n:=3) rfl (zt (gN 2 Zd) (zt (gN 3 Zd) (zt (gN 4 Zd) zL))))) (fun _ _ _ _ _=>zR) (fun _ _ _ _ _=>(zq (jA2 (jv 2) (xE (xk K) rfl m_len PySem.boot_len (jA1 (jv 3)))))))
  (zh (zu (zq (jA2 (yv zN rfl m_tuple u0 (jA1 (yJ jU (jv 1) y0 (y8 zj)))) (yv zN rfl m_tuple u0 (jA1 (yJ jU (jv 1) (y8 zj) y0)))))))),?_⟩
 have sl:=zE
 obtain⟨⟨tl,dl,tt,ds,hw,htl1,hdl,hTt,hTd⟩,wok⟩:=id hW
 have tlen:=wok.tlen
 have htt:=hTt.len
 refine⟨_,rfl,ixL hw aI2 ⟨tl,rfl,⟨_,SqL.of htl1⟩,zX (xs:=tt.map V.ref) (fun j τ ys H'=>Same H H'/\(∃u v x,τ=[some (.ref w0),none,u,v,x])/\∃ps:List Addr,ys=ps.map V.ref/\Tps H' ((kd o).take j) ps) ⟨Same.refl _,⟨none,none,none,rfl⟩,[],rfl,.nil⟩ (fun j τ ys H' _ h=>SqL.of (h.1 _ _ htl1)) ?_ ?_⟩⟩
 ·rintro j v τ ys H1 hv ⟨s1,⟨u,v',x,rfl⟩,ps,rfl,hp⟩
  rw[ue]at hv
  obtain⟨t,ht,rfl⟩:=uh.mp hv
  obtain⟨z,ss,g,sq,e1,e2,e3⟩:=hTt.get ht
  have hj:j < o.tags.length:=(uc.mp e1).1
  have hpl:=hp.len
  rw[uD]at hpl
  refine⟨_,_,rfl,SqT.of (s1 _ _ e2),rfl,_,_,rfl,_,_,rfl,_,_,rfl,rfl,_,rfl,_,rfl,_,_,rfl,.inl (SqL.of (s1 _ _ e3)),sN2,fun t1 h2=>⟨?_,s1.new h2,⟨_,_,_,rfl⟩,ps++[t1],by simp,?_⟩⟩
  ·rw[ua]
   lia
  ·have ek:(kd o)[j]?=some (z,((ss.length:Nat):Int)):=by
    unfold kd
    rw[ue,e1]
    rfl
   rw[uv,ek]
   refine(hp.keep (.of (zn h2 _))).app (.cons ?_ .nil)
   rw[upd_same,ua]
 rintro τ ys H1 ⟨s1,_,ps,rfl,hp⟩ p1 h1
 have kl:(kd o).length=4:=by unfold kd;rw[ua];exact tlen
 rw[ua,<- htt,uj (by lia)]at hp
 refine⟨_,rfl,_,rfl,_,_,rfl,SqL.of upd_same,fun pa ha=>⟨pa,_,rfl,.inl ⟨SqL.of upd_same,fun pb hb=>?_⟩⟩⟩
 refine⟨_,rfl,_,rfl,_,_,rfl,SqL.of (old hb (old ha upd_same)),fun pc hc=>⟨pc,_,rfl,.inl ⟨SqL.of upd_same,fun pe he=>⟨sN2,fun pf hf=>?_⟩⟩⟩⟩
 rw[ZM (by decide),ZO (by decide)]at *
 have s2:Same H1 _:=(((((zn h1 (.lst (ps.map V.ref))).new (o:=.lst ((ps.take 3).map V.ref)) ha).new (o:=.tup ((ps.take 3).map V.ref)) hb).new (o:=.lst ((ps.drop 3).map V.ref)) hc).new (o:=.tup ((ps.drop 3).map V.ref)) he).new (o:=.tup [.ref pb,.ref pe]) hf
 exact q _ pf pb pe (ps.take 3) (ps.drop 3) (s1.trans s2) upd_same (old hf (old he (old hc upd_same))) (old hf upd_same) ((hp.keep (.of s2)).take 3) ((hp.keep (.of s2)).drop 3)
theorem Wi:FnScope lS9 lS9 (zo vF):=.ok
theorem Wj:(["_law_state","_law_world_here","_law_room","_law_at"]:List Str).Nodup:=by decide +kernel
theorem YI{n:Nat}(F:Fun K "_law_program" "_law_program" vF f fd)(GKs:Ca P w K mg base CX0 1 "_law_kinds" ["_law_world_here"] Xt)(GF:Ca P w K mg base CX0 (7+2*n) "_law_def" lS10 (za3 K n))(m_range:mg "range"=none)(m_tuple:mg "tuple"=none):FnOk P w K mg base CX0 (8+2*n) f fd lS9 (jm K n):=by
 rw[show 8+2*n=(7+2*n)+1 by lia]
 refine F.by Wi (fun vs H Q E h=>?_) (fun cdv A outer s H vs Q E hr h=>?_)
 ·obtain⟨st,w,B,room,o,rfl,_⟩:=h
  rfl
 obtain⟨st,w0,B,room,o,rfl,S0,hB,hW,hroom,hn,q⟩:=h
 have hr1:Room 1 _:=hr.mono (by lia)
 refine⟨_,
  (zh (zu (zq (jA2 (cA GKs hr1 (jA1 (jv 1))) (yv zN rfl m_tuple u0 (jA1 (yk ["_law_at"] rfl (zQ rfl m_range (jA1 zj)) (fun _ _ _ _ _=>(gN 3 Wj)) (fun _ _ _ _ _=>zR) (fun _ _ _ _ _=>(cA GF hr (jA4 (jv 0) (jv 1) (jv 3) (jv 2))))))))))),?_⟩
 have sl:=zE
 have LM:LIM=4611686018427387904:=rfl
 refine⟨_,rfl,w0,o,rfl,hW,fun H1 pk p1 p2 t1 t2 s1 hpk hp1 hp2 hk1 hk2=>?_⟩
 refine⟨_,rfl,by decide,by decide,yu (n:=3) (fun i τ ys H'=>Kp st H1 H'/\Sta K H' st (B+i*CB n)/\(∃x,τ=[some (.ref st),some (.ref w0),some (.int room),x])/\∃(ps:List Addr)(dfs:List Df),ys=ps.map V.ref/\ps.length=i/\IsFs H' dfs ps/\(∀d∈dfs,FOk n d/\FNm o d)/\dfs.map (·.z)=(uE i).map (fun k=>nm o.z o.b (2-k))) ⟨Kp.refl,(S0.same s1).mono (by lia),⟨none,rfl⟩,[],[],rfl,rfl,.nil,(fun d hd=>by cases hd),rfl⟩ ?_ ?_⟩
 ·rintro i τ ys H2 hi ⟨k2,S2,⟨x,rfl⟩,ps,dfs,rfl,hl,hF,hok,hnm⟩
  have hb:i*CB n+CB n<=3*CB n:=by
   have:=tj (CB n) (show i+1<=3 by lia)
   rw[tM]at this
   lia
  refine⟨_,rfl,_,rfl,_,rfl,_,rfl,st,w0,i,_,room,o,(by show[V.ref st,V.ref w0,V.int (0+(i:Nat)),V.int room]=_;rw[tH]),hi,S2,by lia,(hW.same s1).kp (S0.same s1) k2,hroom,hn,fun H3 p d k3 S3 hd hdk hdz=>⟨by rw[ua];lia,k2.trans k3,S3.mono (by rw[tM];lia),⟨_,rfl⟩,ps++[p],dfs++[d],by simp,by simp[hl],(hF.keep (k3.tups S2)).app (.cons hd .nil),(fun e he=>?_),by rw[UV,uq,uq,hnm];show _++[d.z]=_++[_];rw[hdz]⟩⟩
  rcases uz.mp he with he|he
  ·exact hok e he
  ·rw[ui.mp he]
   exact hdk
 rintro τ ys H2 ⟨k2,S2,_,ps,dfs,rfl,hl,hF,hok,hnm⟩ p3 h3
 refine⟨p3,_,rfl,.inl ⟨SqL.of upd_same,fun p4 h4=>⟨sN2,fun p5 h5=>?_⟩⟩⟩
 have s25:Same H2 _:=((zn h3 (.lst (ps.map V.ref))).new (o:=.tup (ps.map V.ref)) h4).new (o:=.tup [.ref pk,.ref p4]) h5
 have tp:Tups H1 _:=(k2.tups (S0.same s1)).trans (.of s25)
 exact q _ p5 pk p4 p1 p2 t1 t2 ps dfs (((Kp.of s1).trans k2).trans (.of s25)) (S2.same s25) upd_same (tp _ _ hpk) (tp _ _ hp1) (tp _ _ hp2) (hk1.keep tp) (hk2.keep tp) (old h5 upd_same) (hF.keep (.of s25)) hl hok hnm
end
end GN
namespace L2
open PySem PySem.Spec PyProof.Rows
section
variable{X:Cx}
end
end L2
namespace GN
open PySem L2 K11
def once(acc:List Str):List Str->List Str
 |[]=>acc
 |x::r=>once (if x∈acc then acc else acc++[x]) r
abbrev Wy:=List (List Str×Bd)
inductive IsY(H:Hp):Wy->List Addr->Prop
 |nil:IsY H [] []
 |cons {ns:List Str} {b:Bd} {p q r:Addr} {l:Wy} {ps:List Addr}:H p=some (.tup [.ref q,.ref r])->H q=some (.tup (ns.map V.str))->IsB H b r->IsY H l ps->IsY H ((ns,b)::l) (p::ps)
theorem IsY.keep{H H':Hp}{l:Wy}{p:List Addr}(h:IsY H l p)(t:Tups H H'):IsY H' l p:=by
 induction h with
 |nil=>exact .nil
 |cons a b c _ ih=>exact .cons (t _ _ a) (t _ _ b) (c.keep t) ih
theorem IsY.app{H:Hp}{a b:Wy}{p q:List Addr}(h:IsY H a p)(g:IsY H b q):IsY H (a++b) (p++q):=by
 induction h with
 |nil=>exact g
 |cons x y z _ ih=>exact .cons x y z ih
theorem IsY.len{H:Hp}{l:Wy}{p:List Addr}(h:IsY H l p):l.length=p.length:=by
 induction h with
 |nil=>rfl
 |cons _ _ _ _ ih=>rw[ul,ul,ih]
def Arms.ways:Arms->Wy
 |.nil=>[]
 |.cons _ ns b r=>(ns,b)::r.ways
def Bd.ways:Bd->Wy
 |.give _=>[]
 |.lt x _ b=>[([x],b)]
 |.iff _ a b=>[([],a),([],b)]
 |.case _ as=>as.ways
def wsz(l:Wy):Nat:=(l.map fun p=>p.2.sz).sum
theorem Arms.wsz:∀as:Arms,GN.wsz as.ways<=as.sz
 |.nil=>by unfold Arms.ways Arms.sz GN.wsz;decide
 |.cons t ns b r=>by
  unfold Arms.ways Arms.sz GN.wsz
  have:=Arms.wsz r
  unfold GN.wsz at this
  rw[uH,Ur]
  show b.sz+_<=_
  lia
theorem Bd.wsz(b:Bd):GN.wsz b.ways < b.sz:=by
 cases b with
 |give x=>rw[Bd.sz];show(0:Nat) < 1;decide
 |lt x d b=>rw[Bd.sz];show b.sz+0 < b.sz+1;lia
 |iff x a b=>rw[Bd.sz];show a.sz+(b.sz+0) < a.sz+b.sz+1;lia
 |case x as=>rw[Bd.sz];have:=Arms.wsz as;show GN.wsz as.ways < as.sz+1;lia
theorem IsA.get{H:Hp}:∀{as:Arms}{ps:List Addr}{i:Nat}{p:Addr},IsA H as ps->ps[i]?=some p->∃t q r ns b,as.ways[i]?=some (ns,b)/\H p=some (.tup [.str t,.ref q,.ref r])/\H q=some (.tup (ns.map V.str))/\IsB H b r
 |_,_,_,_,.nil,e=>by simp at e
 |_,_,0,_,.cons a b c _,e=>by
  simp at e
  subst e
  exact⟨_,_,_,_,_,by unfold Arms.ways;rfl,a,b,c⟩
 |_,_,i+1,_,.cons _ _ _ d,e=>by
  obtain⟨t,q,r,ns,b,h1,h2⟩:=IsA.get (i:=i) d (by simpa using e)
  exact⟨t,q,r,ns,b,by unfold Arms.ways;simpa using h1,h2⟩
theorem IsA.len{H:Hp}:∀{as:Arms}{ps:List Addr},IsA H as ps->as.ways.length=ps.length
 |_,_,.nil=>by unfold Arms.ways;rfl
 |_,_,.cons _ _ _ d=>by unfold Arms.ways;rw[ul,ul,IsA.len d]
theorem Ze:∀a:Arms,a.ways.length<=a.sz
 |.nil=>by unfold Arms.ways Arms.sz;decide
 |.cons t ns b r=>by
  unfold Arms.ways Arms.sz
  have:=Ze r
  rw[ul]
  lia
def YJ:Sp:=fun vs H Q _=>∃(p:Addr)(b:Bd),vs=[.ref p]/\IsB H b p/\b.sz<=1000000/\∀(H':Hp)(r:Addr)(ps:List Addr),Same H H'->H r=none->H' r=some (.lst (ps.map V.ref))->IsY H' b.ways ps->Q (.ref r) H'
section
variable{P:Program}{w:World}{K:ub}{mg:Str->Option Value}{base:Heap}{f:Addr}{fd:FuncData}
theorem zb9:FnScope ["body"] ["body"] (zo Vz):=.ok
theorem zca:(["body","arm"]:List Str).Nodup:=by decide +kernel
theorem QR(F:Fun K "ways_on" "ways_on" Vz f fd):FnOk P w K mg base CX0 1 f fd ["body"] YJ:=by
 refine F.by zb9 (fun vs H Q E h=>?_) (fun cdv A outer s H vs Q E hr h=>?_)
 ·obtain⟨p,b,rfl,_⟩:=h
  rfl
 obtain⟨p,b,rfl,hb,hz,q⟩:=h
 refine⟨_,
  (zg (zy (tN zA (xT 0) zp)
   (zh (zu (zB zD))) zv)
  (zg (zy (tN zA (xT 0) zp)
   (zh (zu (zB (jA2 (zq (jA2 (zq zD) (xT 0))) (zq (jA2 (zq zD) (xT 0))))))) zv)
  (zg (zy (tN zA (xT 0) zp)
   (zh (zu (yk ["arm"] rfl (yK (xT 0)) (fun _ _ _ _ _=>(gN 1 zca)) (fun _ _ _ _ _=>zR) (fun _ _ _ _ _=>(zq (jA2 (zT (yb K) (jv 1) zj (fun _ _=>rfl)) (xX (yb K) (jv 1) (xC zj)))))))) zv)
  (zg (zy (yj yr (xT 0) (zq (jA2 zp zp)) (by with_unfolding_all rfl))
   (zh (zu (zB (jA1 (zq (jA2 (zq (jA1 (xT 0))) (xX zY (jv 0) (xC zj)))))))) zv)
  (zh (zu (zB (jA1 (zq (jA2 (zq zD) (xX zY (jv 0) (xC zj)))))))))))),?_⟩
 have sl:=zE
 cases hb with
 |@give x _ hp =>
  refine⟨_,rfl,p,_,_,_,rfl,rfl,SqT.of hp,aI0,rfl,_,rfl,?_⟩
  refine ite2 (fun _=>?_) aB
  refine⟨sN0,fun r hr=>q _ r [] (zn hr _) hr upd_same ?_⟩
  unfold Bd.ways
  exact .nil
 |@iff x a b _ p1 p2 hp ha hb =>
  refine⟨_,rfl,p,_,_,_,rfl,rfl,SqT.of hp,aI0,rfl,_,rfl,?_⟩
  refine ite2 aB (fun _=>?_)
  refine⟨_,rfl,p,_,_,_,rfl,rfl,SqT.of hp,aI0,rfl,_,rfl,?_⟩
  refine ite2 (fun _=>?_) aB
  refine⟨sN0,fun t1 h1=>⟨_,rfl,p,_,_,_,rfl,rfl,SqT.of (old h1 hp),aI2,sN2,fun t2 h2=>⟨sN0,fun t3 h3=>⟨_,rfl,p,_,_,_,rfl,rfl,SqT.of (old h3 (old h2 (old h1 hp))),aI3,sN2,fun t4 h4=>⟨sN2,fun t5 h5=>?_⟩⟩⟩⟩⟩
  have s4:Same H _:=(((zn h1 (.tup [])).new (o:=.tup [.ref t1,.ref p1]) h2).new (o:=.tup []) h3).new (o:=.tup [.ref t3,.ref p2]) h4
  have s5:=s4.new (o:=.lst [.ref t2,.ref t4]) h5
  refine q _ t5 [t2,t4] s5 (s4.free h5) upd_same ?_
  unfold Bd.ways
  exact .cons (old h5 (old h4 (old h3 upd_same))) (old h5 (old h4 (old h3 (old h2 upd_same)))) (ha.keep (.of s5)) (.cons (old h5 upd_same) (old h5 (old h4 upd_same)) (hb.keep (.of s5)) .nil)
 |@case x as ps _ p1 hp hp1 hl0 hA =>
  refine⟨_,rfl,p,_,_,_,rfl,rfl,SqT.of hp,aI0,rfl,_,rfl,?_⟩
  refine ite2 aB (fun _=>?_)
  refine⟨_,rfl,p,_,_,_,rfl,rfl,SqT.of hp,aI0,rfl,_,rfl,?_⟩
  refine ite2 aB (fun _=>?_)
  refine⟨_,rfl,p,_,_,_,rfl,rfl,SqT.of hp,aI0,rfl,_,rfl,?_⟩
  refine ite2 (fun _=>?_) aB
  have hl:=hA.len
  have hsz:as.ways.length<=1000000:=by
   have e:∀a:Arms,a.ways.length<=a.sz:=by
    intro a
    exact Ze a
   have:=e as
   rw[Bd.sz]at hz
   lia
  refine⟨_,rfl,p,_,_,_,rfl,rfl,SqT.of hp,aI2,p1,rfl,⟨_,SqT.of hp1⟩,Ys (xs:=ps.map V.ref) (fun j τ ys H'=>Same H H'/\(∃v,τ=[some (.ref p),v])/\∃rs:List Addr,ys=rs.map V.ref/\IsY H' (as.ways.take j) rs) ⟨Same.refl _,⟨none,rfl⟩,[],rfl,.nil⟩ (fun j τ ys H' _ h=>SqT.of (h.1 _ _ hp1)) ?_ ?_⟩
  ·rintro j v τ ys H1 hv ⟨s1,⟨v',rfl⟩,rs,rfl,hy⟩
   rw[ue]at hv
   obtain⟨pa,hpa,rfl⟩:=uh.mp hv
   obtain⟨t,q1,r1,ns,b,e1,e2,e3,e4⟩:=hA.get hpa
   have hj:j < as.ways.length:=(uc.mp e1).1
   have hyl:=hy.len
   rw[uD]at hyl
   refine⟨_,rfl,pa,_,_,_,rfl,rfl,SqT.of (s1 _ _ e2),aI1,_,rfl,_,rfl,pa,_,_,_,rfl,rfl,SqT.of (s1 _ _ e2),rfl,sN2,fun t1 h1=>⟨by rw[ua];lia,s1.new h1,⟨_,rfl⟩,rs++[t1],by simp,?_⟩⟩
   rw[uv,e1]
   exact(hy.keep (.of (zn h1 _))).app (.cons upd_same (old h1 (s1 _ _ e3)) (e4.keep (.of (s1.new h1))) .nil)
  ·rintro τ ys H1 ⟨s1,_,rs,rfl,hy⟩ r hr
   rw[ua,<- hl,uj (ud _)]at hy
   refine q _ r rs (s1.new hr) (s1.free hr) upd_same ?_
   unfold Bd.ways
   exact hy.keep (.of (zn hr _))
 |@lt x d b _ p1 p2 hp hd hb =>
  refine⟨_,rfl,p,_,_,_,rfl,rfl,SqT.of hp,aI0,rfl,_,rfl,?_⟩
  refine ite2 aB (fun _=>?_)
  refine⟨_,rfl,p,_,_,_,rfl,rfl,SqT.of hp,aI0,rfl,_,rfl,?_⟩
  refine ite2 aB (fun _=>?_)
  refine⟨_,rfl,p,_,_,_,rfl,rfl,SqT.of hp,aI0,rfl,_,rfl,?_⟩
  refine ite2 aB (fun _=>?_)
  refine⟨_,rfl,p,_,_,_,rfl,rfl,SqT.of hp,aI0,sN2,fun t0 h0=>?_⟩
  refine⟨t0,_,rfl,.inr (SqT.of upd_same),rfl,rfl,_,rfl,?_⟩
  refine ite2 (fun _=>?_) (fun c=>absurd (show(if false=true then !inV (V.str "let") [V.str "let",V.str "hold"]else inV (V.str "let") [V.str "let",V.str "hold"])=true by decide) c)
  have hp0:=old (o:=.tup [.str "let",.str "hold"]) h0 hp
  refine⟨_,rfl,p,_,_,_,rfl,rfl,SqT.of hp0,aI1,sN1,fun t1 h1=>⟨_,rfl,_,rfl,p,_,_,_,rfl,rfl,SqT.of (old h1 hp0),rfl,sN2,fun t2 h2=>⟨sN1,fun t3 h3=>?_⟩⟩⟩
  have s2:Same H _:=((zn h0 (.tup [.str "let",.str "hold"])).new (o:=.tup [.str x]) h1).new (o:=.tup [.ref t1,.ref p2]) h2
  have s3:=s2.new (o:=.lst [.ref t2]) h3
  refine q _ t3 [t2] s3 (s2.free h3) upd_same ?_
  unfold Bd.ways
  exact .cons (old h3 upd_same) (old h3 (old h2 upd_same)) (hb.keep (.of s3)) .nil
end
theorem Zf(k:Nat):cl (ys k)=uT (k % 2) 121:=by
 unfold ys
 rcases(show k % 2=0\/k % 2=1 by lia)with e|e
 ·rw[e];decide +kernel
 ·rw[e];decide +kernel
theorem wV{z:Str}{b:Bool}{j k:Nat}(hj:j < 1352)(hk:k < 1352)(h:nm z b j=nm z b k):j=k:=by
 have hl:∀i:Nat,(cl (core i)).length=3:=fun i=>by rw[wU];rfl
 have cinj:cl (core j)=cl (core k)->j % 2=k % 2->j=k:=fun e e0=>by
  rw[wU,wU]at e
  injection e with e1 e2
  injection e2 with _ e3
  injection e3 with e3 _
  lia
 have e:=congrArg cl h
 unfold nm at e
 cases b with
 |true =>
  rw[if_pos rfl,if_pos rfl,yB,yB,yB,yB]at e
  have el:=congrArg tZ e
  rw[uf,uf,uf,uf,hl,hl,Zf,Zf,UB,UB]at el
  rw[Ui,Ui]at e
  exact cinj (List.append_inj_left e (by rw[hl,hl])) (by lia)
 |false =>
  rw[if_neg (by decide),if_neg (by decide),yB,yB,yB,yB]at e
  have el:=congrArg tZ e
  rw[uf,uf,uf,uf,hl,hl,Zf,Zf,UB,UB]at el
  exact cinj (List.append_inj_right' e (by rw[hl,hl])) (by lia)
def dif(m n:Nat):Nat:=m-(m &&& n)
theorem and2(m n:Nat):(m &&& n) / 2=m / 2 &&& n / 2/\(m &&& n) % 2=m % 2*(n % 2):=by
 refine⟨Nat.and_div_two,?_⟩
 rw[Nat.and_mod_two_pow (n:=1)]
 rcases(show m % 2=0\/m % 2=1 by lia)with e|e<;>rcases(show n % 2=0\/n % 2=1 by lia)with g|g<;>(show m % 2 &&& n % 2=_)<;>rw[e,g]<;>decide
theorem xU:∀(i m n:Nat),(dif m n).testBit i=(m.testBit i && !n.testBit i)
 |0,m,n=>by
  have h:=and2 m n
  have hle:(m &&& n)<=m:=Nat.and_le_left
  unfold dif
  rw[Nat.testBit_zero,Nat.testBit_zero,Nat.testBit_zero]
  rcases(show m % 2=0\/m % 2=1 by lia)with e|e<;>rcases(show n % 2=0\/n % 2=1 by lia)with g|g<;>rw[e,g]at h<;>simp[e,g]<;>lia
 |i+1,m,n=>by
  have h:=and2 m n
  have hle:(m &&& n)<=m:=Nat.and_le_left
  have hle2:(m / 2 &&& n / 2)<=m / 2:=Nat.and_le_left
  rw[tS,tS,tS,<- xU i (m / 2) (n / 2)]
  congr 1
  unfold dif
  rcases(show m % 2=0\/m % 2=1 by lia)with e|e<;>rcases(show n % 2=0\/n % 2=1 by lia)with g|g<;>rw[e,g]at h<;>lia
theorem Zg(m n:Nat):Builtin.bitOr (m:Int) (n:Int)=((m ||| n:Nat):Int):=by
 unfold Builtin.bitOr
 have h1:¬ 0<=Builtin.bitNot (m:Int):=by unfold Builtin.bitNot;lia
 have h2:¬ 0<=Builtin.bitNot (n:Int):=by unfold Builtin.bitNot;lia
 have e:∀x:Int,Builtin.bitNot (Builtin.bitNot x)=x:=fun x=>by unfold Builtin.bitNot;lia
 rw[PyProof.Rows.bitAnd_nn h1 h2,e,e,e]
 rfl
theorem VU(m n:Nat):Builtin.bitAnd (m:Int) (Builtin.bitNot (n:Int))=((dif m n:Nat):Int):=by
 rw[PyProof.Rows.bitAnd_not,PyProof.Rows.bitAnd_pp (Int.natCast_nonneg m) (Int.natCast_nonneg n)]
 have hle:(m &&& n)<=m:=Nat.and_le_left
 unfold dif
 rw[tL,tL]
 lia
def bitN:List Str->Str->Nat
 |[],_=>0
 |y::r,x=>if y=x then 1 else 2*bitN r x
theorem ZP{x:Str}:∀{ns:List Str},x∉ns->bitN ns x=0
 |[],_=>rfl
 |y::r,h=>by
  unfold bitN
  rw[if_neg (fun e:y=x=>h (e ▸ uJ)),ZP (fun z=>h (.tail _ z))]
theorem QS:∀i:Nat,(1:Nat).testBit i=decide (i=0)
 |0=>rfl
 |i+1=>by
  rw[tS]
  simp
theorem QT(m i:Nat):(2*m).testBit (i+1)=m.testBit i:=by
 rw[tS]
 congr 1
 lia
theorem VV(m:Nat):(2*m).testBit 0=false:=by
 rw[Nat.testBit_zero]
 simp
theorem ZQ{x:Str}:∀{ns:List Str}{i:Nat},ns.Nodup->(bitN ns x).testBit i=decide (ns[i]?=some x)
 |[],i,_=>by unfold bitN;simp
 |y::r,i,nd=>by
  obtain⟨h1,h2⟩:=Ub.mp nd
  unfold bitN
  by_cases e:y=x
  ·rw[if_pos e,QS]
   cases i with
   |zero=>simp[e]
   |succ i =>
    simp
    intro z
    exact h1 (e ▸ uo z)
  ·rw[if_neg e]
   cases i with
   |zero=>rw[VV];simp[e]
   |succ i=>rw[QT,ZQ h2];simp
def tog(ns xs:List Str):Nat:=xs.foldl (fun f x=>f ||| bitN ns x) 0
theorem ZR{ns:List Str}(nd:ns.Nodup)(i:Nat):∀(xs:List Str)(f:Nat),(xs.foldl (fun f x=>f ||| bitN ns x) f).testBit i=(f.testBit i || decide (∃x∈xs,ns[i]?=some x))
 |[],f=>by simp
 |x::r,f=>by
  rw[Uh,ZR nd i r,UP,ZQ nd,Bool.or_assoc]
  congr 1
  rw[<- Bool.decide_or]
  congr 1
  simp
theorem xb{ns:List Str}(nd:ns.Nodup)(i:Nat)(xs:List Str):(tog ns xs).testBit i=decide (∃x∈xs,ns[i]?=some x):=by
 unfold tog
 rw[ZR nd]
 simp
def yw:List Str->Nat->List (Key×V)
 |[],_=>[]
 |x::r,b=>(.inr x,.int (b:Nat))::yw r (b+b)
theorem wB{x:Str}:∀{ns:List Str}{b:Nat},valV (yw ns b) (.inr x)=if x∈ns then some (.int ((b*bitN ns x:Nat):Int))else none
 |[],b=>rfl
 |y::r,b=>by
  unfold yw bitN
  by_cases e:y=x
  ·rw[ye (by rw[e]),if_pos (by rw[e];exact .head _),if_pos e,Nat.mul_one]
  ·rw[yf (fun z=>e (Sum.inr.inj z)),wB,if_neg e]
   have e':¬ x=y:=fun z=>e z.symm
   by_cases c:x∈r
   ·rw[if_pos c,if_pos (.tail _ c)]
    congr 3
    rw[tM,Nat.mul_left_comm,Nat.two_mul]
   ·rw[if_neg c,if_neg (by simp[e',c])]
theorem jn:∀(a:List Str)(x:Str)(b:Nat),yw (a++[x]) b=yw a b++[(.inr x,.int ((b*2 ^ a.length:Nat):Int))]
 |[],x,b=>by show[_]=[_];rw[List.length_nil,Nat.pow_zero,Nat.mul_one]
 |y::a,x,b=>by
  show _::yw (a++[x]) (b+b)=_::(yw a (b+b)++_)
  rw[jn a x (b+b),ul,Nat.pow_succ,show(b+b)*2 ^ a.length=b*(2 ^ a.length*2) by rw[<- Nat.two_mul,Nat.mul_comm 2 b,Nat.mul_assoc,Nat.mul_comm 2]]
theorem jo:∀(a:List Str)(b:Nat),(yw a b).length=a.length
 |[],_=>rfl
 |_::a,b=>by show(yw a (b+b)).length+1=_;rw[jo a];rfl
def Bd.used:Bd->List Str
 |.give x=>[x]
 |.lt _ d _=>d.uses
 |.iff x _ _=>[x]
 |.case x _=>[x]
mutual
def Bd.mk(ns:List Str):Bd->Nat
 |.give x=>0 ||| tog ns [x]
 |.lt x d b=>(0 ||| dif (b.mk ns) (tog ns [x])) ||| tog ns d.uses
 |.iff x a b=>((0 ||| dif (a.mk ns) (tog ns [])) ||| dif (b.mk ns) (tog ns [])) ||| tog ns [x]
 |.case x as=>Arms.mk ns as 0 ||| tog ns [x]
def Arms.mk(ns:List Str):Arms->Nat->Nat
 |.nil,f=>f
 |.cons _ xs b r,f=>Arms.mk ns r (f ||| dif (b.mk ns) (tog ns xs))
end
def accW(ns:List Str)(l:Wy)(f:Nat):Nat:=l.foldl (fun f w=>f ||| dif (w.2.mk ns) (tog ns w.1)) f
theorem Arms.mk_ways(ns:List Str):∀(as:Arms)(f:Nat),Arms.mk ns as f=accW ns as.ways f
 |.nil,f=>by unfold Arms.mk Arms.ways accW;rfl
 |.cons t xs b r,f=>by
  unfold Arms.mk Arms.ways accW
  rw[Uh]
  exact Arms.mk_ways ns r _
theorem Bd.mk_ways(ns:List Str)(b:Bd):b.mk ns=accW ns b.ways 0 ||| tog ns b.used:=by
 cases b with
 |give x=>unfold Bd.mk Bd.ways Bd.used accW;rfl
 |lt x d b=>rw[Bd.mk];rfl
 |iff x a b=>rw[Bd.mk];rfl
 |case x as=>rw[Bd.mk,Arms.mk_ways];rfl
mutual
def Bd.fr(x:Str):Bd->Prop
 |.give y=>x=y
 |.lt y d b=>(b.fr x/\x≠y)\/x∈d.uses
 |.iff y a b=>(a.fr x\/b.fr x)\/x=y
 |.case y as=>as.fr x\/x=y
def Arms.fr(x:Str):Arms->Prop
 |.nil=>False
 |.cons _ xs b r=>(b.fr x/\x∉xs)\/r.fr x
end
section
variable{ns:List Str}(nd:ns.Nodup)(i:Nat)
include nd
mutual
theorem Bd.mk_bit:∀b:Bd,((b.mk ns).testBit i=true)↔∃x,ns[i]?=some x/\b.fr x
 |.give y=>by
  rw[Bd.mk,UP,xb nd]
  simp[Bd.fr]
 |.lt y d b=>by
  have ih:=Bd.mk_bit b
  rw[Bd.mk,UP,UP,xb nd,xU,xb nd]
  simp only[Nat.zero_testBit,tW,Uw,u9,Bool.not_eq_true',decide_eq_true_eq,decide_eq_false_iff_not,ih,ui,Bd.fr]
  constructor
  ·rintro(⟨⟨x,h1,h2⟩,h3⟩|⟨x,h1,h2⟩)
   ·exact⟨x,h1,.inl ⟨h2,fun e=>h3 ⟨y,rfl,by rw[h1,e]⟩⟩⟩
   ·exact⟨x,h2,.inr h1⟩
  ·rintro⟨x,h1,⟨h2,h3⟩|h2⟩
   ·refine .inl ⟨⟨x,h1,h2⟩,?_⟩
    rintro⟨z,rfl,h4⟩
    rw[h1]at h4
    exact h3 (uP.inj h4)
   ·exact .inr ⟨x,h2,h1⟩
 |.iff y a b=>by
  have ia:=Bd.mk_bit a
  have ib:=Bd.mk_bit b
  rw[Bd.mk,UP,UP,UP,xb nd,xU,xU,xb nd]
  simp only[Nat.zero_testBit,tW,Uw,u9,Bool.not_eq_true',decide_eq_true_eq,decide_eq_false_iff_not,ia,ib,ui,UI,false_and,exists_false,not_false_eq_true,and_true,Bd.fr]
  constructor
  ·rintro((⟨x,h1,h2⟩|⟨x,h1,h2⟩)|⟨x,rfl,h2⟩)
   ·exact⟨x,h1,.inl (.inl h2)⟩
   ·exact⟨x,h1,.inl (.inr h2)⟩
   ·exact⟨x,h2,.inr rfl⟩
  ·rintro⟨x,h1,(h2|h2)|h2⟩
   ·exact .inl (.inl ⟨x,h1,h2⟩)
   ·exact .inl (.inr ⟨x,h1,h2⟩)
   ·exact .inr ⟨x,h2,h1⟩
 |.case y as=>by
  have ia:=Arms.mk_bit as 0
  rw[Bd.mk,UP,xb nd]
  simp only[Uw,ia,Nat.zero_testBit,Bool.false_eq_true,false_or,decide_eq_true_eq,ui,Bd.fr]
  constructor
  ·rintro(⟨x,h1,h2⟩|⟨x,rfl,h2⟩)
   ·exact⟨x,h1,.inl h2⟩
   ·exact⟨x,h2,.inr rfl⟩
  ·rintro⟨x,h1,h2|h2⟩
   ·exact .inl ⟨x,h1,h2⟩
   ·exact .inr ⟨x,h2,h1⟩
theorem Arms.mk_bit:∀(as:Arms)(f:Nat),((Arms.mk ns as f).testBit i=true)↔(f.testBit i=true\/∃x,ns[i]?=some x/\as.fr x)
 |.nil,f=>by unfold Arms.mk Arms.fr;simp
 |.cons t xs b r,f=>by
  have ib:=Bd.mk_bit b
  rw[Arms.mk,Arms.mk_bit r,UP,xU,xb nd]
  simp only[Uw,u9,Bool.not_eq_true',decide_eq_false_iff_not,ib,Arms.fr]
  constructor
  ·rintro((h|⟨⟨x,h1,h2⟩,h3⟩)|⟨x,h1,h2⟩)
   ·exact .inl h
   ·exact .inr ⟨x,h1,.inl ⟨h2,fun e=>h3 ⟨x,e,h1⟩⟩⟩
   ·exact .inr ⟨x,h1,.inr h2⟩
  ·rintro(h|⟨x,h1,⟨h2,h3⟩|h2⟩)
   ·exact .inl (.inl h)
   ·refine .inl (.inr ⟨⟨x,h1,h2⟩,?_⟩)
    rintro⟨z,h4,h5⟩
    rw[h1]at h5
    cases h5
    exact h3 h4
   ·exact .inr ⟨x,h1,h2⟩
end
end
theorem Bd.sz_pos'(b:Bd):1<=b.sz:=by
 cases b<;>rw[Bd.sz]<;>lia
theorem vI:∀l:Wy,l.length<=wsz l
 |[]=>uX _
 |p::l=>by
  have h1:=Bd.sz_pos' p.2
  have h2:=vI l
  unfold wsz at h2 ⊢
  rw[uH,Ur,ul]
  lia
end GN
namespace L2
open PySem PySem.Spec PyProof.Rows
def BMn(mg:Str->Option Value)(h:Heap):Prop:=∃bm ob,mg "__builtins__"=some (.ref bm)/\bm≠builtinsNs/\h.get? bm=some ob/\ob.cls=.type "module"/\ob.dict=some builtinsNs/\ob.data=.plain
theorem BMn.at{mg:Str->Option Value}{h:Heap}{P:Addr}{ps:Array Value}(B:BMn mg h)(g:h.Ns mainGlobals mg)(hP:h.get? P=some { cls:=.none,data:=.fields ps }):h.BuiltinsAt mg P/\mainGlobals≠P:=by
 obtain⟨bm,ob,b1,b2,b3,b4,b5,b6⟩:=B
 refine⟨⟨bm,ob,b1,b2,fun q=>?_,fun q=>?_,b3,b4,b5,b6⟩,fun q=>?_⟩
 ·obtain⟨o,es,ep,e,hd,_⟩:=g
  rw[q,e]at b3;cases b3;rw[hd]at b6;cases b6
 ·rw[q,hP]at b3;cases b3;cases b4
 ·obtain⟨o,es,ep,e,hd,_⟩:=g
  rw[q,hP]at e;cases e;cases hd
theorem BMn.keeps{mg:Str->Option Value}{h h':Heap}(B:BMn mg h)(k:∀b o,h.get? b=some o->h'.get? b=some o):BMn mg h' :=
 let ⟨bm,ob,b1,b2,b3,r⟩:=B;⟨bm,ob,b1,b2,k _ _ b3,r⟩
def FunO(f:Addr)(fd:FuncData):HO:=.ext fun h=>h.get? f=some { cls:=.type "function",data:=.func fd }
def CodO(c:Addr)(qual:Str):HO:=.ext fun h=>h.CodeRec (.ref c) qual
theorem VW{P:Program}{w:World}{H:Hp}{h:Heap}{f:Addr}{fd:FuncData}(e:h.get? f=some { cls:=.type "function",data:=.func fd }):ObjOk P w H h f (FunO f fd) :=
 ⟨e,⟨_,e⟩,fun _ _ p k=>k _ p⟩
theorem zcb{P:Program}{w:World}{H:Hp}{h:Heap}{c:Addr}{qual:Str}(e:h.CodeRec (.ref c) qual):ObjOk P w H h c (CodO c qual) :=
 ⟨e,(let ⟨_,oc,_,_,q,e,_⟩:=e;by cases q;exact⟨oc,e⟩),fun _ _ ⟨d,oc,vs,t,q,e,r⟩ k=>by cases q;exact⟨c,oc,vs,t,rfl,k _ e,r⟩⟩
section
variable{X:Cx}{CX:CXT}{k:Nat}{x:Str}{ps:List Str}{sp:Sp}{dvs:List V}{E:XK}{p pos:Pos}{e:Expr}{es:List Expr}{t:TA}
end
def CelO(c:Addr)(v:V):HO:=.ext fun h=>∃u,RelV v u/\h.IsCell c (some u)
def Cel(H:Hp)(c:Addr)(v:V):Prop:=∃o,H c=some (.frz o (CelO c v))
theorem VX{P:Program}{w:World}{H:Hp}{h:Heap}{c:Addr}{v:V}{u:Value}{o:Obj}(e:h.get? c=some o)(d:o.data=.cell (some u))(r:RelV v u):ObjOk P w H h c (.frz o (CelO c v)) :=
 ⟨e,⟨u,r,o,e,d⟩,⟨o,e⟩,fun _ _ ⟨u,r,o,e,d⟩ k=>⟨u,r,o,k _ e,d⟩⟩
def yF(H:Hp)(as:List Addr):Hp:=fun b=>if b∈as then none else H b
def xz(H' H:Hp)(as:List Addr):Hp:=fun b=>if b∈as then H b else H' b
theorem xV{H:Hp}{as:List Addr}{b:Addr}(h:b∈as):yF H as b=none:=if_pos h
theorem yg{H:Hp}{as:List Addr}{b:Addr}(h:b∉as):yF H as b=H b:=if_neg h
theorem wW{H' H:Hp}{as:List Addr}{b:Addr}(h:b∈as):xz H' H as b=H b:=if_pos h
theorem yD{H' H:Hp}{as:List Addr}{b:Addr}(h:b∉as):xz H' H as b=H' b:=if_neg h
abbrev lamC(mg:Str->Option Value)(qual:Str)(params:Arguments)(body:Expr)(scope:Scope)(cl:List (Str×Addr))(c:Addr)(ctv:Value):FuncData:=PySem.W.kla_fn "<lambda>" qual params body scope cl ((mg "__name__").getD .none) (.ref c) ctv
def VY(mg:Str->Option Value)(T:Addr)(qual:Str)(params:Arguments)(body:Expr)(scope:Scope)(pos:Pos)(cl:List (Str×Addr)):TE:=fun _ H Q=>∃ps,H T=some (.tbl ps)/\TriplesOk ps.toList /\
 ((codeAmong pos ps.toList=none/\∀(c f:Addr)(ctv:Value),H c=none->H f=none->f≠c->Q (.ref f) (upd (upd (upd H T (.tbl (ps ++ #[rawInt pos.line,rawInt pos.col,.ref c]))) c (CodO c qual)) f (FunO f (lamC mg qual params body scope cl c ctv)))) \/
   (∃c,codeAmong pos ps.toList=some (.ref c)/\∀(f:Addr)(ctv:Value),H f=none->Q (.ref f) (upd H f (FunO f (lamC mg qual params body scope cl c ctv)))))
theorem QU{X:Cx}{cl:List (Str×Addr)}{c T:Addr}{params:Arguments}{body:Expr}{scope:Scope}{pos:Pos}{qual:Str}(hB:BMn X.mg X.base)(hcode:X.env.code=.ref c)(hc:UZ X.K c T=true)(hq:X.env.qual ++ "<lambda>"=qual)
  (hdef:defaultsOf params X.env=([],[])) (hcl:closureFor scope X.env=pure cl):PE X (.Lambda params body scope pos) (VY X.mg T qual params body scope pos cl):=by
 intro pins s σ H Q I h
 refine PySem.W.kla_eval hdef ?_
 rw[hq]
 obtain⟨ps,hT,tr,h⟩:=h
 have gT:s.heap.get? T=some { cls:=.none,data:=.fields ps }:=I.hok T _ hT
 have hg:=I.mod.glob.keeps I.bk
 obtain⟨bAt,hgP⟩:=(hB.keeps I.bk).at hg gT
 rcases h with⟨nf,h⟩|⟨c',hit,h⟩
 ·refine PySem.W.kla_makeFunction (mg:=X.mg) hcl I.ok.glob hg hcode (PySem.W.codeHd_of_K I.kIn hc) gT tr nf hgP bAt fun c' ctv h' tk ext ge lt rec tab=>?_
  have hc0:H c'=none:=I.hok.fresh ge
  have hf0:H h'.objs.size=none:=I.hok.fresh (Ua ge (Nat.le_of_lt lt))
  have nfc:h'.objs.size≠c':=Nat.ne_of_gt lt
  have ncT:T≠c':=zk hT hc0
  have nfT:T≠h'.objs.size:=zk hT hf0
  have elsewhere:∀b,b≠T->b≠c'->b≠h'.objs.size->upd (upd (upd H T (.tbl (ps ++ #[rawInt pos.line,rawInt pos.col,.ref c']))) c' (CodO c' qual)) h'.objs.size (FunO h'.objs.size (lamC X.mg qual params body scope cl c' ctv)) b=H b:=fun b h1 h2 h3=>by rw[zi h3,zi h2,zi h1]
  have hU:∀b u,H b=some u->b≠T->upd (upd (upd H T (.tbl (ps ++ #[rawInt pos.line,rawInt pos.col,.ref c']))) c' (CodO c' qual)) h'.objs.size (FunO h'.objs.size (lamC X.mg qual params body scope cl c' ctv)) b=some u:=fun b u e n=>by
   rw[elsewhere b n (zk e hc0) (zk e hf0)];exact e
  have hTb:upd (upd (upd H T (.tbl (ps ++ #[rawInt pos.line,rawInt pos.col,.ref c']))) c' (CodO c' qual)) h'.objs.size (FunO h'.objs.size (lamC X.mg qual params body scope cl c' ctv)) T=some (.tbl (ps ++ #[rawInt pos.line,rawInt pos.col,.ref c'])):=by
   rw[zi nfT,zi ncT];exact upd_same
  have keep:∀b o,b≠T->s.heap.get? b=some o->(h'.push (PySem.W.kla_obj "<lambda>" qual params body scope cl ((X.mg "__name__").getD .none) c' ctv)).get? b=some o:=fun b o n e=>ug _ (ext b o n e)
  have neT:∀b,H b=none->b≠T:=fun b e n=>by rw[n,hT]at e;cases e
  refine⟨.ref h'.objs.size,_,I.un (t':=tk) (H':=upd (upd (upd H T (.tbl (ps ++ #[rawInt pos.line,rawInt pos.col,.ref c']))) c' (CodO c' qual)) h'.objs.size (FunO h'.objs.size (lamC X.mg qual params body scope cl c' ctv))) ⟨fun b o e n _ _=>keep b o (neT b n) e,fun b o e n _ _=>⟨o.slots,keep b o (neT b n) e⟩,fun b o e n _=>?_,fun b o e _=>?_,fun b xs e=>hU b _ e (fun z=>by rw[z,hT]at e;cases e),fun b o xs e=>hU b _ e (fun z=>by rw[z,hT]at e;cases e),fun b qs e=>?_⟩ ?_,rfl,h c' _ ctv hc0 hf0 nfc⟩
  ·have l:=uw e
   rw[elsewhere b (neT b n) (uS (uI l ge)) (uS (Nat.lt_trans (uI l ge) lt))]
   exact n
  ·by_cases z:b=T
   ·rw[z];exact⟨_,ug _ tab⟩
   ·exact⟨o,keep b o z e⟩
  ·by_cases z:b=T
   ·subst z
    rw[hT]at e;cases e
    exact⟨_,hTb⟩
   ·exact⟨#[],by rw[hU b _ e z];simp⟩
  ·intro b u e
   by_cases z1:b=h'.objs.size
   ·subst z1
    rw[upd_same]at e;cases e
    exact VW (uy _ rfl)
   rw[zi z1]at e
   by_cases z2:b=c'
   ·subst z2
    rw[upd_same]at e;cases e
    obtain⟨d,oc,vs,t,q,e,r⟩:=rec
    exact zcb ⟨d,oc,vs,t,q,ug _ e,r⟩
   rw[zi z2]at e
   by_cases z3:b=T
   ·subst z3
    rw[upd_same]at e;cases e
    exact ug _ tab
   rw[zi z3]at e
   refine(I.hok b u e).stay (fun d v hd q=>keep d v ?_ q) (fun d q=>hU d _ q fun z=>by rw[z,hT]at q;cases q) fun d xs q=>hU d _ q fun z=>by rw[z,hT]at q;cases q
   rcases hd with rfl|hd
   ·exact z3
   ·intro z
    rw[z,hT]at hd;cases hd
 ·refine PySem.W.kla_makeFunctionHit (mg:=X.mg) hcl I.ok.glob hg hcode (PySem.W.codeHd_of_K I.kIn hc) gT tr hit bAt fun ctv h' tk kp sz=>?_
  have hf0:H h'.objs.size=none:=I.hok.fresh sz
  exact⟨.ref h'.objs.size,_,I.laid (t':=tk) (o:=FunO h'.objs.size (lamC X.mg qual params body scope cl c' ctv)) (fun b u e=>ug _ (kp b u e)) sz (VW (uy _ rfl)),rfl,h _ ctv hf0⟩
theorem Xu{X:Cx}{cl:List (Str×Addr)}{c T:Addr}{params:Arguments}{body:Expr}{scope:Scope}{pos:Pos}{qual:Str}(hB:BMn X.mg X.base)(hcode:X.env.code=.ref c)(hc:UZ X.K c T=true)(hq:X.env.qual ++ "<lambda>"=qual)
  (hdef:defaultsOf params X.env=([],[]):=by rfl) (hcl:closureFor scope X.env=pure cl:=by with_unfolding_all rfl):jE X (.Lambda params body scope pos) (VY X.mg T qual params body scope pos cl):=⟨QU hB hcode hc hq hdef hcl⟩
structure LamScope(N ps fs:List Str)(sc:Scope):Prop where
 kind:sc.kind=.function
 co:sc.isCoroutine=false
 gen:sc.isGenerator=false
 nd:N.Nodup
 cat:N=ps++fs
 par:∀x∈ps,sc.names.lookup x=some .local
 fre:∀x∈fs,sc.names.lookup x=some .free
 nocell:∀y∈sc.names,y.2≠.cell
 has:∀y∈sc.names,y.2=.free->y.1∈fs
structure Clo(H:Hp)(cl:List (Str×Addr))(fs:List Str)(fvs:List V):Prop where
 len:fvs.length=fs.length
 all:∀p∈cl,∃v,Cel H p.2 v
 get:∀(i:Nat)(x:Str)(v:V),fs[i]?=some x->fvs[i]?=some v->∃a,cl.lookup x=some a/\Cel H a v
 has:∀x∈fs,∃a,cl.lookup x=some a
 inj:∀x y a,cl.lookup x=some a->cl.lookup y=some a->x=y
def VZ(CX:CXT)(P:Program)(w:World)(K:ub)(mg:Str->Option Value)(base:Heap)(N:List Str)(qual:Str)(scope:Scope)(f:Addr)(cd:Value)(cl:List (Str×Addr))(A:Around)(outer:List Env)(s:Shared)(H:Hp)(E:XK):Cx where
 prog:=P
 w:=w
 K:=K
 mg:=mg
 base:=base
 A:=A.deeper (Ta qual scope s.heap.objs.size f cd cl)
 N:=N
 s₀:=s
 H₀:=yF H (cl.map (·.2))
 env:=Ta qual scope s.heap.objs.size f cd cl
 outer:=outer
 stack:=Ta qual scope s.heap.objs.size f cd cl::outer
 ex:=[]
 calm:=true
 fn:=fun _=>false
 pn:=[]
 xe:=fun e s'=>wpAny (model P w) (A.deeper (Ta qual scope s.heap.objs.size f cd cl)) (leaving (Ta qual scope s.heap.objs.size f cd cl) e) (fun _ s''=>CX outer H s E e s'') (fun e' s''=>CX outer H s E e' s'') s'
theorem vJ{x:Str}{v:Value}:∀{P:List Str}{vs:List Value}{i:Nat},P.Nodup->P[i]?=some x->vs[i]?=some v->(P.zip vs).reverse.lookup x=some v
 |[],_,_,_,h,_=>by simp at h
 |_::_,[],_,_,_,h=>by simp at h
 |p::P,w::vs,0,nd,h1,h2=>by
  simp at h1 h2;subst h1;subst h2
  have hn:∀y∈(P.zip vs).reverse,y.1≠p:=fun y hy z=>(Ub.mp nd).1 (z ▸ (UG (List.mem_reverse.mp hy)).1)
  rw[List.zip_cons_cons,U9,List.lookup_append]
  have:(P.zip vs).reverse.lookup p=none:=List.lookup_eq_none_iff.mpr fun y hy=>by simpa using fun z=>hn y hy z.symm
  rw[this]
  simp
 |p::P,w::vs,i+1,nd,h1,h2=>by
  rw[List.zip_cons_cons,U9,List.lookup_append,vJ (i:=i) (Ub.mp nd).2 (by simpa using h1) (by simpa using h2)]
  rfl
section
variable{P:Program}{w:World}{H H':Hp}{h h':Heap}{as:List Addr}
theorem zV(hc:∀a∈as,∃v,Cel H a v){b:Addr}{u:HO}(e:H b=some u)(n:∀o c v,u≠.frz o (CelO c v)):yF H as b=some u:=by
 rw[yg]
 ·exact e
 ·intro z
  obtain⟨v,o,q⟩:=hc b z
  rw[e]at q
  exact n _ _ _ (uP.inj q)
theorem Xv(hc:∀a∈as,∃v,Cel H a v)(x:HOk P w H h):HOk P w (yF H as) h:=fun b u e=>by
 have nb:b∉as:=fun z=>by rw[xV z]at e;cases e
 rw[yg nb]at e
 exact(x b u e).stay (fun _ _ _ q=>q) (fun d q=>zV hc q (by intro _ _ _ z;cases z)) fun d xs q=>zV hc q (by intro _ _ _ z;cases z)
theorem QV(hn:∀a∈as,H' a=none)(hk:∀a∈as,∀u,H a=some u->∃v o,u=.frz o (CelO a v)/\h.get? a=some o/\h'.get? a=some o)(x:HOk P w H h)(x':HOk P w H' h'):HOk P w (xz H' H as) h':=fun b u e=>by
 have up:∀d z,H' d=some z->xz H' H as d=some z:=fun d z q=>by
  rw[yD]
  ·exact q
  ·intro y;rw[hn d y]at q;cases q
 by_cases nb:b∈as
 ·rw[wW nb]at e
  obtain⟨v,o,rfl,e1,e2⟩:=hk b nb u e
  obtain⟨_,⟨u',r,o',e3,d⟩,_⟩:=x b _ e
  rw[e1]at e3;cases e3
  exact VX e2 d r
 ·rw[yD nb]at e
  exact(x' b u e).stay (fun _ _ _ q=>q) (fun d q=>up d _ q) fun d xs q=>up d _ q
theorem QW{fs:List Addr}(hc:∀a∈as,∃v,Cel H a v)(u:Un fs [] (yF H as) H' h h')(hn:∀a∈as,H' a=none):Un fs [] H (xz H' H as) h h':=by
 have no:∀b,H b=none->b∉as:=fun b n z=>by
  obtain⟨v,o,q⟩:=hc b z
  rw[n]at q;cases q
 have mk:∀b,H b=none->yF H as b=none:=fun b n=>by rw[yg (no b n)];exact n
 have up:∀d z,H' d=some z->xz H' H as d=some z:=fun d z q=>by
  rw[yD]
  ·exact q
  ·intro y;rw[hn d y]at q;cases q
 refine⟨fun b o e n hb hx=>u.keep b o e (mk b n) hb hx,fun b o e n hb hx=>u.slot b o e (mk b n) hb hx,fun b o e n hx=>?_,u.there,fun b xs e=>up _ _ (u.tups b xs (zV hc e (by intro _ _ _ z;cases z))),fun b o x e=>?_,fun b ps e=>?_⟩
 ·rw[yD (no b n)]
  exact u.free b o e (mk b n) hx
 ·by_cases z:b∈as
  ·rw[wW z];exact e
  ·rw[yD z]
   exact u.frzs b o x (by rw[yg z];exact e)
 ·obtain⟨more,q⟩:=u.tbls b ps (zV hc e (by intro _ _ _ z;cases z))
  exact⟨more,up _ _ q⟩
end
theorem Xw{CX:CXT}{P:Program}{w:World}{K:ub}{mg:Str->Option Value}{base:Heap}{k:Nat}{f c:Addr}{name qual:Str}{params:Arguments}{body:Expr}{scope:Scope}{cl:List (Str×Addr)}{pm ct:Value}
  {N ps fs:List Str} {sp:Sp} (S:LamScope N ps fs scope) (len:∀vs H Q E,sp vs H Q E->vs.length=ps.length)
  (hbody:∀(A:Around)(outer:List Env)(s:Shared)(H:Hp)(vs:List V)(Q:VK)(E:XK),Room k (A.deeper (Ta qual scope s.heap.objs.size f (.ref c) cl))->sp vs H Q E ->
   H f=some (FunO f (PySem.W.kla_fn name qual params body scope cl pm (.ref c) ct))/\H c=some (CodO c qual)/\∃fvs,Clo H cl fs fvs /\
   ∃t,jE (VZ CX P w K mg base N qual scope f (.ref c) cl A outer s H E) body t/\t (vs.map some++fvs.map some) (yF H (cl.map (·.2))) fun v H'=>(∀a∈cl.map (·.2),H' a=none)->Q v (xz H' H (cl.map (·.2)))) :
  FnOk P w K mg base CX (k+1) f (PySem.W.kla_fn name qual params body scope cl pm (.ref c) ct) ps sp:=by
 refine⟨len,fun A outer s H args us vs Q E hr e0 hb r hsp=>?_⟩
 have hl:=len _ _ _ _ hsp
 have lim:s.heap.NoLimit:=e0.mod.nolimit.keeps fun b o e=>(e0.bs b o e).1
 obtain⟨hf,hc,fvs,C,t,ht,hq⟩:=hbody A outer s H vs Q E (hr.deeper _) hsp
 have of:=(e0.hok f _ hf).1
 have oc:=(e0.hok c _ hc).1
 have hcA:∀a∈cl.map (·.2),∃v,Cel H a v:=fun a ha=>by
  obtain⟨p,hp,rfl⟩:=uC.mp ha
  exact C.all p hp
 have hcl:∀x a,cl.lookup x=some a->a∈cl.map (·.2):=fun x a e=>uC.mpr ⟨(x,a),uZ e,rfl⟩
 refine PySem.W.kla_callFunE hr.depth of rfl S.co S.gen rfl oc (hb _ _ _ _ ?_)
 refine wpAny_newFunctionEnv S.nocell (fun y hy=>S.par _ (UG hy).1) (fun h₁ hns hsb=>?_) S.kind
 have hk₁:∀b o,s.heap.get? b=some o->h₁.get? b=some o:=fun b o e=>hsb.extBut b o (uS (uw e)) (ug _ e)
 refine⟨lim.keeps hk₁,PySem.W.kla_codeExpr ?_⟩
 have isc:∀x a,cl.lookup x=some a->∃v,Cel H a v:=fun x a e=>hcA a (hcl x a e)
 have cget:∀a v,Cel H a v->∃u,RelV v u/\s.heap.IsCell a (some u):=fun a v ⟨o,q⟩=>(e0.hok a _ q).2.1
 have I:Inv (VZ CX P w K mg base N qual scope f (.ref c) cl A outer s H E) [] (vs.map some++fvs.map some) (yF H (cl.map (·.2))) { s with heap:=h₁,toks:=s.toks+(ps.zip us).length }:=by
  have noA:∀b:Addr,b∉(VZ CX P w K mg base N qual scope f (.ref c) cl A outer s H E).ex:=fun b z=>absurd (show b∈([]:List Addr)from z) (by simp)
  have mnone:∀b,H b=none->yF H (cl.map (·.2)) b=none:=fun b e=>by
   unfold yF
   split
   ·rfl
   ·exact e
  refine⟨⟨e0.mod,S.kind,rfl,rfl,ud _,fun y z a h1 h2=>C.inj y z a h1 h2,fun y hy=>?_,fun y a z=>absurd (show false=true from z) (by decide),fun _=>hr.hd,Around.frames_deeper e0.frames,.inr ⟨rfl,rfl⟩,fun b z=>absurd z (noA b),fun b o e=>⟨(e0.bs b o e).1,mnone _ (e0.bs b o e).2⟩,e0.bsz,fun b _ _=>noA b,fun b z=>absurd z (noA b),e0.funs,fun b hb=>mnone _ (e0.frf b hb)⟩,
   rfl,e0.bare,Un.kept hk₁,⟨_,hns,fun i y v h1 h2 h3=>?_⟩,fun y a h=>?_,mnone _ (e0.hok.fresh (ud _)),fun y a h=>xV (hcl y a h),fun p hp=>absurd (show p∈([]:List (Addr×Obj))from hp) (by simp),Xv hcA (e0.hok.kept hk₁),?_⟩
  ·have hy:scope.names.lookup y=some .cell\/scope.names.lookup y=some .free:=hy
   rcases hy with hy|hy
   ·exact absurd rfl (S.nocell _ (uZ hy))
   ·exact C.has y (S.has _ (uZ hy) rfl)
  ·have h1:(ps++fs)[i]?=some y:=by rw[<- S.cat];exact h1
   have ndP:ps.Nodup:=by have:=S.nd;rw[S.cat]at this;exact(List.nodup_append.mp this).1
   by_cases hi:i < vs.length
   ·rw[Uc (by simpa using hi),ue]at h2
    rw[Uc (by lia)]at h1
    cases e:vs[i]? with
    |none=>rw[e]at h2;cases h2
    |some a =>
     rw[e]at h2;cases h2
     obtain⟨u,hu,rv⟩:=r.get e
     exact⟨u,rv,.inl ⟨S.par y (uo h1),vJ ndP h1 hu⟩⟩
   ·rw[Ul (by simpa using hi),ue]at h2
    rw[Ul (by lia)]at h1
    rw[ua,hl]at h2
    cases e:fvs[i-ps.length]? with
    |none=>rw[e]at h2;cases h2
    |some a =>
     rw[e]at h2;cases h2
     obtain⟨ca,g1,g2⟩:=C.get _ _ _ h1 e
     obtain⟨u,rv,q⟩:=cget _ _ g2
     exact⟨u,rv,.inr ⟨.inr (S.fre y (uo h1)),ca,g1,q.keeps hk₁⟩⟩
  ·obtain⟨v,q⟩:=isc y a h
   obtain⟨u,_,q⟩:=cget _ _ q
   exact⟨_,q.keeps hk₁⟩
  ·show _=N.length
   rw[S.cat,uf,uf,ua,ua,C.len,hl]
 refine wpAny_mono (ht.out [] _ _ _ _ I hq) (fun u s' hs=>?_) fun e s' hs=>hs
 obtain⟨v,H',J,rv,q⟩:=hs
 have hn:∀a∈cl.map (·.2),H' a=none:=fun a ha=>by
  obtain⟨v,o,q⟩:=hcA a ha
  obtain⟨e1,_⟩:=e0.hok a _ q
  exact J.base.free a o e1 (xV ha) (by exact fun z=>absurd (show a∈([]:List Addr)from z) (by simp))
 refine⟨v,_,J.os,J.bare,QW hcA J.base hn,QV hn (fun a ha u e=>?_) e0.hok J.hok,rv,q hn⟩
 obtain⟨v',o,q'⟩:=hcA a ha
 rw[q']at e;cases e
 obtain⟨e1,_⟩:=e0.hok a _ q'
 refine⟨v',o,rfl,e1,J.base.keep a o e1 (xV ha) (fun z=>?_) (fun z=>absurd (show a∈([]:List Addr)from z) (by simp))⟩
 rw[e0.frf a z]at q'
 cases q'
structure EndsR where
 nx:St->Hp->Prop
 rt:St->V->Hp->Prop
abbrev TR:=EndsR->St->Hp->Prop
def SPR(X:Cx)(D:EndsR)(f:Flow)(s':Shared):Prop :=
 match f with
 |.next=>∃σ' H',Inv X [] σ' H' s'/\D.nx σ' H'
 |.ret u=>∃v σ' H',Inv X [] σ' H' s'/\RelV v u/\D.rt σ' v H'
 |_=>False
structure jR(X:Cx)(st:List Stmt)(t:TR):Prop where
 out:∀(s:Shared)(σ:St)(H:Hp)(D:EndsR),Inv X [] σ H s->t D σ H->wpAny (model X.prog X.w) X.A (execs st X.env) (SPR X D) X.xe s
section
variable{X:Cx}{st:Stmt}{rest A:List Stmt}{t:TS}{u tA:TR}{e c:Expr}{te:TE}{tc:TT}{pos:Pos}
theorem QX(h1:jS X st t)(h2:jR X rest u):jR X (st::rest) (fun D σ H=>t { nx:=u D,rt:=fun _ _=>False } σ H):=⟨by
 intro s σ H D I h
 refine wpAny_execs_cons (thn (h1.out [] s σ H { nx:=u D,rt:=fun _ _=>False } I h) fun f s1 q=>?_)
 cases f with
 |next =>
  obtain⟨σ',H',I',q⟩:=q
  exact h2.out s1 σ' H' D I' q
 |ret v =>
  obtain⟨_,_,_,_,_,q⟩:=q
  exact False.elim q
 |brk =>
  obtain⟨_,_,_,q⟩:=q
  exact False.elim q
 |cont =>
  obtain⟨_,_,_,q⟩:=q
  exact False.elim q⟩
theorem zcc(he:jE X e te):jR X [.Return (some e) pos] (fun D σ H=>te σ H (D.rt σ)):=⟨by
 intro s σ H D I h
 refine wpAny_execs_cons (wpAny_Return_some (thn (he.out [] s σ H _ I h) fun v s1 ⟨x,H1,I1,r1,q1⟩=>?_))
 exact⟨x,σ,H1,I1,r1,q1⟩⟩
end
structure Pub(H H3:Hp)(cvs:List (Addr×V)):Prop where
 old:∀b,b∉cvs.map (·.1)->H3 b=H b
 non:∀p∈cvs,H p.1=none
 cel:∀p∈cvs,Cel H3 p.1 p.2
def CellsAt(X:Cx)(σ:St)(cvs:List (Addr×V)):Prop:=∀p∈cvs,∃(i:Nat)(x:Str),X.N[i]?=some x/\σ[i]?=some (some p.2)/\X.env.cells.lookup x=some p.1/\(X.env.scope.names.lookup x=some .cell\/X.env.scope.names.lookup x=some .free)
theorem CellsAt.cell{X:Cx}{pins:List (Addr×Obj)}{σ:St}{H:Hp}{s:Shared}{cvs:List (Addr×V)}(I:Inv X pins σ H s)(h:CellsAt X σ cvs):∀p∈cvs,∃o u,s.heap.get? p.1=some o/\o.data=.cell (some u)/\RelV p.2 u:=fun p hp=>by
 obtain⟨i,x,e1,e2,e3,e4⟩:=h p hp
 obtain⟨m,_,l⟩:=I.loc
 obtain⟨u,r,l⟩:=l i x _ e1 e2 (.inr e4)
 rcases l with⟨k,_⟩|⟨_,c,q,o,e,d⟩
 ·have k:X.env.scope.names.lookup x=some .local:=k
  rcases e4 with e4|e4<;>rw[e4]at k<;>cases k
 ·rw[e3]at q;cases q
  exact⟨o,u,e,d,r⟩
def pubH(h:Heap)(H:Hp)(cvs:List (Addr×V)):Hp:=fun b=>match cvs.find? (fun p=>p.1 == b)with
 |some p=>some (.frz ((h.get? b).getD { cls:=.none,data:=.plain }) (CelO b p.2))
 |none=>H b
theorem YK{h:Heap}{H:Hp}{cvs:List (Addr×V)}{b:Addr}(hb:b∈cvs.map (·.1)):∃v,(b,v)∈cvs/\pubH h H cvs b=some (.frz ((h.get? b).getD { cls:=.none,data:=.plain }) (CelO b v)):=by
 obtain⟨p,hp,rfl⟩:=uC.mp hb
 cases e:cvs.find? (fun q=>q.1 == p.1)with
 |none=>exact absurd (List.find?_eq_none.mp e p hp) (by simp)
 |some q =>
  have h1:=List.find?_some e
  have h2:=List.mem_of_find?_eq_some e
  have h3:q.1=p.1:=by simpa using h1
  refine⟨q.2,by rw[<- h3];exact h2,?_⟩
  unfold pubH
  rw[e]
theorem yH{h:Heap}{H:Hp}{cvs:List (Addr×V)}{b:Addr}(hb:b∉cvs.map (·.1)):pubH h H cvs b=H b:=by
 unfold pubH
 rw[List.find?_eq_none.mpr fun p hp=>by simpa using fun z:p.1=b=>hb (uC.mpr ⟨p,hp,z⟩)]
section
variable{X:Cx}{pins:List (Addr×Obj)}{σ:St}{H:Hp}{s:Shared}{cvs:List (Addr×V)}
theorem QY(I:Inv X pins σ H s)(h:CellsAt X σ cvs)(hN:X.N.Nodup){b:Addr}{v v':V}(h1:(b,v)∈cvs)(h2:(b,v')∈cvs):v=v':=by
 obtain⟨i,x,e1,e2,e3,_⟩:=h _ h1
 obtain⟨j,y,g1,g2,g3,_⟩:=h _ h2
 have:=I.ok.inj x y b e3 g3
 subst this
 have:i=j:=(List.getElem?_inj (uc.mp e1).1 hN).mp (e1.trans g1.symm)
 subst this
 rw[e2]at g2
 cases g2
 rfl
theorem V0(I:Inv X pins σ H s)(h:CellsAt X σ cvs)(hN:X.N.Nodup):Pub H (pubH s.heap H cvs) cvs :=
 ⟨fun b hb=>yH hb,fun p hp=>let ⟨_,x,_,_,e3,_⟩:=h p hp;I.freeC x _ e3,fun p hp=>by
  obtain⟨v,hv,e⟩:=YK (h:=s.heap) (H:=H) (uC.mpr ⟨p,hp,rfl⟩)
  have:=QY I h hN (b:=p.1) (v:=v) (v':=p.2) hv hp
  subst this
  exact⟨_,e⟩⟩
theorem V1(I:Inv X pins σ H s)(h:CellsAt X σ cvs):HOk X.prog X.w (pubH s.heap H cvs) s.heap:=fun b u e=>by
 have up:∀d z,H d=some z->pubH s.heap H cvs d=some z:=fun d z q=>by
  rw[yH]
  ·exact q
  ·intro y
   obtain⟨p,hp,rfl⟩:=uC.mp y
   obtain⟨_,x,_,_,e3,_⟩:=h p hp
   rw[I.freeC x _ e3]at q;cases q
 by_cases hb:b∈cvs.map (·.1)
 ·obtain⟨v,hv,e'⟩:=YK (h:=s.heap) (H:=H) hb
  rw[e']at e;cases e
  obtain⟨o,u,e1,e2,r⟩:=h.cell I _ hv
  have e1:s.heap.get? b=some o:=e1
  rw[e1]
  exact VX e1 e2 r
 ·rw[yH hb]at e
  exact(I.hok b u e).stay (fun _ _ _ q=>q) (fun d q=>up d _ q) fun d xs q=>up d _ q
end
theorem zcd{CX:CXT}{P:Program}{w:World}{K:ub}{mg:Str->Option Value}{base:Heap}{k:Nat}{f:Addr}{name qual:Str}{params:Arguments}{body:List Stmt}{scope:Scope}{dV kV doc pm cdv ct oc:Value}{an od:Option Addr}
  {osl:Array (Option Value)} {N ps:List Str} {sp:Sp} (lk:K.lookup f=some ⟨oc,od,.func (Uf name qual params body scope dV kV doc pm an cdv ct),osl⟩) (hcd:UK K cdv qual=true) (S:FnScope N ps scope)
  (len:∀vs H Q E,sp vs H Q E->vs.length=ps.length)
  (hbody:∀(A:Around)(outer:List Env)(s:Shared)(H:Hp)(vs:List V)(Q:VK)(E:XK),Room k (A.deeper (envOfC qual scope s.heap.objs.size f cdv))->sp vs H Q E->(∀b,s.heap.objs.size<=b->H b=none) ->
   ∃t,jR (cxOf CX P w K mg base N qual scope f cdv A outer s H E) body t/\t { nx:=fun _ H'=>Q .non H',rt:=fun σ v H'=>∃cvs,CellsAt (cxOf CX P w K mg base N qual scope f cdv A outer s H E) σ cvs/\∀H3,Pub H' H3 cvs->Q v H3 } (start N vs) H) :
  FnOk P w K mg base CX (k+1) f (Uf name qual params body scope dV kV doc pm an cdv ct) ps sp:=by
 refine⟨len,fun A outer s H args us vs Q E hr e0 hb r hsp=>?_⟩
 have hl:=len _ _ _ _ hsp
 have KX:K.In s.heap:=e0.mod.kin.keeps fun b o e=>(e0.bs b o e).1
 have lim:s.heap.NoLimit:=e0.mod.nolimit.keeps fun b o e=>(e0.bs b o e).1
 have hkind:∀y∈ps.zip us,scope.names.lookup y.1=some .local\/(scope.names.lookup y.1=some .cell/\((cellsFrom (s.heap.objs.size+1) scope.names []).lookup y.1).isSome=true):=fun⟨n,v⟩ hy=>by
  rcases S.par n (UG hy).1 with q|q
  ·exact .inl q
  ·exact .inr ⟨q,t9 _ _ _ (.inl q)⟩
 refine codeAny_call_function hr.depth (KX _ _ lk) rfl S.co S.gen rfl (PySem.W.codeRec_of KX hcd) (hb _ _ _ _ ?_)
 refine wpAny_newFunctionEnv_cells S.kind hkind fun env he s1 x=>?_
 subst he
 refine⟨lim.keeps x.toInCall.keep,codeAny_func ?_⟩
 obtain⟨t,ht,hq⟩:=hbody A outer s H vs Q E (hr.deeper _) hsp fun b hb=>e0.hok.fresh hb
 have I:Inv (cxOf CX P w K mg base N qual scope f cdv A outer s H E) [] (start N vs) H s1:=jb S hr.hd e0 hl r x
 refine wpAny_mono (ht.out s1 (start N vs) H _ I hq) (fun fl s' hs=>?_) fun e s' hs=>hs
 cases fl with
 |ret u =>
  obtain⟨v,σ',H',J,rv,cvs,hc,q⟩:=hs
  have pb:=V0 J hc S.nd
  have q:=q _ pb
  have ab:∀b,b∈cvs.map (·.1)->s.heap.objs.size<=b:=fun b hb=>by
   obtain⟨p,hp,rfl⟩:=uC.mp hb
   obtain⟨_,x,_,_,e3,_⟩:=hc p hp
   exact J.ok.cab x _ rfl e3
  have no:∀b o,H' b=some o->b∉cvs.map (·.1):=fun b o e hb=>by
   obtain⟨p,hp,rfl⟩:=uC.mp hb
   rw[pb.non p hp]at e;cases e
  have un:Un (frs outer) [] H H' s.heap s'.heap:=J.base
  refine⟨v,_,J.os,J.bare,⟨un.keep,un.slot,fun b o e n hx=>?_,un.there,fun b xs e=>?_,fun b o xs e=>?_,fun b p e=>?_⟩,V1 J hc,rv,q⟩
  ·rw[pb.old b fun z=>absurd (uI (uw e) (ab b z)) (UE _)]
   exact un.free b o e n hx
  ·have e':=un.tups b xs e
   rw[pb.old b (no b _ e')];exact e'
  ·have e':=un.frzs b o xs e
   rw[pb.old b (no b _ e')];exact e'
  ·obtain⟨more,e'⟩:=un.tbls b p e
   exact⟨more,by rw[pb.old b (no b _ e')];exact e'⟩
 |next =>
  obtain⟨σ',H',J,q⟩:=hs
  exact⟨.non,H',J.os,J.bare,J.base,J.hok,rfl,q⟩
 |brk=>exact False.elim hs
 |cont=>exact False.elim hs
def zce(X:Cx)(sp:Sp)(E:XK)(t:TA):TE:=fun σ H Q=>t σ H fun vs H1=>∃cvs,CellsAt X σ cvs/\∀H3,Pub H1 H3 cvs->sp vs H3 (fun r H4=>(∀p∈cvs,Cel H4 p.1 p.2)->Q r (yF H4 (cvs.map (·.1)))) E
theorem zcf{X:Cx}{k:Nat}{ps:List Str}{sp:Sp}{E:XK}{x:Str}{p pos:Pos}{e:Expr}{es:List Expr}{t:TA}(F:Ca X.prog X.w X.K X.mg X.base CX0 k x ps sp)(hr:Room k X.A)(hN:X.N.Nodup)(hg:Gl X x)(hfn:∀x,X.fn x=true)(ha:jA X (e::es) t)
  (hdb:(x == ("__debug__":Str))=false:=by decide) (h1:zw e=false:=by rfl) (h2:es.all (fun e=>!zw e)=true:=by rfl) :
  jE X (.Call (.Name x p) (e::es) [] pos) (zce X sp E t):=⟨by
 obtain⟨f,fd,F,hb,hk,hm⟩:=F.ex
 intro pins s σ H Q I h
 refine wpAny_Call_Name_kw (xM I hg hm ?_ hdb)
 refine tG (h₀:=X.base) I.ok.mod.kin hk (thn (ha.out pos pins s σ H _ I h) fun us s1 ⟨vs,H1,I1,r,cvs,hc,q⟩=>⟨I1.kIn,?_⟩) (zC h1) (yo h2)
 have pb:=V0 I1 hc hN
 have ok3:=V1 I1 hc
 have q:=q _ pb
 have hl:us.length=ps.length:=by rw[<- r.length];exact F.len _ _ _ _ q
 have nas:∀b o,H1 b=some o->b∉cvs.map (·.1):=fun b o e hb=>by
  obtain⟨p,hp,rfl⟩:=uC.mp hb
  rw[pb.non p hp]at e;cases e
 have e0:Env0 X.prog X.w X.K X.mg X.base X.A X.stack s1 (pubH s1.heap H1 cvs):=by
  have z:=I1.env0
  refine⟨z.frames,z.mod,fun b o e=>⟨(z.bs b o e).1,?_⟩,z.bsz,z.funs,fun b hb=>?_,ok3,z.bare⟩
  ·rw[yH]
   ·exact(z.bs b o e).2
   ·intro hb
    obtain⟨p,hp,rfl⟩:=uC.mp hb
    obtain⟨_,y,_,_,e3,_⟩:=hc p hp
    exact absurd (uI (uw e) (Ua I1.ok.bsz (I1.ok.cab y _ (hfn y) e3))) (UE _)
  ·rw[yH]
   ·exact z.frf b hb
   ·intro hb'
    obtain⟨p,hp,rfl⟩:=uC.mp hb'
    obtain⟨_,y,_,_,e3,_⟩:=hc p hp
    rcases um.mp (I1.stkSub _ hb)with q|q
    ·exact I1.cne y _ e3 q
    ·obtain⟨_,o,ho,_⟩:=I1.ok.funs.mem q
     exact absurd (uI (uw ho) (I1.ok.cab y _ (hfn y) e3)) (UE _)
 refine wpAny_call (codeAny_mono (F.run X.A X.stack s1 _ ⟨us,[]⟩ us vs _ E hr e0 (by have:=hb s1 us I1.kIn (by simpa using hl);simpa using this) r q) fun r s' hq=>?_)
 cases r with
 |error e=>exact False.elim hq
 |ok fl =>
  cases fl with
  |next=>exact False.elim hq
  |brk=>exact False.elim hq
  |cont=>exact False.elim hq
  |ret u =>
   refine I1.after ?_
   obtain⟨v,H4,os,bare,un,hok,rv,q⟩:=hq
   have cel4:∀b,b∈cvs.map (·.1)->∃o v,s1.heap.get? b=some o/\s'.heap.get? b=some o/\H4 b=some (.frz o (CelO b v)):=fun b hb=>by
    obtain⟨v,hv,e⟩:=YK (h:=s1.heap) (H:=H1) hb
    have e4:=un.frzs b _ _ e
    exact⟨_,v,(ok3 b _ e).1,(hok b _ e4).1,e4⟩
   have hcA:∀a∈cvs.map (·.1),∃v,Cel H4 a v:=fun a ha=>let ⟨o,v,_,_,e⟩:=cel4 a ha;⟨v,o,e⟩
   have up:∀b o,H1 b=some o->pubH s1.heap H1 cvs b=some o:=fun b o e=>by rw[yH (nas b o e)];exact e
   refine⟨v,_,os,bare,⟨fun b o e n hb hx=>?_,fun b o e n hb hx=>?_,fun b o e n hx=>?_,un.there,fun b xs e=>?_,fun b o xs e=>?_,fun b p e=>?_⟩,Xv hcA hok,rv,q fun p hp=>let ⟨o,e⟩:=pb.cel p hp;⟨o,un.frzs _ _ _ e⟩⟩
   ·by_cases hb':b∈cvs.map (·.1)
    ·obtain⟨o',_,e1,e2,_⟩:=cel4 b hb'
     rw[e]at e1;cases e1
     exact e2
    ·exact un.keep b o e (by rw[yH hb'];exact n) hb hx
   ·by_cases hb':b∈cvs.map (·.1)
    ·obtain⟨o',_,e1,e2,_⟩:=cel4 b hb'
     rw[e]at e1;cases e1
     exact⟨o.slots,e2⟩
    ·exact un.slot b o e (by rw[yH hb'];exact n) hb hx
   ·by_cases hb':b∈cvs.map (·.1)
    ·exact xV hb'
    ·rw[yg hb']
     exact un.free b o e (by rw[yH hb'];exact n) hx
   ·rw[yg (nas b _ e)]
    exact un.tups b xs (up _ _ e)
   ·rw[yg (nas b _ e)]
    exact un.frzs b o xs (up _ _ e)
   ·obtain⟨more,e'⟩:=un.tbls b p (up _ _ e)
    exact⟨more,by rw[yg (nas b _ e)];exact e'⟩⟩
def V2(P:Program)(w:World)(K:ub)(mg:Str->Option Value)(base:Heap)(k:Nat)(E:XK)(i:Nat)(t:TA):TE:=fun σ H Q=>∃f,σ[i]?=some (some (.ref f)) /\
 (((∃fd,H f=some (FunO f fd))/\t σ H fun vs H1=>∃fd ps sp,FnOk P w K mg base CX0 k f fd ps sp/\Binds K fd ps []/\H1 f=some (FunO f fd)/\sp vs H1 Q E) \/
   (uY K (.ref f)=true/\t σ H fun vs H1=>∃fd ps sp,FnOk P w K mg base CX0 k f fd ps sp/\Binds K fd ps []/\sp vs H1 Q E))
theorem ZT{X:Cx}{k:Nat}{E:XK}{i:Nat}{x:Str}{p pos:Pos}{e:Expr}{es:List Expr}{t:TA}(hr:Room k X.A)(hn:jE X (.Name x p) (tVar i))(hx:yt CX0 X E)(ha:jA X (e::es) t)(h1:zw e=false:=by rfl)(h2:es.all (fun e=>!zw e)=true:=by rfl):
  jE X (.Call (.Name x p) (e::es) [] pos) (V2 X.prog X.w X.K X.mg X.base k E i t):=⟨by
 intro pins s σ H Q I h
 obtain⟨f,hf,h⟩:=h
 refine wpAny_Call_Name_kw (thn (hn.out pins s σ H (fun v H1=>v=.ref f/\H1=H) I ⟨_,hf,rfl,rfl⟩) fun u s0 ⟨v,H0,I0,r0,e1,e2⟩=>?_)
 subst e1;subst e2
 cases r0
 rcases h with⟨⟨fd,hF⟩,h⟩|⟨hk,h⟩
 ·refine PySem.W.callWith_F ⟨_,_,_,_,(I0.hok f _ hF).1⟩ (thn (ha.out pos pins s0 σ H0 _ I0 h) fun us s1 ⟨vs,H1,I1,r,fd,ps,sp,F,hb,hF1,q⟩=>⟨⟨_,_,_,_,(I1.hok f _ hF1).1⟩,?_⟩) (zC h1) (yo h2)
  exact jF F hr hb .nil hx I1 r (by rw[uu];exact q)
 ·refine tG (h₀:=X.base) I0.ok.mod.kin hk (thn (ha.out pos pins s0 σ H0 _ I0 h) fun us s1 ⟨vs,H1,I1,r,fd,ps,sp,F,hb,q⟩=>⟨I1.kIn,?_⟩) (zC h1) (yo h2)
  exact jF F hr hb .nil hx I1 r (by rw[uu];exact q)⟩
structure FunC(K:ub)(x:Str)(st:Stmt)(c f:Addr)(fd:FuncData):Prop where
 ex:∃(oc:Value)(od:Option Addr)(kV doc pm:Value)(an:Option Addr)(ct:Value)(osl:Array (Option Value)),fd=Uf x x (z6 st) (zM st) (zo st) .none kV doc pm an (.ref c) ct/\K.lookup f=some ⟨oc,od,.func fd,osl⟩/\UK K (.ref c) x=true
section
variable{P:Program}{w:World}{K:ub}{mg:Str->Option Value}{base h:Heap}{x:Str}{st:Stmt}{c f:Addr}{fd:FuncData}{N ps:List Str}{k:Nat}{sp:Sp}
theorem FunC.by(F:FunC K x st c f fd)(S:FnScope N ps (zo st))(len:∀vs H Q E,sp vs H Q E->vs.length=ps.length)
  (hbody:∀(A:Around)(outer:List Env)(s:Shared)(H:Hp)(vs:List V)(Q:VK)(E:XK),Room k (A.deeper (envOfC x (zo st) s.heap.objs.size f (.ref c)))->sp vs H Q E ->
   ∃t,jSs (cxOf CX0 P w K mg base N x (zo st) f (.ref c) A outer s H E).nox (zM st) t/\t { nx:=fun _ H'=>Q .non H',rt:=Q } (start N vs) H):FnOk P w K mg base CX0 (k+1) f fd ps sp:=by
 obtain⟨oc,od,kV,doc,pm,an,ct,osl,rfl,lk,hcd⟩:=F.ex
 refine zaO lk hcd S len fun A outer s H vs Q E hr hsp=>?_
 obtain⟨t,h,q⟩:=hbody A outer s H vs Q E hr hsp
 exact⟨t,h.out.nox,q⟩
theorem FunC.byR(F:FunC K x st c f fd)(S:FnScope N ps (zo st))(len:∀vs H Q E,sp vs H Q E->vs.length=ps.length)
  (hbody:∀(A:Around)(outer:List Env)(s:Shared)(H:Hp)(vs:List V)(Q:VK)(E:XK),Room k (A.deeper (envOfC x (zo st) s.heap.objs.size f (.ref c)))->sp vs H Q E->(∀b,s.heap.objs.size<=b->H b=none) ->
   ∃t,jR (cxOf CX0 P w K mg base N x (zo st) f (.ref c) A outer s H E) (zM st) t/\t { nx:=fun _ H'=>Q .non H',rt:=fun σ v H'=>∃cvs,CellsAt (cxOf CX0 P w K mg base N x (zo st) f (.ref c) A outer s H E) σ cvs/\∀H3,Pub H' H3 cvs->Q v H3 } (start N vs) H) :
  FnOk P w K mg base CX0 (k+1) f fd ps sp:=by
 obtain⟨oc,od,kV,doc,pm,an,ct,osl,rfl,lk,hcd⟩:=F.ex
 exact zcd lk hcd S len hbody
def DcIn(K:ub)(x:Str)(st:Stmt)(c:Addr):Prop:=∃f,Uy K mainGlobals x=some (some (.ref f))/\∃(oc:Value)(od:Option Addr)(kV doc pm:Value)(an:Option Addr)(ct:Value)(osl:Array (Option Value)),K.lookup f=some ⟨oc,od,.func (Uf x x (z6 st) (zM st) (zo st) .none kV doc pm an (.ref c) ct),osl⟩/\UK K (.ref c) x=true/\uY K (.ref f)=true
theorem DcIn.mk{oc:Value}{od:Option Addr}{kV doc pm:Value}{an:Option Addr}{ct:Value}{osl:Array (Option Value)}(a:Uy K mainGlobals x=some (some (.ref f)))(l:K.lookup f=some ⟨oc,od,.func (Uf x x (z6 st) (zM st) (zo st) .none kV doc pm an (.ref c) ct),osl⟩)(cc:UK K (.ref c) x=true)(k:uY K (.ref f)=true):DcIn K x st c:=⟨f,a,oc,od,kV,doc,pm,an,ct,osl,l,cc,k⟩
theorem DcIn.ca(X:K.In h)(G:h.Ns mainGlobals mg)(d:DcIn K x st c)(hb:∀(kV doc pm:Value)(an:Option Addr)(ct:Value)(us:List Value),us.length=ps.length->bindArgs (Uf x x (z6 st) (zM st) (zo st) .none kV doc pm an (.ref c) ct) ⟨us,[]⟩=pure (ps.zip us))
  (ok:∀f fd,FunC K x st c f fd->FnOk P w K mg base CX0 k f fd ps sp):Ca P w K mg base CX0 k x ps sp:=by
 obtain⟨f,a,oc,od,kV,doc,pm,an,ct,osl,l,cc,kp⟩:=d
 exact⟨f,_,ok f _ ⟨oc,od,kV,doc,pm,an,ct,osl,rfl,l,cc⟩,.all fun us hl=>hb kV doc pm an ct us hl,kp,tV X G a⟩
end
def TbG(T:Addr)(ls:List (Pos×Str))(H:Hp):Prop:=∃ps,H T=some (.tbl ps)/\TriplesOk ps.toList/\∀p∈ls,codeAmong p.1 ps.toList=none\/∃c,codeAmong p.1 ps.toList=some (.ref c)/\H c=some (CodO c p.2)
theorem Wk{a b:Int}{c:Value}(l:List Value)(h:TriplesOk l):TriplesOk (l++[rawInt a,rawInt b,c]):=by
 fun_induction TriplesOk l with
 |case1=>trivial
 |case2 i t j u v rest ih=>exact ih h
 |case3=>exact False.elim h
theorem ZU{pos p':Pos}{c:Value}(l:List Value)(h:TriplesOk l)(n:¬ (p'.line=pos.line/\p'.col=pos.col)):codeAmong pos (l++[rawInt p'.line,rawInt p'.col,c])=codeAmong pos l:=by
 fun_induction TriplesOk l with
 |case1 =>
  show(if((p'.line:Nat):Int) == (pos.line:Nat) && ((p'.col:Nat):Int) == (pos.col:Nat)then some c else codeAmong pos [])=_
  rw[if_neg]
  simp
  intro e e'
  exact n ⟨by lia,by lia⟩
 |case2 i t j u v rest ih =>
  show(if i == (pos.line:Nat) && j == (pos.col:Nat)then some v else codeAmong pos (rest++_))=if i == (pos.line:Nat) && j == (pos.col:Nat)then some v else codeAmong pos rest
  rw[ih h]
 |case3=>exact False.elim h
theorem Wl{pos p':Pos}(l:List Value)(n:p'.line=pos.line/\p'.col=pos.col):codeAmong pos l=codeAmong p' l:=by
 fun_induction codeAmong pos l with
 |case1 line _ col _ c rest h=>rw[codeAmong,n.1,n.2,if_pos h]
 |case2 line _ col _ c rest h ih=>rw[codeAmong,n.1,n.2,if_neg h];exact ih
 |case3 l h =>
  unfold codeAmong
  split
  ·exact absurd rfl (h _ _ _ _ _ _)
  ·rfl
theorem TbG.keep{T:Addr}{ls:List (Pos×Str)}{H H':Hp}(h:TbG T ls H)(kt:∀ps,H T=some (.tbl ps)->H' T=some (.tbl ps))(kc:∀c q,H c=some (CodO c q)->H' c=some (CodO c q)):TbG T ls H':=by
 obtain⟨ps,e,t,h⟩:=h
 exact⟨ps,kt _ e,t,fun p hp=>(h p hp).imp_right fun⟨c,a,b⟩=>⟨c,a,kc _ _ b⟩⟩
theorem TbG.empty{T:Addr}{ls:List (Pos×Str)}{H:Hp}(h:H T=some (.tbl #[])):TbG T ls H:=⟨#[],h,trivial,fun p _=>.inl rfl⟩
theorem ZV{mg:Str->Option Value}{T:Addr}{ls:List (Pos×Str)}{qual:Str}{params:Arguments}{body:Expr}{scope:Scope}{pos:Pos}{cl:List (Str×Addr)}{σ:St}{H:Hp}{Q:VK}(h:TbG T ls H)(hm:(pos,qual)∈ls)(hu:∀p∈ls,(pos.line=p.1.line/\pos.col=p.1.col)->p.2=qual)
  (q:∀H' f c ct,(∀b u,b≠T->H b=some u->H' b=some u)->TbG T ls H'->H f=none->f≠T->c≠T->H' f=some (FunO f (lamC mg qual params body scope cl c ct))->H' c=some (CodO c qual)->Q (.ref f) H'):VY mg T qual params body scope pos cl σ H Q:=by
 obtain⟨ps,hT,tr,ha⟩:=h
 refine⟨ps,hT,tr,?_⟩
 rcases ha _ hm with hn|⟨c,hs,hc⟩
 ·refine .inl ⟨hn,fun c f ct h1 h2 h3=>?_⟩
  have n1:T≠c:=zk hT h1
  have n2:T≠f:=zk hT h2
  have kp:∀b u,b≠T->H b=some u->upd (upd (upd H T (.tbl (ps ++ #[rawInt pos.line,rawInt pos.col,.ref c]))) c (CodO c qual)) f (FunO f (lamC mg qual params body scope cl c ct)) b=some u:=fun b u n e=>by rw[zi (zk e h2),zi (zk e h1),zi n];exact e
  have e2:upd (upd (upd H T (.tbl (ps ++ #[rawInt pos.line,rawInt pos.col,.ref c]))) c (CodO c qual)) f (FunO f (lamC mg qual params body scope cl c ct)) c=some (CodO c qual):=by rw[zi h3.symm];exact upd_same
  refine q _ f c ct kp ⟨_,by rw[zi n2,zi n1];exact upd_same,?_,fun p hp=>?_⟩ h2 n2.symm n1.symm upd_same e2
  ·rw[Array.toList_append]
   exact Wk _ tr
  ·rw[Array.toList_append]
   by_cases z:pos.line=p.1.line/\pos.col=p.1.col
   ·refine .inr ⟨c,?_,by rw[e2,hu p hp z]⟩
    rw[Wl _ z]
    exact codeAmong_snoc _ tr hn
   ·rw[show(#[rawInt pos.line,rawInt pos.col,Value.ref c]:Array Value).toList=[rawInt pos.line,rawInt pos.col,.ref c]from rfl,ZU _ tr z]
    refine(ha p hp).imp_right fun⟨d,a,b⟩=>⟨d,a,kp _ _ (fun w=>?_) b⟩
    rw[w,hT]at b
    cases b
 ·refine .inr ⟨c,hs,fun f ct h2=>?_⟩
  have kp:∀b u,H b=some u->upd H f (FunO f (lamC mg qual params body scope cl c ct)) b=some u:=fun b u e=>by rw[zi (zk e h2)];exact e
  refine q _ f c ct (fun b u _ e=>kp b u e) ⟨ps,kp _ _ hT,tr,fun p hp=>(ha p hp).imp_right fun⟨d,a,b⟩=>⟨d,a,kp _ _ b⟩⟩ h2 (zk hT h2).symm (fun w=>?_) upd_same (kp _ _ hc)
  rw[w,hT]at hc
  cases hc
section
variable{X:Cx}
end
end L2
namespace GN
open PySem L2
inductive All2{α β:Type}(F:α->β->Prop):List α->List β->Prop
 |nil:All2 F [] []
 |cons {a b l m}:F a b->All2 F l m->All2 F (a::l) (b::m)
section
variable{α β:Type}{F G:α->β->Prop}{l:List α}{m:List β}
theorem All2.imp(h:All2 F l m)(f:∀a b,F a b->G a b):All2 G l m:=by
 induction h with
 |nil=>exact .nil
 |cons a _ ih=>exact .cons (f _ _ a) ih
theorem All2.len(h:All2 F l m):l.length=m.length:=by
 induction h with
 |nil=>rfl
 |cons _ _ ih=>rw[ul,ul,ih]
theorem All2.app{l':List α}{m':List β}(h:All2 F l m)(g:All2 F l' m'):All2 F (l++l') (m++m'):=by
 induction h with
 |nil=>exact g
 |cons a _ ih=>exact .cons a ih
theorem All2.get(h:All2 F l m):∀{i:Nat}{b:β},m[i]?=some b->∃a,l[i]?=some a/\F a b:=by
 induction h with
 |nil=>intro i b e;simp at e
 |cons a _ ih =>
  intro i b e
  cases i with
  |zero=>simp at e;subst e;exact⟨_,rfl,a⟩
  |succ i=>simp at e;obtain⟨x,h1,h2⟩:=ih e;exact⟨x,by simpa using h1,h2⟩
theorem All2.getl(h:All2 F l m):∀{i:Nat}{a:α},l[i]?=some a->∃b,m[i]?=some b/\F a b:=by
 induction h with
 |nil=>intro i b e;simp at e
 |cons a _ ih =>
  intro i b e
  cases i with
  |zero=>simp at e;subst e;exact⟨_,rfl,a⟩
  |succ i=>simp at e;obtain⟨x,h1,h2⟩:=ih e;exact⟨x,by simpa using h1,h2⟩
end
theorem iteN{b:Bool}{A B:Prop}(e:b=false)(h:B):if b=true then A else B:=by rw[if_neg (by rw[e];decide)];exact h
def KM(M:Addr->Prop)(H H':Hp):Prop:=∀b u,¬ M b->H b=some u->H' b=some u
def Kz(M R:Addr->Prop)(H H':Hp):Prop:=∀b u,H b=some u->¬ M b->(∀xs,u=.lst xs->R b)->H' b=some u
def KO(M:Addr->Prop)(H H':Hp):Prop:=∀b u,H b=some u->(∀xs,u=.lst xs->M b)->H' b=some u
theorem KM.refl{M:Addr->Prop}{H:Hp}:KM M H H:=fun _ _ _ h=>h
theorem KM.trans{M:Addr->Prop}{H H1 H2:Hp}(a:KM M H H1)(b:KM M H1 H2):KM M H H2:=fun c u n h=>b c u n (a c u n h)
theorem KM.of{M:Addr->Prop}{H H1:Hp}(a:Same H H1):KM M H H1:=fun c u _ h=>a c u h
theorem KM.free{M:Addr->Prop}{H H1:Hp}{b:Addr}(a:KM M H H1)(n:¬ M b)(h:H1 b=none):H b=none:=by
 cases e:H b with
 |none=>rfl
 |some u=>rw[a b u n e]at h;cases h
theorem KM.new{M:Addr->Prop}{H H1:Hp}{p:Addr}{o:HO}(a:KM M H H1)(h:H1 p=none):KM M H (upd H1 p o):=a.trans (.of fun b u e=>by rw[zi (zk e h)];exact e)
theorem KM.put{M:Addr->Prop}{H H1:Hp}{p:Addr}{o:HO}(a:KM M H H1)(h:H p=none):KM M H (upd H1 p o):=fun b u n e=>by rw[zi (zk e h)];exact a b u n e
def CanC(P:Program)(w:World)(K:ub)(mg:Str->Option Value)(base:Heap)(k:Nat)(H:Hp)(f:Addr)(vs:List V)(Q:VK)(E:XK):Prop :=
 ∃fd ps sp,FnOk P w K mg base CX0 k f fd ps sp/\Binds K fd ps []/\sp vs H Q E/\(H f=some (FunO f fd)\/uY K (.ref f)=true)
structure WoD(P:Program)(w:World)(K:ub)(mg:Str->Option Value)(base:Heap)(k:Nat) where
 Tk:Type
 M:Addr->Prop
 fb:Addr
 wt:Tk->Nat
 kids:Tk->List Tk
 wk:∀t,((kids t).map wt).sum+2<=wt t
 IT:Hp->(Addr->Prop)->Tk->V->Prop
 IR:Hp->(Addr->Prop)->Tk->V->Prop
 IF:Hp->(Addr->Prop)->Tk->V->Prop
 Ok:Hp->Prop
 itk:∀{H H' R R' t v},IT H R t v->Ok H->Kz M R H H'->(∀b,R b->R' b)->IT H' R' t v
 irk:∀{H H' R R' t v},IR H R t v->Ok H->Kz M R H H'->(∀b,R b->R' b)->IR H' R' t v
 ifk:∀{H H' R R' t v},IF H R t v->Ok H->Kz M R H H'->(∀b,R b->R' b)->IF H' R' t v
 okk:∀{H H'},Ok H->KO M H H'->Ok H'
 okM:∀{H b},Ok H->M b->H b≠none
 beg:∀{H R t v Q},IT H R t v->Ok H->(∀b,R b->H b≠none)->(∀b,R b->¬ M b) ->
  (∀H' q l fl vs R',KM M H H'->Ok H'->H' q=some (.tup [.ref l,.ref fl])->H l=none->H' l=some (.lst vs)->(∀b,R b->R' b)->(∀b,R' b->R b\/H b=none)->(∀b,R' b->H' b≠none)->R' l->All2 (IT H' R') (kids t) vs->IF H' R' t (.ref fl)->Q (.ref q) H') ->
  CanC P w K mg base k H fb [v] Q E0
 fin:∀{H R t fl rl rs Q},IF H R t (.ref fl)->Ok H->(∀b,R b->H b≠none)->(∀b,R b->¬ M b)->R rl->H rl=some (.lst rs)->All2 (IR H R) (kids t) rs ->
  (∀H' v R',KM M H H'->Ok H'->(∀b,R b->R' b)->(∀b,R' b->R b\/H b=none)->(∀b,R' b->H' b≠none)->IR H' R' t v->Q v H') ->
  CanC P w K mg base k H fl [.ref rl] Q E0
structure Bn(K:ub)(cB:Addr):Prop where
 cl:Cls K cB
 b1:NoAttr K cB "within"
 b2:NoAttr K cB "finish"
 b3:NoAttr K cB "results"
def BO(cB dx wa fl ra:Addr):HO:=.ins cB dx [("within",.ref wa),("finish",.ref fl),("results",.ref ra)]
def Xx(cB:Addr):Sp:=fun vs H Q _=>∃(x dx wa fl:Addr),vs=[.ref x,.ref wa,.ref fl]/\H x=some (.ins cB dx [])/\∀H' ra,(∀b u,b≠x->H b=some u->H' b=some u)->H ra=none->H' ra=some (.lst [])->H' x=some (BO cB dx wa fl ra)->Q .non H'
def V3:Sp:=fun vs H Q _=>∃(p:Addr)(v:V)(xs:List V),vs=[.ref p]/\H p=some (.lst (v::xs))/\Q v H
section
variable{P:Program}{w:World}{K:ub}{mg:Str->Option Value}{base:Heap}{f cB:Addr}{fd:FuncData}
theorem QZ:FnScope lS22 lS22 (zo Yt):=.ok
theorem V4(F:Fun K "__init__" "Begun.__init__" Yt f fd)(N:Bn K cB):FnOk P w K mg base CX0 1 f fd lS22 (Xx cB):=by
 refine F.by QZ (fun vs H Q E h=>?_) (fun cdv A outer s H vs Q E hr h=>?_)
 ·obtain⟨x,dx,wa,fl,rfl,_⟩:=h
  rfl
 obtain⟨x,dx,wa,fl,rfl,hx,q⟩:=h
 refine⟨_,(zg (wq (jv 0) (jv 1)) (zg (wq (jv 0) (jv 2)) (zh (wq (jv 0) (zB zD))))),?_⟩
 refine⟨_,rfl,_,rfl,x,cB,dx,_,rfl,hx,N.cl,N.b1,by show 0 < 1000;decide,?_⟩
 refine⟨_,rfl,_,rfl,x,cB,dx,_,rfl,upd_same,N.cl,N.b2,by show 1 < 1000;decide,?_⟩
 refine⟨sN0,fun ra hra=>?_⟩
 have nx:ra≠x:=fun z=>by
  rw[z,upd_same]at hra
  cases hra
 have hra':H ra=none:=by
  rw[zi nx,zi nx]at hra
  exact hra
 refine⟨_,rfl,x,cB,dx,_,rfl,by rw[zi nx.symm];exact upd_same,N.cl,N.b3,by show 2 < 1000;decide,?_⟩
 refine q _ ra (fun b u n e=>?_) hra' (by rw[zi nx];exact upd_same) upd_same
 rw[zi n,zi (zk e hra'),zi n,zi n]
 exact e
theorem zcg:FnScope ["results"] ["results"] (zo VA):=.ok
theorem Q0(F:Fun K "only_one" "only_one" VA f fd):FnOk P w K mg base CX0 1 f fd ["results"] V3:=by
 refine F.by zcg (fun vs H Q E h=>?_) (fun cdv A outer s H vs Q E hr h=>?_)
 ·obtain⟨p,v,xs,rfl,_⟩:=h
  rfl
 obtain⟨p,v,xs,rfl,hp,q⟩:=h
 exact⟨_,(zh (zu (xL 0))),_,rfl,ixL hp aI0 (q)⟩
end
structure En(Tk:Type) where
 bo:Addr
 dx:Addr
 wa:Addr
 ra:Addr
 fl:Addr
 tk:Option Tk
 ts:List Tk
 rs:List V
section
variable{P:Program}{w:World}{K:ub}{mg:Str->Option Value}{base:Heap}{k:Nat}(D:WoD P w K mg base k)(cB fo:Addr)(root:D.Tk)
structure EnOk(H:Hp)(R:Addr->Prop)(e:En D.Tk):Prop where
 o:H e.bo=some (BO cB e.dx e.wa e.fl e.ra)
 nb:¬ D.M e.bo
 w:∃ws,H e.wa=some (.lst ws)/\All2 (D.IT H R) e.ts ws
 Rw:R e.wa
 r:H e.ra=some (.lst e.rs)
 nr:¬ R e.ra
 nM:¬ D.M e.ra
 le:e.rs.length<=e.ts.length
 rr:All2 (D.IR H R) (e.ts.take e.rs.length) e.rs
 fin:match e.tk with
  |none=>e.fl=fo/\e.ts=[root]
  |some t=>D.IF H R t (.ref e.fl)/\e.ts=D.kids t
inductive Lnk:List (En D.Tk)->Prop
 |bot {e:En D.Tk}:e.tk=none->Lnk [e]
 |up {e e':En D.Tk} {es:List (En D.Tk)} {t:D.Tk}:Lnk (e'::es)->e.tk=some t->e'.ts[e'.rs.length]?=some t->Lnk (e::e'::es)
def mlow:List (En D.Tk)->Nat
 |[]=>0
 |e::es=>1+((e.ts.drop (e.rs.length+1)).map D.wt).sum+mlow es
def mall:List (En D.Tk)->Nat
 |[]=>0
 |e::es=>1+((e.ts.drop e.rs.length).map D.wt).sum+mlow D es
theorem ZW:∀es:List (En D.Tk),es.length<=mlow D es
 |[]=>ud _
 |e::es=>by
  unfold mlow
  have:=ZW es
  rw[ul]
  lia
theorem V5(es:List (En D.Tk)):es.length<=mall D es:=by
 cases es with
 |nil=>exact ud _
 |cons e es =>
  unfold mall
  have:=ZW D es
  rw[ul]
  lia
theorem V6:∀ts:List D.Tk,ts.length<=(ts.map D.wt).sum
 |[]=>ud _
 |t::ts=>by
  have:=V6 ts
  have:=D.wk t
  rw[ul,uH,Ur]
  lia
variable{D cB fo root}
theorem EnOk.keep{H H':Hp}{R R':Addr->Prop}{e:En D.Tk}(h:EnOk D cB fo root H R e)(ok:D.Ok H)(z:Kz D.M R H H')(rM:∀b,R b->¬ D.M b)(sub:∀b,R b->R' b)(hr:H' e.ra=some (.lst e.rs))(nr:¬ R' e.ra):EnOk D cB fo root H' R' e:=by
 obtain⟨o,nb,⟨ws,w1,w2⟩,Rw,r,nr',nM,le,rr,fin⟩:=h
 refine⟨z _ _ o nb (by intro xs q;unfold BO at q;cases q),nb,⟨ws,z _ _ w1 (rM _ Rw) (fun _ _=>Rw),w2.imp fun a b q=>D.itk q ok z sub⟩,sub _ Rw,hr,nr,nM,le,rr.imp fun a b q=>D.irk q ok z sub,?_⟩
 cases q:e.tk with
 |none=>rw[q]at fin;exact fin
 |some t=>rw[q]at fin;exact⟨D.ifk fin.1 ok z sub,fin.2⟩
end
def ZX(P:Program)(w:World)(K:ub)(mg:Str->Option Value)(base:Heap)(k:Nat):Sp:=fun vs H Q _=>∃(D:WoD P w K mg base k)(v:V)(root:D.Tk)(R:Addr->Prop),vs=[v,.ref D.fb]/\D.IT H R root v/\D.Ok H/\(∀b,R b->H b≠none)/\(∀b,R b->¬ D.M b)/\D.wt root<=1000000 /\
 ((∃fd,H D.fb=some (FunO D.fb fd))/\¬ D.M D.fb\/uY K (.ref D.fb)=true) /\
 ∀H' v' R',KM D.M H H'->D.Ok H'->(∀b,R' b->¬ D.M b)->D.IR H' R' root v'->Q v' H'
section
variable{P:Program}{w:World}{K:ub}{mg:Str->Option Value}{base:Heap}{f cB fo:Addr}{fd fdo:FuncData}{k:Nat}
theorem scWorked:FnScope ["task","begin","waiting","last","pair","finish","result"] ["task","begin"] (zo j1):=.ok
theorem vK{i:Nat}{t:TA}{σ:St}{H:Hp}{Q:VK}{f:Addr}{vs:List V}(hi:σ[i]?=some (some (.ref f)))(ha:∀R:List V->Hp->Prop,R vs H->t σ H R)(h:CanC P w K mg base k H f vs Q E0):V2 P w K mg base k E0 i t σ H Q:=by
 obtain⟨fd,ps,sp,F,b,q,c⟩:=h
 rcases c with c|c
 ·exact⟨f,hi,.inl ⟨⟨fd,c⟩,ha _ ⟨fd,ps,sp,F,b,c,q⟩⟩⟩
 ·exact⟨f,hi,.inr ⟨c,ha _ ⟨fd,ps,sp,F,b,q⟩⟩⟩
theorem Wm(F:Fun K "worked_out" "worked_out" j1 f fd)(N:Bn K cB)(GB:Ma P w K mg base CX0 1 "Begun" cB lS22 (Xx cB))(GO:FnOk P w K mg base CX0 1 fo fdo ["results"] V3)(bO:Binds K fdo ["results"] [])(kO:uY K (.ref fo)=true)(mO:mg "only_one"=some (.ref fo))(m_len:mg "len"=none)(hk:2<=k):FnOk P w K mg base CX0 (k+1) f fd ["task","begin"] (ZX P w K mg base k):=by
 refine F.by scWorked (fun vs H Q E h=>?_) (fun cdv A outer s H vs Q E hr h=>?_)
 ·obtain⟨D,v,root,R,rfl,_⟩:=h
  rfl
 obtain⟨D,v,root,R0,rfl,hIT,hOk,hR0,hRM0,hwt,hfb,q⟩:=h
 have hr2:Room (1+1) _:=hr.mono (by lia)
 refine⟨_,
  (zg (sE 2 scWorked.nd (zB (jA1 (zaY GB hr2 rfl xi (jA2 (zB (jA1 (jv 0))) (Qr (v:=.ref fo) rfl mO rfl))))))
  (zh (vi PassesOwn.never (wp yC)
   (zg (sE 3 scWorked.nd (xX zH (jv 2) (xC zj)))
   (zh (zy (tN vn (jL m_len (yA (jv 3))) (jL m_len (yA (jv 3))))
    (zg (sE 4 scWorked.nd (ZT hr (jv 1) xi (jA1 (xX zH (yA (jv 3)) (jL m_len (yA (jv 3)))))))
    (zh (zG (yy uA uN uO zK (jv 2) (jA1 (zaY GB hr2 rfl xi (jA2 (xT 4) (xT 4))))))))
    (zg (sE 5 scWorked.nd (yA (jv 3)))
    (zg (sE 6 scWorked.nd (ZT hr (jv 5) xi (jA1 (yA (jv 3)))))
    (zg (zG (Yp uA PySem.F.slot_list_pop PySem.F.type_list_pop Vf (jv 2)))
    (zg (zy (tN zA (jL m_len (jv 2)) zj)
     (zh (zu (jv 6))) zv)
    (zh (zG (yy uA uN uO zK (yA (xX zH (jv 2) (xC zj))) (jA1 (jv 6))))))))))))))),?_⟩
 have sl:=zE
 refine⟨_,rfl,sN1,fun l0 hl0=>?_⟩
 have s0:Same H (upd H l0 (.lst [v])):=fun b u e=>by rw[zi (zk e hl0)];exact e
 have hl0':=upd_same (H:=H) (a:=l0) (o:=.lst [v])
 generalize upd H l0 (.lst [v])=H1 at *
 intro x dx hx hdx nxd
 refine⟨x,dx,l0,fo,rfl,upd_same,fun H2 ra kp hra hra2 hx2=>⟨rfl,sN1,fun wl hwl=>?_⟩⟩
 have hM:∀b,H b=none->¬ D.M b:=fun b e m=>D.okM hOk m e
 have s12:Same H1 H2:=fun b u e=>kp b u (zk e hx) (by rw[zi (zk e hx),zi (zk e hdx)];exact e)
 have s2:Same H H2:=s0.trans s12
 have s3:Same H (upd H2 wl (.lst [.ref x])):=s2.new hwl
 have nra:ra≠x:=fun z=>by
  rw[z,upd_same]at hra
  cases hra
 have nrd:ra≠dx:=fun z=>by
  rw[z,zi nxd,upd_same]at hra
  cases hra
 have hra1:H1 ra=none:=by
  rw[zi nra,zi nrd]at hra
  exact hra
 have hra0:H ra=none:=s0.free hra1
 have hx0:H x=none:=s0.free hx
 have nl0:l0≠ra:=zk hl0' hra1
 have nwr:ra≠wl:=zk hra2 hwl
 have nwx:x≠wl:=zk hx2 hwl
 have nwl:l0≠wl:=zk (s12 _ _ hl0') hwl
 have hwl0:H wl=none:=s2.free hwl
 refine⟨fun m σ H'=>∃(es:List (En D.Tk))(R:Addr->Prop)(y3 y4 y5 y6:Option V),m=mall D es/\σ=[some v,some (.ref D.fb),some (.ref wl),y3,y4,y5,y6]/\KM D.M H H'/\D.Ok H'/\H' wl=some (.lst (es.reverse.map fun e=>V.ref e.bo))/\¬ R wl/\(∀e∈es,EnOk D cB fo root H' R e)/\(∀e∈es,H e.ra=none)/\Lnk D es/\(∀b,R b->H' b≠none)/\(∀b,R b->¬ D.M b)/\(wl::es.map (·.ra)).Nodup/\mall D es<=D.wt root+1/\(∀e∈es,e.ts.length<=1000000),
  ⟨_,[⟨x,dx,l0,ra,fo,none,[root],[]⟩],(fun b=>R0 b\/b=l0),none,none,none,none,rfl,rfl,.of s3,D.okk hOk (fun b u e _=>s3 b u e),upd_same,?_,?_,?_,.bot rfl,?_,?_,?_,?_,?_⟩,?_⟩
 ·rintro(z|z)
  ·exact hR0 _ z hwl0
  ·exact nwl z.symm
 ·intro e he
  rw[ui.mp he]
  refine⟨by rw[zi nwx];exact hx2,hM _ hx0,⟨[v],by rw[zi nwl];exact s12 _ _ hl0',.cons (D.itk hIT hOk (fun b u e _ _=>s3 b u e) fun b z=>.inl z) .nil⟩,.inr rfl,by rw[zi nwr];exact hra2,?_,hM _ hra0,uX _,.nil,rfl,rfl⟩
  rintro(z|z)
  ·exact hR0 _ z hra0
  ·exact nl0 z.symm
 ·intro e he
  rw[ui.mp he]
  exact hra0
 ·rintro b (z|z)
  ·cases e:H b with
   |none=>exact absurd e (hR0 b z)
   |some u=>rw[s3 b u e];simp
  ·rw[z,zi nwl,s12 _ _ hl0'];simp
 ·rintro b (z|z)
  ·exact hRM0 b z
  ·rw[z];exact hM _ hl0
 ·show[wl,ra].Nodup
  simp[nwr.symm]
 ·unfold mall mlow
  simp
  lia
 ·intro e he
  rw[ui.mp he]
  show 1<=1000000
  decide
 rintro m σ Ha ⟨es,R,y3,y4,y5,y6,rfl,rfl,kHa,okA,hwlA,nRw,hes,hra,lk,hRd,hRM,nd,hms,hln⟩
 refine⟨_,rfl,iteT ⟨_,fun _ _ h=>h,?_⟩⟩
 refine cutR (fun D_ rt_ fin=>?_) (fun _ _ h=>h)
 have hMA:∀b,Ha b=none->¬ D.M b:=fun b e m=>D.okM okA m e
 have mwl:¬ D.M wl:=hM _ hwl0
 cases es with
 |nil=>cases lk
 |cons e es =>
 have he:=hes e (.head _)
 have eo:=he.o
 obtain⟨ws,hw,hIT'⟩:=he.w
 have wlen:=hIT'.len
 have els:((e::es).reverse.map fun e=>V.ref e.bo)=(es.reverse.map fun e=>V.ref e.bo)++[.ref e.bo]:=by simp
 rw[els]at hwlA
 have elen:=V5 D (e::es)
 rw[ul]at elen
 have dr:∀t,e.ts[e.rs.length]?=some t->e.ts.drop e.rs.length=t::e.ts.drop (e.rs.length+1):=fun t ht=>(List.drop_eq_getElem_cons (uc.mp ht).1).trans (by rw[(uc.mp ht).2])
 refine⟨_,rfl,_,rfl,wl,_,_,_,rfl,rfl,SqL.of hwlA,Zv _ _,?_⟩
 refine⟨_,rfl,e.bo,cB,e.dx,_,_,rfl,eo,N.cl,N.b3,rfl,_,_,rfl,.inl (SqL.of he.r),_,rfl,e.bo,cB,e.dx,_,_,rfl,eo,N.cl,N.b1,rfl,_,_,rfl,.inl (SqL.of hw),_,_,rfl,rfl,_,rfl,?_⟩
 refine ite2 (fun c=>?_) (fun c=>?_)
 ·rw[decide_eq_true_eq]at c
  have c:e.rs.length < ws.length:=by lia
  obtain⟨t,ht,hIt⟩:=hIT'.get (uk c)
  refine vK rfl (fun R h=>⟨_,rfl,e.bo,cB,e.dx,_,_,rfl,eo,N.cl,N.b1,rfl,_,rfl,e.bo,cB,e.dx,_,_,rfl,eo,N.cl,N.b3,rfl,_,_,rfl,.inl (SqL.of he.r),_,_,_,_,rfl,rfl,SqL.of hw,zP (uk c),h⟩) (D.beg hIt okA hRd hRM fun Hb pq l fl vs R' kB okB hq hl hlB sub sub' dom' Rl hks hfin=>?_)
  refine⟨_,rfl,.inl ⟨rfl,_,SqL.of (kB _ _ mwl hwlA)⟩,_,rfl,ixT hq aI0 ⟨_,rfl,ixT hq aI1 (fun x' dx' hx' hdx' nxd'=>?_)⟩⟩
  refine⟨x',dx',l,fl,rfl,upd_same,fun Hc rb kp' hrb hrb2 hxc=>⟨rfl,?_⟩⟩
  have sbc:Same Hb Hc:=fun b u e=>kp' b u (zk e hx') (by rw[zi (zk e hx'),zi (zk e hdx')];exact e)
  have nrx:rb≠x':=fun z=>by
   rw[z,upd_same]at hrb
   cases hrb
  have nrd':rb≠dx':=fun z=>by
   rw[z,zi nxd',upd_same]at hrb
   cases hrb
  have hrbB:Hb rb=none:=by
   rw[zi nrx,zi nrd']at hrb
   exact hrb
  have okC:D.Ok Hc:=D.okk okB fun b u e _=>sbc b u e
  have hMB:∀b,Hb b=none->¬ D.M b:=fun b e m=>D.okM okB m e
  have hwlC:Hc wl=some (.lst ((es.reverse.map fun e=>V.ref e.bo)++[.ref e.bo])):=sbc _ _ (kB _ _ mwl hwlA)
  refine⟨wl,_,_,rfl,rfl,hwlC,by rw[uf,ua,Uk];show es.length+1 < _;lia,?_⟩
  have nR'w:¬ R' wl:=fun z=>by
   rcases sub' _ z with z|z
   ·exact nRw z
   ·rw[hwlA]at z;cases z
  have kzA:Kz D.M R Ha (upd Hc wl (.lst ((es.reverse.map fun e=>V.ref e.bo)++[.ref e.bo]++[.ref x']))):=fun b u q1 q2 q3=>by
   rw[zi]
   ·exact sbc _ _ (kB _ _ q2 q1)
   ·intro z
    rw[z,hwlA]at q1
    cases q1
    rw[z]at q3
    exact nRw (q3 _ rfl)
  have kzB:Kz D.M R' Hb (upd Hc wl (.lst ((es.reverse.map fun e=>V.ref e.bo)++[.ref e.bo]++[.ref x']))):=fun b u q1 q2 q3=>by
   rw[zi]
   ·exact sbc _ _ q1
   ·intro z
    rw[z,kB _ _ mwl hwlA]at q1
    cases q1
    rw[z]at q3
    exact nR'w (q3 _ rfl)
  have nx':x'≠wl:=zk (by exact kB _ _ mwl hwlA) hx' |>.symm
  have nrb:rb≠wl:=(zk (kB _ _ mwl hwlA) hrbB).symm
  have nl:l≠wl:=fun z=>nR'w (z ▸ Rl)
  have nolds:∀e'∈e::es,Hc e'.ra=some (.lst e'.rs)/\e'.ra≠wl/\¬ R' e'.ra:=fun e' he'=>by
   have h':=hes e' he'
   refine⟨sbc _ _ (kB _ _ h'.nM h'.r),fun z=>?_,fun z=>?_⟩
   ·have:=(Ub.mp nd).1
    exact this (z ▸ uC.mpr ⟨e',he',rfl⟩)
   ·rcases sub' _ z with z|z
    ·exact h'.nr z
    ·rw[h'.r]at z;cases z
  refine fin _ _ ⟨_,?_,⟨x',dx',l,rb,fl,some t,D.kids t,[]⟩ :: e::es,R',_,_,_,_,rfl,rfl,?_,D.okk okC ?_,?_,nR'w,?_,?_,.up lk rfl ht,?_,?_,?_,?_,?_⟩
  ·show 1+(((D.kids t).drop 0).map D.wt).sum+mlow D (e::es) < 1+((e.ts.drop e.rs.length).map D.wt).sum+mlow D es
   rw[dr t ht]
   have:=D.wk t
   rw[show mlow D (e::es)=1+((e.ts.drop (e.rs.length+1)).map D.wt).sum+mlow D es from rfl]
   simp only[List.drop_zero,uH,Ur]
   lia
  ·exact((kHa.trans kB).trans (.of sbc)).put hwl0
  ·intro b u q1 q2
   rw[zi]
   ·exact q1
   ·intro z
    rw[z,hwlC]at q1
    cases q1
    rw[z]at q2
    exact mwl (q2 _ rfl)
  ·rw[upd_same]
   simp
  ·intro e' he'
   rcases um.mp he' with rfl|he'
   ·exact⟨by rw[zi nx'];exact hxc,hMB _ hx',⟨vs,by rw[zi nl];exact sbc _ _ hlB,hks.imp fun a b q=>D.itk q okB kzB fun _ z=>z⟩,Rl,by rw[zi nrb];exact hrb2,fun z=>dom' _ z hrbB,hMB _ hrbB,uX _,.nil,D.ifk hfin okB kzB fun _ z=>z,rfl⟩
   ·obtain⟨n1,n2,n3⟩:=nolds e' he'
    exact(hes e' he').keep okA kzA hRM sub (by rw[zi n2];exact n1) n3
  ·intro e' he'
   rcases um.mp he' with rfl|he'
   ·exact(kHa.trans kB).free (hMB _ hrbB) hrbB
   ·exact hra e' he'
  ·intro b z
   by_cases hb:b=wl
   ·rw[hb,upd_same];simp
   ·rw[zi hb]
    cases q:Hb b with
    |none=>exact absurd q (dom' b z)
    |some u=>rw[sbc _ _ q];simp
  ·intro b z
   rcases sub' b z with z|z
   ·exact hRM b z
   ·exact hMA b z
  ·rw[uH,Ub]at *
   refine⟨fun z=>?_,Ub.mpr ⟨fun z=>?_,nd.2⟩⟩
   ·rcases um.mp z with z|z
    ·exact nrb z.symm
    ·exact nd.1 z
   ·obtain⟨e',he',z⟩:=uC.mp z
    have:=kB _ _ (hes e' he').nM (hes e' he').r
    rw[z,hrbB]at this
    cases this
  ·refine Ua ?_ hms
   show 1+(((D.kids t).drop 0).map D.wt).sum+mlow D (e::es)<=1+((e.ts.drop e.rs.length).map D.wt).sum+mlow D es
   rw[dr t ht]
   have:=D.wk t
   rw[show mlow D (e::es)=1+((e.ts.drop (e.rs.length+1)).map D.wt).sum+mlow D es from rfl]
   simp only[List.drop_zero,uH,Ur]
   lia
  ·intro e' he'
   rcases um.mp he' with rfl|he'
   ·have h1:=D.wk t
    have h2:D.wt t<=mall D (e::es):=by
     show _<=1+((e.ts.drop e.rs.length).map D.wt).sum+mlow D es
     rw[dr t ht,uH,Ur]
     lia
    have h3:=V6 D (D.kids t)
    show(D.kids t).length<=1000000
    lia
   ·exact hln e' he'
 ·have c:¬ e.rs.length < ws.length:=fun z=>c (decide_eq_true (by lia))
  have le:=he.le
  have rr:=he.rr
  rw[uj (by lia)]at rr
  refine⟨_,rfl,e.bo,cB,e.dx,_,_,rfl,eo,N.cl,N.b2,rfl,?_⟩
  have pop:∀{Hb:Hp},Hb wl=some (.lst ((es.reverse.map fun e=>V.ref e.bo)++[.ref e.bo]))->∀{Q:VK},Q (.ref e.bo) (upd Hb wl (.lst (es.reverse.map fun e=>V.ref e.bo)))->rPop (.ref wl) [] Hb Q:=fun h Q q=>⟨wl,_,.ref e.bo,rfl,rfl,h,by simp,by rw[List.dropLast_concat];exact q⟩
  cases htk:e.tk with
  |none =>
   have fin:=he.fin
   rw[htk]at fin
   obtain⟨e1,e2⟩:=fin
   have es0:es=[]:=by
    cases lk with
    |bot _=>rfl
    |up _ q _=>rw[htk]at q;cases q
   subst es0
   rw[e2]at rr
   have hrs:=he.r
   generalize e.rs=rs at *
   cases rr with
   |cons hv hn =>
   cases hn
   rw[e1]
   refine vK rfl (fun R h=>⟨_,rfl,e.bo,cB,e.dx,_,_,rfl,eo,N.cl,N.b3,rfl,h⟩) ⟨fdo,_,_,GO.mono (by lia),bO,⟨e.ra,_,[],rfl,hrs,?_⟩,.inr kO⟩
   refine⟨_,rfl,.inl ⟨rfl,_,SqL.of hwlA⟩,pop hwlA ?_⟩
   refine⟨_,rfl,_,_,rfl,.inl (SqL.of upd_same),rfl,_,rfl,iteT ⟨_,rfl,?_⟩⟩
   rw[rt_]
   refine q _ _ R (kHa.put hwl0) (D.okk okA fun b u q1 q2=>?_) hRM (D.irk hv okA (fun b u q1 q2 q3=>?_) fun _ z=>z)
   ·rw[zi]
    ·exact q1
    ·intro z
     rw[z,hwlA]at q1
     cases q1
     rw[z]at q2
     exact mwl (q2 _ rfl)
   ·rw[zi]
    ·exact q1
    ·intro z
     rw[z,hwlA]at q1
     cases q1
     rw[z]at q3
     exact nRw (q3 _ rfl)
  |some t =>
   have fin:=he.fin
   rw[htk]at fin
   obtain⟨e1,e2⟩:=fin
   rw[e2]at rr
   cases lk with
   |bot q=>rw[htk]at q;cases q
   |@up _ e' es' t' lk' q ht' =>
   rw[htk]at q
   cases q
   have he':=hes e' (.tail _ (.head _))
   have ndA:=nd
   rw[uH,uH,Ub,Ub,Ub]at ndA
   obtain⟨nd1,nd2,nd3,nd4⟩:=ndA
   have nwe:e.ra≠wl:=fun z=>nd1 (z ▸ .head _)
   have nwe':e'.ra≠wl:=fun z=>nd1 (z ▸ .tail _ (.head _))
   have nee':e'.ra≠e.ra:=fun z=>nd2 (z ▸ .head _)
   have kzR:Kz D.M R Ha Ha:=fun b u q _ _=>q
   refine vK rfl (fun R h=>⟨_,rfl,e.bo,cB,e.dx,_,_,rfl,eo,N.cl,N.b3,rfl,h⟩) (D.fin (R:=fun b=>R b\/b=e.ra) (D.ifk e1 okA kzR fun _ z=>.inl z) okA ?_ ?_ (.inr rfl) he.r (rr.imp fun a b q=>D.irk q okA kzR fun _ z=>.inl z) fun Hb rv R' kB okB sub sub' dom' hIR=>?_)
   ·rintro b (z|z)
    ·exact hRd b z
    ·rw[z,he.r];simp
   ·rintro b (z|z)
    ·exact hRM b z
    ·rw[z];exact he.nM
   have hwlB:=kB _ _ mwl hwlA
   have heB:=kB _ _ he'.nM he'.r
   have hoB:=kB _ _ he'.nb he'.o
   have no':e'.bo≠wl:=yN hoB hwlB (by unfold BO;intro z;cases z)
   refine⟨_,rfl,.inl ⟨rfl,_,SqL.of hwlB⟩,pop hwlB ?_⟩
   have els':((e'::es').reverse.map fun e=>V.ref e.bo)=(es'.reverse.map fun e=>V.ref e.bo)++[.ref e'.bo]:=by simp
   rw[els']
   refine⟨_,rfl,_,_,rfl,.inl (SqL.of upd_same),rfl,_,rfl,iteN ?_ ?_⟩
   ·rw[uf]
    exact decide_eq_false (by intro z;have:=V.int.inj z;simp at this;lia)
   refine⟨_,rfl,_,rfl,wl,_,_,_,rfl,rfl,SqL.of upd_same,Zv _ _,e'.bo,cB,e'.dx,_,.ref e'.ra,rfl,by rw[zi no'];exact hoB,N.cl,N.b3,rfl,.inl ⟨rfl,_,SqL.of (by rw[zi nwe'];exact heB)⟩,_,rfl,e'.ra,_,_,rfl,rfl,by rw[zi nwe'];exact heB,?_,?_⟩
   ·have:=(uc.mp ht').1
    have:=hln e' (.tail _ (.head _))
    lia
   have nR'w:¬ R' wl:=fun z=>by
    rcases sub' _ z with(z|z)|z
    ·exact nRw z
    ·exact nwe z.symm
    ·rw[hwlA]at z;cases z
   have nR':∀e1∈e'::es',¬ R' e1.ra:=fun e1 h1 z=>by
    rcases sub' _ z with(z|z)|z
    ·exact(hes e1 (.tail _ h1)).nr z
    ·exact nd2 (z ▸ uC.mpr ⟨e1,h1,rfl⟩)
    ·rw[(hes e1 (.tail _ h1)).r]at z;cases z
   have kzB:Kz D.M R' Hb (upd (upd Hb wl (.lst ((es'.reverse.map fun e=>V.ref e.bo)++[.ref e'.bo]))) e'.ra (.lst (e'.rs++[rv]))):=fun b u q1 q2 q3=>by
    have n1:b≠e'.ra:=fun z=>by
     rw[z,heB]at q1
     cases q1
     rw[z]at q3
     exact nR' e' (.head _) (q3 _ rfl)
    have n2:b≠wl:=fun z=>by
     rw[z,hwlB]at q1
     cases q1
     rw[z]at q3
     exact nR'w (q3 _ rfl)
    rw[zi n1,zi n2]
    exact q1
   have kzA:Kz D.M R Ha (upd (upd Hb wl (.lst ((es'.reverse.map fun e=>V.ref e.bo)++[.ref e'.bo]))) e'.ra (.lst (e'.rs++[rv]))):=fun b u q1 q2 q3=>kzB b u (kB _ _ q2 q1) q2 fun xs z=>sub _ (.inl (q3 xs z))
   have subR:∀b,R b->R' b:=fun b z=>sub _ (.inl z)
   refine fin _ _ ⟨_,?_,{ e' with rs:=e'.rs++[rv] } :: es',R',_,_,_,_,rfl,rfl,((kHa.trans kB).put hwl0).put (hra e' (.tail _ (.head _))),D.okk okB ?_,?_,nR'w,?_,?_,?_,?_,?_,?_,?_,?_⟩
   ·show 1+((e'.ts.drop (e'.rs++[rv]).length).map D.wt).sum+mlow D es' < 1+((e.ts.drop e.rs.length).map D.wt).sum+(1+((e'.ts.drop (e'.rs.length+1)).map D.wt).sum+mlow D es')
    rw[uf,uU]
    lia
   ·intro b u q1 q2
    have n1:b≠e'.ra:=fun z=>by
     rw[z,heB]at q1
     cases q1
     rw[z]at q2
     exact he'.nM (q2 _ rfl)
    have n2:b≠wl:=fun z=>by
     rw[z,hwlB]at q1
     cases q1
     rw[z]at q2
     exact mwl (q2 _ rfl)
    rw[zi n1,zi n2]
    exact q1
   ·rw[zi nwe'.symm,upd_same]
    simp
   ·intro e1 h1
    rcases um.mp h1 with rfl|h1
    ·obtain⟨o,nb,⟨ws',w1,w2⟩,Rw,r,nr',nM,le',rr',fin⟩:=he'
     refine⟨kzA _ _ o nb (by intro xs q;unfold BO at q;cases q),nb,⟨ws',kzA _ _ w1 (hRM _ Rw) (fun _ _=>Rw),w2.imp fun a b q=>D.itk q okA kzA subR⟩,subR _ Rw,upd_same,nR' e' (.head _),nM,?_,?_,?_⟩
     ·show(e'.rs++[rv]).length<=_
      rw[uf,uU]
      exact(uc.mp ht').1
     ·show All2 _ (e'.ts.take (e'.rs++[rv]).length) (e'.rs++[rv])
      rw[uf,uU,uv,ht']
      exact(rr'.imp fun a b q=>D.irk q okA kzA subR).app (.cons (D.irk hIR okB kzB fun _ z=>z) .nil)
     ·show(match e'.tk with|none=>_|some t=>_)
      cases q:e'.tk with
      |none=>rw[q]at fin;exact fin
      |some t=>rw[q]at fin;exact⟨D.ifk fin.1 okA kzA subR,fin.2⟩
    ·have h1':=hes e1 (.tail _ (.tail _ h1))
     have m1:e1.ra≠e'.ra:=fun z=>nd3 (z ▸ uC.mpr ⟨e1,h1,rfl⟩)
     have m2:e1.ra≠wl:=fun z=>nd1 (z ▸ .tail _ (.tail _ (uC.mpr ⟨e1,h1,rfl⟩)))
     exact h1'.keep okA kzA hRM subR (by rw[zi m1,zi m2];exact kB _ _ h1'.nM h1'.r) (nR' e1 (.tail _ h1))
   ·intro e1 h1
    rcases um.mp h1 with rfl|h1
    ·exact hra e' (.tail _ (.head _))
    ·exact hra e1 (.tail _ (.tail _ h1))
   ·cases lk' with
    |bot q=>exact .bot q
    |up a b c=>exact .up a b c
   ·intro b z
    have:=dom' b z
    unfold upd
    split
    ·simp
    ·split
     ·simp
     ·exact this
   ·intro b z
    rcases sub' b z with(z|z)|z
    ·exact hRM b z
    ·rw[z];exact he.nM
    ·exact hMA b z
   ·exact Ub.mpr ⟨fun z=>nd1 (.tail _ z),Ub.mpr ⟨nd3,nd4⟩⟩
   ·refine Ua ?_ hms
    show 1+((e'.ts.drop (e'.rs++[rv]).length).map D.wt).sum+mlow D es'<=1+((e.ts.drop e.rs.length).map D.wt).sum+(1+((e'.ts.drop (e'.rs.length+1)).map D.wt).sum+mlow D es')
    rw[uf,uU]
    lia
   ·intro e1 h1
    rcases um.mp h1 with rfl|h1
    ·exact hln e' (.tail _ (.head _))
    ·exact hln e1 (.tail _ (.tail _ h1))
end
end GN
namespace HT
open PySem PySem.Spec PyProof.Rows
section
variable{prog:Program}{w:World}{A:Around}{s:Shared}{E:Value->Shared->Prop}
theorem getItem_tuple_whole{t sl:Addr}{items:Array Value}{vl vu:Value}{lo hi:Option Int}{Q:Value->Shared->Prop}(ht:IsTup s.heap t items)(hs:s.heap.IsSliceOf sl vl vu .none)(pl:IsPart vl lo)(pu:IsPart vu hi)
  (hw:sIx items.size 0 lo=0/\sIx items.size items.size hi=items.size) (h:Q (.ref t) s):wpAny (model prog w) A (getItem (.ref t) (.ref sl)) Q E s:=by
 obtain⟨os,hos,hcs,hds⟩:=id hs
 have hTs:s.TypeIs (.ref sl) "slice":=⟨os,hos,hcs⟩
 unfold getItem
 try with_reducible refine wpAny_holding ?_
 first|refine wpAny_bind (wpAny_pure ?_)|skip
 refine wpAny_bind (wpAny_sequenceKey ht.typeIs (by decide) ?_)
 refine wpAny_bind (wpAny_callSpecial?_slot (name:=Str.ofString "__getitem__") ht.typeIs Uj
  (wpAny_call_entry Uj ht.typeIs entry_tuple_getitem ?_ (args_tuple_getitem _ _)))
 show wpAny _ _ (Builtin.Tuple.tupleItemsOf (.ref t) >>= _) _ _ s
 refine wpAny_bind (tupleItemsOf_ ht ?_)
 refine wpAny_bind (wpAny_typeOf hTs ?_)
 rw[if_pos (by decide)]
 refine wpAny_bind (yU hs pl pu ?_)
 have hyes:(((sIx items.size 0 lo:Nat):Int) == 0 && (1:Int) == 1 && (sIx items.size items.size hi-sIx items.size 0 lo) == items.size)=true:=by
  rw[hw.1,hw.2]
  simp
 show wpAny _ _ (if(((sIx items.size 0 lo:Nat):Int) == 0 && (1:Int) == 1 && (sIx items.size items.size hi-sIx items.size 0 lo) == items.size)=true then _ else _) _ _ s
 rw[if_pos hyes]
 have hx:wpAny (model prog w) A.in1 (Builtin.Tuple.tupleIsExact (.ref t)) (fun b s'=>b=true/\s'=s) (fun _ _=>False) s:=by
  unfold Builtin.Tuple.tupleIsExact
  exact wpAny_bind (wpAny_typeOf ht.typeIs (wpAny_pure ⟨by decide,rfl⟩))
 refine wpAny_bind (wpAny_mono hx (fun b s' q=>?_) fun _ _ z=>z.elim)
 obtain⟨rfl,rfl⟩:=q
 rw[if_pos rfl]
 exact wpAny_bind (wpAny_rule (wpAny_pure ⟨_,rfl,wpAny_pure h⟩))
end
end HT
namespace L2
open PySem PySem.Spec PyProof.Rows
def rSlW(K:ub):V->Option Int->Option Int->Hp->VK->Prop:=fun x lo hi H Q=>∃a xs,x=.ref a/\SqT K H a xs /\
 (cutV xs lo hi=xs->Q (.ref a) H)/\∀p,H p=none->Q (.ref p) (upd H p (.tup (cutV xs lo hi)))
section
variable{X:Cx}
theorem Q2:SlR X (rSlW X.K):=by
 intro pins s σ H x v vl vu lo hi sl Q I rx hs pl pu h
 obtain⟨a,xs,rfl,hx,q1,q⟩:=h
 by_cases hw:HT.sIx xs.length 0 lo=0/\HT.sIx xs.length xs.length hi=xs.length
 ·cases rx
  obtain⟨its,r,ht,hz⟩:=I.tuple hx
  have hlen:its.toArray.size=xs.length:=by rw[ut];exact r.length.symm
  refine⟨"tuple",_,Uj.lookup,ht.typeIs,?_⟩
  refine HT.getItem_tuple_whole ht hs pl pu (by rw[hlen];exact hw) ⟨.ref a,H,I,rfl,q1 ?_⟩
  unfold cutV
  rw[hw.1,hw.2]
  simp
 ·exact zbI pins s σ H (.ref a) v vl vu lo hi sl Q I rx hs pl pu ⟨a,xs,rfl,hx,hw,q⟩
def rSlO:V->Option Int->Option Int->Hp->VK->Prop:=fun x lo hi H Q=>∃a xs,x=.ref a/\H a=some (.tup xs)/\∀p H',(∀b o,H b=some o->H' b=some o)->H' p=some (.tup (cutV xs lo hi))->Q (.ref p) H'
theorem Q3:SlR X rSlO:=by
 intro pins s σ H x v vl vu lo hi sl Q I rx hs pl pu h
 obtain⟨a,xs,rfl,hx,q⟩:=h
 refine Q2 pins s σ H (.ref a) v vl vu lo hi sl Q I rx hs pl pu ⟨a,xs,rfl,SqT.of hx,fun e=>q a H (fun _ _ z=>z) (by rw[e];exact hx),fun p hp=>q p _ (fun b o z=>?_) upd_same⟩
 rw[zi (zk z hp)]
 exact z
theorem wX:jSl X rSlO:=⟨Q3⟩
end
section
variable{prog:Program}{w:World}{A:Around}{E:Value->Shared->Prop}
end
inductive TyN(H:Hp):V->Bool->Prop where
 |int (i:Int):TyN H (.int i) false
 |str (z:Str):TyN H (.str z) false
 |bl (b:Bool):TyN H (.bl b) false
 |non:TyN H .non false
 |lst {a:Addr} {xs:List V} (e:H a=some (.lst xs)):TyN H (.ref a) true
 |tup {a:Addr} {xs:List V} (e:H a=some (.tup xs)):TyN H (.ref a) true
section
variable{X:Cx}
variable{CX:CXT}{k:Nat}{C:Addr}{ps:List Str}{sp:Sp}{E:XK}{x m:Str}{p pos apos:Pos}{e o:Expr}{es:List Expr}{ta:TE}{t:TA}
theorem zch(F:Ma X.prog X.w X.K X.mg X.base CX k x C ps sp)(hr:Room (k+1) X.A)(hg:Gl X x)(hx:yt CX X E)(hdb:(x == ("__debug__":Str))=false:=by decide):
  jE X (.Call (.Name x p) [] [] pos) (Y6 C sp [] E tNil):=let ⟨_,_,M,G,b,mg⟩:=F.ex;⟨WX M G hr hg mg b .nil hx hdb⟩
theorem Xy{o i:Expr}{td ty:TE}{pos:Pos}(hr:Room k X.A)(ho:jE X o td)(hi:jE X i ty)(hs:NoSl i:=by intro _ _;rfl):jE X (.Subscript o i pos) (za1 td ty):=⟨QD (Zy hr) ho.out hi.out hs⟩
theorem vL{o e f:Expr}{td ty tx:TE}{apos cpos:Pos}(hr:Room k X.A)(ho:jE X o td)(he:jE X e ty)(hf:jE X f tx)(m:M2 X o "get" apos e f cpos:=by exact⟨rfl,rfl,rfl,rfl⟩):jE X (.Call (.Attribute o "get" apos) [e,f] [] cpos) (Vx td ty tx):=⟨Vy (Zy hr) ho.out he.out hf.out m⟩
end
section
variable{g:TG}{tt:TT}{te:TE}{Q:VK}{σ:St}{H:Hp}
end
end L2
namespace L2
open PySem
section
variable{X:Cx}{a:Expr}{ta:TE}{pos:Pos}
theorem YL:jOp X (binaryOp .BitOr) (rI0 fun i j=>.int (Builtin.bitOr i j)):=⟨zcM⟩
theorem Q4:jOp X (binaryOp .BitAnd) (rI0 fun i j=>.int (Builtin.bitAnd i j)):=⟨zbz⟩
theorem zci(ha:jE X a ta):jE X (.UnaryOp .Invert a pos) (tUn (rU fun i=>.int (Builtin.bitNot i)) ta):=⟨zaM zbB ha.out⟩
end
end L2
namespace GN
open PySem L2 K11
def V7:Sp:=fun vs H Q _=>∃(p:Addr)(ns:List Str),vs=[.ref p]/\H p=some (.lst (ns.map V.str))/\ns.Nodup/\ns.length<=1000/\∀(H':Hp)(d:Addr),Same H H'->H d=none->H' d=some (.dK (yw ns 1))->Q (.ref d) H'
def za4:Sp:=fun vs H Q _=>∃(p d:Addr)(xs ns:List Str),vs=[.ref p,.ref d]/\H p=some (.tup (xs.map V.str))/\H d=some (.dK (yw ns 1))/\Q (.int ((tog ns xs:Nat):Int)) H
def jp:Sp:=fun vs H Q _=>∃(p:Addr)(d:De),vs=[.ref p]/\IsDe H d p/\∀(H':Hp)(q:Addr),Same H H'->H' q=some (.tup (d.uses.map V.str))->Q (.ref q) H'
def V8:Sp:=fun vs H Q _=>∃(p:Addr)(b:Bd),vs=[.ref p]/\IsB H b p/\∀(H':Hp)(q:Addr),Same H H'->H' q=some (.tup (b.used.map V.str))->Q (.ref q) H'
theorem Wn{ns:List Str}{x:Str}{b:Nat}(h:x∉ns):putK (yw ns b) (.inr x) (.int ((b*2 ^ ns.length:Nat):Int))=yw (ns++[x]) b:=by
 unfold putK
 rw[xj,wB,if_neg h,if_neg (by simp),jn]
theorem V9{ns xs:List Str}{i:Nat}{x:Str}(h:xs[i]?=some x):tog ns (xs.take (i+1))=tog ns (xs.take i) ||| bitN ns x:=by
 unfold tog
 rw[uv,h,UQ]
 rfl
section
variable{P:Program}{w:World}{K:ub}{mg:Str->Option Value}{base:Heap}{f:Addr}{fd:FuncData}
theorem scBits:FnScope ["names","bits","bit","name"] ["names"] (zo VB):=.ok
theorem Q5(F:Fun K "bits_of" "bits_of" VB f fd):FnOk P w K mg base CX0 1 f fd ["names"] V7:=by
 refine F.by scBits (fun vs H Q E h=>?_) (fun cdv A outer s H vs Q E hr h=>?_)
 ·obtain⟨p,ns,rfl,_⟩:=h
  rfl
 obtain⟨p,ns,rfl,hp,nd,hl,q⟩:=h
 refine⟨_,
  (zg (sE 1 scBits.nd vw)
  (zg (sE 2 scBits.nd zj)
  (zg (zJ PassesOwn.never rfl (zF (jv 0)) (gN 3 scBits.nd)
   (zg (xv hr (jv 1) (jv 3) (jv 2)) (zh (sE 2 scBits.nd (zx zW (jv 2) (jv 2))))))
  (zh (zu (jv 1)))))),?_⟩
 have sl:=zE
 intro d hd
 have s1:=zn (o:=.dK []) hd
 have npd:p≠d:=zk hp hd
 refine⟨_,rfl,p,rfl,⟨_,SqL.of (s1 _ _ hp)⟩,yn (xs:=ns.map V.str) (fun i σ H'=>Same H H'/\H' d=some (.dK (yw (ns.take i) 1))/\∃z,σ=[some (.ref p),some (.ref d),some (.int ((2 ^ i:Nat):Int)),z]) ⟨s1,upd_same,none,rfl⟩ (fun i σ H' _ h=>SqL.of (h.1 _ _ hp)) ?_ ?_⟩
 ·rintro i v σ H1 hv ⟨s2,hd2,z,rfl⟩
  rw[ue]at hv
  obtain⟨x,hx,rfl⟩:=uh.mp hv
  have hi:=(uc.mp hx).1
  have hnx:x∉ns.take i:=fun hm=>by
   obtain⟨j,hj⟩:=UD.mp hm
   have hj':j < i:=by
    have:=(uc.mp hj).1
    rw[uD]at this
    lia
   rw[List.getElem?_take_of_lt hj']at hj
   have:=(List.getElem?_inj (uc.mp hj).1 nd).mp (hj.trans hx.symm)
   lia
  have tl:(ns.take i).length=i:=by rw[uD];lia
  have e:=Wn (b:=1) hnx
  rw[tl,Nat.one_mul]at e
  refine⟨_,rfl,_,rfl,_,rfl,d,_,rfl,DPut.k (k:=.inr x) hd2 (by rw[jo,tl];lia),?_⟩
  refine⟨_,rfl,_,rfl,_,_,rfl,rfl,s2.put hd,?_,some (.str x),?_⟩
  ·rw[upd_same,e,uv,hx]
   rfl
  ·show[_,_,some (V.int (_+_)),_]=_
   rw[<- Int.natCast_add,<- Nat.two_mul,Nat.mul_comm,<- Nat.pow_succ]
 ·rintro σ H1 ⟨s2,hd2,z,rfl⟩
  rw[ua,uj (ud _)]at hd2
  exact⟨_,rfl,q _ d s2 hd hd2⟩
theorem scTog:FnScope ["names","bits","found","name"] ["names","bits"] (zo sTog):=.ok
theorem zcj(F:Fun K "together" "together" sTog f fd):FnOk P w K mg base CX0 1 f fd ["names","bits"] za4:=by
 refine F.by scTog (fun vs H Q E h=>?_) (fun cdv A outer s H vs Q E hr h=>?_)
 ·obtain⟨p,d,xs,ns,rfl,_⟩:=h
  rfl
 obtain⟨p,d,xs,ns,rfl,hp,hd,q⟩:=h
 refine⟨_,
  (zg (sE 2 scTog.nd zj)
  (zg (zJ PassesOwn.never rfl (yK (jv 0)) (gN 3 scTog.nd)
   (zh (sE 2 scTog.nd (zx YL (jv 2) (vL hr (jv 1) (jv 3) zj)))))
  (zh (zu (jv 2))))),?_⟩
 refine⟨_,rfl,p,rfl,⟨_,SqT.of hp⟩,yO (xs:=xs.map V.str) (fun i σ H'=>H=H'/\∃z,σ=[some (.ref p),some (.ref d),some (.int ((tog ns (xs.take i):Nat):Int)),z]) ⟨rfl,none,rfl⟩ (fun i σ H' _ h=>SqT.of (h.1 ▸ hp)) ?_ ?_⟩
 ·rintro i v σ H1 hv ⟨rfl,z,rfl⟩
  rw[ue]at hv
  obtain⟨x,hx,rfl⟩:=uh.mp hv
  have e:((valV (yw ns 1) (.inr x)).getD (.int 0))=.int ((bitN ns x:Nat):Int):=by
   rw[wB]
   by_cases c:x∈ns
   ·rw[if_pos c,Nat.one_mul];rfl
   ·rw[if_neg c,ZP c];rfl
  refine⟨_,rfl,_,rfl,d,rfl,.inl ⟨_,.inl hd⟩,_,rfl,_,DGet.k (k:=.inr x) hd,?_⟩
  rw[e]
  refine⟨_,_,rfl,rfl,rfl,some (.str x),?_⟩
  show[_,_,some (V.int (Builtin.bitOr _ _)),_]=_
  rw[Zg,<- V9 hx]
 ·rintro σ H1 ⟨rfl,z,rfl⟩
  rw[ua,uj (ud _)]
  exact⟨_,rfl,q⟩
theorem Wp:FnScope ["deed"] ["deed"] (zo vz):=.ok
theorem YM(F:Fun K "names_of" "names_of" vz f fd):FnOk P w K mg base CX0 1 f fd ["deed"] jp:=by
 refine F.by Wp (fun vs H Q E h=>?_) (fun cdv A outer s H vs Q E hr h=>?_)
 ·obtain⟨p,d,rfl,_⟩:=h
  rfl
 obtain⟨p,d,rfl,hd,q⟩:=h
 refine⟨_,
  (zg (zy (tN zA (xT 0) zp) (zh (zu (zq zD))) zv)
  (zg (zy (tN zA (xT 0) zp) (zh (zu (yJ wX (jv 0) (y8 zj) y0))) zv)
  (zg (zy (tN zA (xT 0) zp) (zh (zu (zx Xf (zq (jA1 (xT 0))) (xT 0)))) zv)
  (zh (zu (xT 0)))))),?_⟩
 have sl:=zE
 cases hd with
 |num hp =>
  refine⟨_,rfl,ixT hp aI0 ⟨rfl,_,rfl,ite2 (fun _=>?_) aB⟩⟩
  exact⟨sN0,fun r hr=>q _ r (zn hr _) upd_same⟩
 |@op w0 a b _ hp =>
  refine⟨_,rfl,ixT hp aI0 ⟨rfl,_,rfl,ite2 aB (fun _=>?_)⟩⟩
  refine⟨_,rfl,ixT hp aI0 ⟨rfl,_,rfl,ite2 (fun _=>?_) aB⟩⟩
  exact⟨_,rfl,_,rfl,p,_,rfl,hp,fun r H' s1 h1=>q H' r s1 h1⟩
 |@app w0 g xs _ pq hw hp hq =>
  obtain⟨w1,w2,w3⟩:=hw
  have n1:¬ (decide (V.str w0=V.str "num")=true):=fun c=>w1 (V.str.inj (of_decide_eq_true c))
  have n2:¬ (decide (V.str w0=V.str "op")=true):=fun c=>w2 (V.str.inj (of_decide_eq_true c))
  refine⟨_,rfl,ixT hp aI0 ⟨rfl,_,rfl,ite2 (fun c=>absurd c n1) (fun _=>?_)⟩⟩
  refine⟨_,rfl,ixT hp aI0 ⟨rfl,_,rfl,ite2 (fun c=>absurd c n2) (fun _=>?_)⟩⟩
  refine⟨_,rfl,ixT hp aI0 ⟨rfl,_,rfl,ite2 (fun c=>?_) (fun c=>?_)⟩⟩
  ·have e:w0="ask":=V.str.inj (of_decide_eq_true c)
   subst e
   rw[xR]at q
   refine⟨_,rfl,ixT hp aI1 ⟨sN1,fun t1 h1=>?_⟩⟩
   have s1:=zn (o:=.tup [.str g]) h1
   refine⟨_,rfl,ixT (s1 _ _ hp) aI2 ⟨t1,pq,_,_,rfl,rfl,SqT.of upd_same,SqT.of (s1 _ _ hq),by simp,by rw[ua];show 1+xs.length<=_;lia,fun e=>?_,fun _ r hr=>?_⟩⟩
   ·have e:xs=[]:=List.map_eq_nil_iff.mp e
    subst e
    exact q _ t1 s1 upd_same
   ·exact q _ r (s1.new hr) upd_same
  ·have e:w0≠"ask":=fun e=>c (decide_eq_true (by rw[e]))
   rw[xn e]at q
   exact⟨_,rfl,ixT hp aI2 (q _ pq (Same.refl _) hq)⟩
theorem zck:FnScope ["body"] ["body"] (zo xG):=.ok
theorem Q6(F:Fun K "names_used" "names_used" xG f fd)(GN':Ca P w K mg base CX0 1 "names_of" ["deed"] jp):FnOk P w K mg base CX0 2 f fd ["body"] V8:=by
 refine F.by zck (fun vs H Q E h=>?_) (fun cdv A outer s H vs Q E hr h=>?_)
 ·obtain⟨p,b,rfl,_⟩:=h
  rfl
 obtain⟨p,b,rfl,hb,q⟩:=h
 refine⟨_,
  (zg (zy (tN zA (xT 0) zp) (zh (zu (cA GN' hr (jA1 (xT 0))))) zv)
  (zg (zy (tN zA (xT 0) zp) (zh (zu (zq (jA1 (xT 0))))) zv)
  (zg (zy (yj yr (xT 0) (zq (jA2 zp zp)) (by with_unfolding_all rfl)) (zh (zu (zq zD))) zv)
  (zh (zu (zq (jA1 (xT 0)))))))),?_⟩
 have sl:=zE
 suffices tail:∀{t x:Str}{xs:List V},H p=some (.tup (.str t::.str x::xs))->t≠"let"->t≠"hold"->inV (.str t) [V.str "drop",V.str "loose"]=false->(∀(H':Hp)(q:Addr),Same H H'->H' q=some (.tup [.str x])->Q (.ref q) H') ->
   (tSeq _ (tSeq _ (tSeq _ _)):TS) { nx:=fun _ H'=>Q .non H',rt:=Q } [some (.ref p)] H by
  cases hb with
  |give hp=>exact tail hp (by decide) (by decide) (by decide) q
  |iff hp _ _=>exact tail hp (by decide) (by decide) (by decide) q
  |case hp _ _ _=>exact tail hp (by decide) (by decide) (by decide) q
  |@lt x d b _ p1 p2 hp hd hb =>
   refine⟨_,rfl,ixT hp aI0 ⟨rfl,_,rfl,ite2 (fun _=>?_) aB⟩⟩
   exact⟨_,rfl,ixT hp aI2 ⟨p1,d,rfl,hd,fun H' r s1 h1=>q H' r s1 h1⟩⟩
 intro t x xs hp h1 h2 h3 q
 have n1:¬ (decide (V.str t=V.str "let")=true):=fun c=>h1 (V.str.inj (of_decide_eq_true c))
 have n2:¬ (decide (V.str t=V.str "hold")=true):=fun c=>h2 (V.str.inj (of_decide_eq_true c))
 refine⟨_,rfl,ixT hp aI0 ⟨rfl,_,rfl,ite2 (fun c=>absurd c n1) (fun _=>?_)⟩⟩
 refine⟨_,rfl,ixT hp aI0 ⟨rfl,_,rfl,ite2 (fun c=>absurd c n2) (fun _=>?_)⟩⟩
 refine⟨_,rfl,ixT hp aI0 ⟨sN2,fun t0 h0=>?_⟩⟩
 have s0:=zn (o:=.tup [.str "drop",.str "loose"]) h0
 refine⟨t0,_,rfl,.inr (SqT.of upd_same),rfl,rfl,_,rfl,?_⟩
 refine ite2 (fun c=>absurd (show inV (.str t) [V.str "drop",V.str "loose"]=true from c) (by rw[h3];decide)) (fun _=>?_)
 exact⟨_,rfl,ixT (s0 _ _ hp) aI1 ⟨sN1,fun r hr=>q _ r (s0.new hr) upd_same⟩⟩
theorem IsY.get{H:Hp}:∀{l:Wy}{ps:List Addr}{i:Nat}{p:Addr},IsY H l ps->ps[i]?=some p->∃ns b q r,l[i]?=some (ns,b)/\H p=some (.tup [.ref q,.ref r])/\H q=some (.tup (ns.map V.str))/\IsB H b r
 |_,_,_,_,.nil,e=>by simp at e
 |_,_,0,_,.cons a b c _,e=>by
  simp at e
  subst e
  exact⟨_,_,_,_,rfl,a,b,c⟩
 |_,_,i+1,_,.cons _ _ _ d,e=>by
  obtain⟨ns,b,q,r,h1,h2⟩:=IsY.get (i:=i) d (by simpa using e)
  exact⟨ns,b,q,r,by simpa using h1,h2⟩
def IsN(ns:List Str)(H:Hp)(b:Bd)(v:V):Prop:=∃q l,v=.ref q/\H q=some (.tup [.int ((b.mk ns:Nat):Int),.ref l])
theorem IsN.keep{ns:List Str}{H H':Hp}{b:Bd}{v:V}(h:IsN ns H b v)(t:Tups H H'):IsN ns H' b v:=let ⟨q,l,e,h⟩:=h;⟨q,l,e,t _ _ h⟩
def IsNs(ns:List Str)(H:Hp)(l:Wy)(nv:List V):Prop:=All2 (fun(w:List Str×Bd) v=>IsN ns H w.2 v) l nv
def xW:Sp:=fun vs H Q _=>∃(p wl nl d:Addr)(b:Bd)(ps:List Addr)(nv:List V)(ns:List Str),vs=[.ref p,.ref wl,.ref nl,.ref d]/\IsB H b p/\H wl=some (.lst (ps.map V.ref))/\IsY H b.ways ps/\H nl=some (.lst nv)/\IsNs ns H b.ways nv/\H d=some (.dK (yw ns 1)) /\
 ∀H' r,Same H H'->H' r=some (.tup [.int ((b.mk ns:Nat):Int),.ref nl])->Q (.ref r) H'
theorem Wq{ns:List Str}{l:Wy}{i:Nat}{xs:List Str}{b:Bd}(h:l[i]?=some (xs,b)):accW ns (l.take (i+1)) 0=accW ns (l.take i) 0 ||| dif (b.mk ns) (tog ns xs):=by
 unfold accW
 rw[uv,h,UQ]
 rfl
theorem scNoteOf:FnScope ["body","ways","notes","bits","found","way","note"] lS17 (zo j2):=.ok
theorem Wr(F:Fun K "note_of" "note_of" j2 f fd)(GT:Ca P w K mg base CX0 1 "together" ["names","bits"] za4)(GU:Ca P w K mg base CX0 2 "names_used" ["body"] V8)(m_zip:mg "zip"=none):FnOk P w K mg base CX0 3 f fd lS17 xW:=by
 refine F.by scNoteOf (fun vs H Q E h=>?_) (fun cdv A outer s H vs Q E hr h=>?_)
 ·obtain⟨p,wl,nl,d,b,ps,nv,ns,rfl,_⟩:=h
  rfl
 obtain⟨p,wl,nl,d,b,ps,nv,ns,rfl,hb,hw,hy,hn,hnv,hd,q⟩:=h
 have hr1:Room 1 _:=hr.mono (by decide)
 refine⟨_,
  (zg (sE 4 scNoteOf.nd zj)
  (zg (zJ PassesOwn.never rfl (Vn rfl m_zip (jA2 (jv 1) (jv 2))) (yi rfl (zt (gN 5 scNoteOf.nd) (zt (gN 6 scNoteOf.nd) zL)))
   (zh (sE 4 scNoteOf.nd (zx YL (jv 4) (zx Q4 (xT 6) (zci (cA GT hr1 (jA2 (xT 5) (jv 3)))))))))
  (zh (zu (zq (jA2 (zx YL (jv 4) (cA GT hr1 (jA2 (cA GU hr (jA1 (jv 0))) (jv 3)))) (jv 2))))))),?_⟩
 have sl:=zE
 have yl:=hy.len
 have nl':b.ways.length=nv.length:=All2.len hnv
 refine⟨_,rfl,_,rfl,wl,nl,true,true,_,_,rfl,SqK.l hw,SqK.l hn,Xm (xs:=ps.map V.ref) (ys:=nv) (by rw[ua];lia) (fun i σ H'=>Same H H'/\∃y z,σ=[some (.ref p),some (.ref wl),some (.ref nl),some (.ref d),some (.int ((accW ns (b.ways.take i) 0:Nat):Int)),y,z]) ⟨Same.refl _,none,none,rfl⟩ (fun i σ H' _ h=>⟨SqK.l (h.1 _ _ hw),SqK.l (h.1 _ _ hn)⟩) ?_ ?_⟩
 ·rintro i v1 v2 T σ H1 hv1 hv2 hT ⟨s1,y,z,rfl⟩
  rw[ue]at hv1
  obtain⟨pw,hpw,rfl⟩:=uh.mp hv1
  obtain⟨xs,b',q1,r1,e1,e2,e3,e4⟩:=hy.get hpw
  obtain⟨w',e1',qn,ln,rfl,en⟩:=All2.get hnv hv2
  rw[e1]at e1'
  cases e1'
  have s2:=s1.new (o:=.tup [.ref pw,.ref qn]) hT
  refine⟨T,_,rfl,SqT.of upd_same,rfl,_,_,rfl,_,_,rfl,rfl,?_⟩
  refine⟨_,rfl,_,rfl,ixT (s2 _ _ en) aI0 ⟨_,rfl,ixT (s2 _ _ e2) aI0 ⟨_,rfl,q1,d,xs,ns,rfl,s2 _ _ e3,s2 _ _ hd,_,rfl,_,_,rfl,rfl,_,_,rfl,rfl,s2,some (.ref pw),some (.ref qn),?_⟩⟩⟩
  show[_,_,_,_,some (V.int (Builtin.bitOr _ (Builtin.bitAnd _ _))),_,_]=_
  rw[VU,Zg,<- Wq e1]
 ·rintro σ H1 ⟨s1,y,z,rfl⟩
  rw[ua,<- yl,uj (ud _)]
  refine⟨_,rfl,_,rfl,p,b,rfl,hb.keep (.of s1),fun H2 qu s2 hqu=>?_⟩
  refine⟨_,rfl,qu,d,_,ns,rfl,hqu,s2 _ _ (s1 _ _ hd),_,_,rfl,rfl,_,rfl,sN2,fun r hr=>?_⟩
  refine q _ r ((s1.trans s2).new hr) ?_
  rw[upd_same]
  show some (HO.tup [V.int (Builtin.bitOr _ _),_])=_
  rw[Zg,<- Bd.mk_ways]
end
def Xz:Expr:=match zM yW with
 |[_,.Return (some (.Tuple [_,l] _ _)) _]=>l
 |_=>.Constant .none 0 ⟨0,0,0,0⟩
def za5:Arguments:=match Xz with
 |.Lambda a _ _ _=>a
 |_=>z6 yW
def Ja:Expr:=match Xz with
 |.Lambda _ b _ _=>b
 |e=>e
def Jb:Scope:=match Xz with
 |.Lambda _ _ s _=>s
 |_=>zo yW
def XA:Pos:=match Xz with
 |.Lambda _ _ _ p=>p
 |_=>⟨0,0,0,0⟩
def ZY:Str:=("begun_note":Str)++(".<locals>.":Str)++("<lambda>":Str)
def cl2(c1 c2 c3:Addr):List (Str×Addr):=[("ways",c3),("body",c1),("bits",c2)]
abbrev vM(mg:Str->Option Value)(c1 c2 c3 c:Addr)(ct:Value):FuncData:=lamC mg ZY za5 Ja Jb (cl2 c1 c2 c3) c ct
theorem zcl:LamScope ["notes","bits","body","ways"] ["notes"] ["bits","body","ways"] Jb:=⟨rfl,rfl,rfl,by decide +kernel,rfl,by decide +kernel,by decide +kernel,by decide +kernel,by decide +kernel⟩
theorem Jc:∃p0 p1 p2 p3 p4 p5,Ja=.Call (.Name "note_of" p0) [.Name "body" p1,.Name "ways" p2,.Name "notes" p3,.Name "bits" p4] [] p5:=⟨_,_,_,_,_,_,rfl⟩
def Clo2(mg:Str->Option Value)(ns:List Str)(H:Hp)(R:Addr->Prop)(d:Addr)(b:Bd)(f:Addr):Prop:=∃c1 c2 c3 c ct p wl ps,H f=some (FunO f (vM mg c1 c2 c3 c ct))/\H c=some (CodO c ZY)/\Cel H c1 (.ref p)/\Cel H c2 (.ref d)/\Cel H c3 (.ref wl)/\c1≠c2/\c1≠c3/\c2≠c3/\IsB H b p/\H wl=some (.lst (ps.map V.ref))/\R wl/\IsY H b.ways ps
def zcm(mg:Str->Option Value)(ns:List Str)(f:Addr)(fd:FuncData):Sp:=fun vs H Q _=>∃(nl d c1 c2 c3 c p wl:Addr)(ct:Value)(b:Bd)(ps:List Addr)(nv:List V),vs=[.ref nl]/\fd=vM mg c1 c2 c3 c ct/\H f=some (FunO f fd)/\H c=some (CodO c ZY)/\Cel H c1 (.ref p)/\Cel H c2 (.ref d)/\Cel H c3 (.ref wl)/\c1≠c2/\c1≠c3/\c2≠c3/\IsB H b p/\H wl=some (.lst (ps.map V.ref))/\IsY H b.ways ps/\H nl=some (.lst nv)/\IsNs ns H b.ways nv/\H d=some (.dK (yw ns 1)) /\
 ∀H' r,Same H H'->H' r=some (.tup [.int ((b.mk ns:Nat):Int),.ref nl])->Q (.ref r) H'
theorem clo3{H:Hp}{c1 c2 c3:Addr}{v1 v2 v3:V}(h1:Cel H c1 v1)(h2:Cel H c2 v2)(h3:Cel H c3 v3)(n1:c1≠c2)(n2:c1≠c3)(n3:c2≠c3):Clo H (cl2 c1 c2 c3) ["bits","body","ways"] [v2,v1,v3]:=by
 have l1:(cl2 c1 c2 c3).lookup ("bits":Str)=some c2:=rfl
 have l2:(cl2 c1 c2 c3).lookup ("body":Str)=some c1:=rfl
 have l3:(cl2 c1 c2 c3).lookup ("ways":Str)=some c3:=rfl
 refine⟨rfl,fun p hp=>?_,fun i x v e1 e2=>?_,fun x hx=>?_,fun x y a e1 e2=>?_⟩
 ·unfold cl2 at hp
  simp only[um,UI,or_false]at hp
  rcases hp with rfl|rfl|rfl
  ·exact⟨_,h3⟩
  ·exact⟨_,h1⟩
  ·exact⟨_,h2⟩
 ·match i,e1,e2 with
  |0,e1,e2=>cases e1;cases e2;exact⟨c2,l1,h2⟩
  |1,e1,e2=>cases e1;cases e2;exact⟨c1,l2,h1⟩
  |2,e1,e2=>cases e1;cases e2;exact⟨c3,l3,h3⟩
  |i+3,e1,_=>simp at e1
 ·simp only[um,UI,or_false]at hx
  rcases hx with rfl|rfl|rfl
  ·exact⟨_,l1⟩
  ·exact⟨_,l2⟩
  ·exact⟨_,l3⟩
 ·have m1:=uZ e1
  have m2:=uZ e2
  unfold cl2 at m1 m2
  simp only[um,Prod.mk.injEq,UI,or_false]at m1 m2
  rcases m1 with⟨rfl,rfl⟩|⟨rfl,rfl⟩|⟨rfl,rfl⟩<;>rcases m2 with⟨rfl,z⟩|⟨rfl,z⟩|⟨rfl,z⟩<;>first|rfl|exact absurd z (by assumption)|exact absurd z.symm (by assumption)
theorem wC{H:Hp}{as:List Addr}(hc:∀a∈as,∃v,Cel H a v):Tups H (yF H as):=fun p xs e=>zV hc e (by intro _ _ _ z;cases z)
theorem Ws{H H':Hp}{as:List Addr}(s:Same (yF H as) H'):Same H (xz H' H as):=fun b u e=>by
 by_cases z:b∈as
 ·rw[wW z];exact e
 ·rw[yD z];exact s b u (by rw[yg z];exact e)
theorem ZZ{H H':Hp}{as:List Addr}{b:Addr}{u:HO}(hn:∀a∈as,H' a=none)(e:H' b=some u):xz H' H as b=some u:=by
 rw[yD]
 ·exact e
 ·intro z;rw[hn b z]at e;cases e
section
variable{P:Program}{w:World}{K:ub}{mg:Str->Option Value}{base:Heap}
theorem Q7(GN':Ca P w K mg base CX0 3 "note_of" lS17 xW)(ns:List Str)(f c1 c2 c3 c:Addr)(ct:Value):FnOk P w K mg base CX0 4 f (vM mg c1 c2 c3 c ct) ["notes"] (zcm mg ns f (vM mg c1 c2 c3 c ct)):=by
 refine Xw (k:=3) zcl (fun vs H Q E h=>?_) (fun A outer s H vs Q E hr h=>?_)
 ·obtain⟨nl,d,_,_,_,_,p,wl,_,b,ps,nv,rfl,_⟩:=h
  rfl
 ·obtain⟨nl,d,d1,d2,d3,d0,p,wl,ct',b,ps,nv,rfl,efd,hf,hc,h1,h2,h3,n1,n2,n3,hb,hw,hy,hn,hnv,hd,q⟩:=h
  have ecl:cl2 c1 c2 c3=cl2 d1 d2 d3:=congrArg FuncData.closure efd
  have ec:Value.ref c=Value.ref d0:=congrArg FuncData.code efd
  cases ec
  have e3:c3=d3:=by injection ecl with a b;exact(Prod.mk.inj a).2
  have e1:c1=d1:=by injection ecl with a b;injection b with a b;exact(Prod.mk.inj a).2
  have e2:c2=d2:=by injection ecl with a b;injection b with a b;injection b with a b;exact(Prod.mk.inj a).2
  subst e1;subst e2;subst e3
  refine⟨hf,hc,_,clo3 h1 h2 h3 n1 n2 n3,?_⟩
  obtain⟨p0,p1,p2,p3,p4,p5,eb⟩:=Jc
  rw[eb]
  have hcA:∀a∈(cl2 c1 c2 c3).map (·.2),∃v,Cel H a v:=fun a ha=>by
   obtain⟨p,hp,rfl⟩:=uC.mp ha
   exact(clo3 h1 h2 h3 n1 n2 n3).all p hp
  have tp:=wC hcA
  have ml:∀{b:Addr}{xs:List V},H b=some (.lst xs)->yF H ((cl2 c1 c2 c3).map (·.2)) b=some (.lst xs):=fun e=>zV hcA e (by intro _ _ _ z;cases z)
  refine⟨_,(cA GN' hr (jA4 (jv 2) (jv 3) (jv 0) (jv 1))),?_⟩
  refine⟨_,rfl,_,rfl,_,rfl,_,rfl,p,wl,nl,d,b,ps,nv,ns,rfl,hb.keep tp,ml hw,hy.keep tp,ml hn,hnv.imp fun _ _ h=>h.keep tp,zV hcA hd (by intro _ _ _ z;cases z),fun H' r s1 hr1 hnn=>?_⟩
  exact q _ r (Ws s1) (ZZ hnn hr1)
theorem Q8(c1 c2 c3 c:Addr)(ct:Value):Binds K (vM mg c1 c2 c3 c ct) ["notes"] []:=.all fun us hl=>match us,hl with|[_],_=>rfl
end
theorem Pub.same{H H3:Hp}{cvs:List (Addr×V)}(h:Pub H H3 cvs):Same H H3:=fun b u e=>by
 rw[h.old b]
 ·exact e
 ·intro z
  obtain⟨p,hp,rfl⟩:=uC.mp z
  rw[h.non p hp]at e;cases e
def ls2:List (Pos×Str):=[(XA,ZY)]
def IsKs(H:Hp)(l:Wy)(vs:List V):Prop:=All2 (fun(w:List Str×Bd) v=>∃p,v=.ref p/\IsB H w.2 p) l vs
def xx(mg:Str->Option Value)(T:Addr):Sp:=fun vs H Q _=>∃(p d:Addr)(b:Bd)(ns:List Str),vs=[.ref p,.ref d]/\IsB H b p/\b.sz<=1000000/\TbG T ls2 H /\
 ∀H' q l fl wl vs,KM (·=T) H H'->TbG T ls2 H'->H' q=some (.tup [.ref l,.ref fl])->H l=none->H' l=some (.lst vs)->IsKs H' b.ways vs->H wl=none->(∃xs,H' wl=some (.lst xs))->(∀R:Addr->Prop,R wl->Clo2 mg ns H' R d b fl)->Q (.ref q) H'
section
variable{P:Program}{w:World}{K:ub}{mg:Str->Option Value}{base:Heap}{f:Addr}{fd:FuncData}
theorem scBegNote:FnScope ["body","bits","ways"] lS20 (zo yW):=.ok
theorem Wt:(["body","bits","ways","way"]:List Str).Nodup:=by decide +kernel
theorem YN{c T:Addr}(F:FunC K "begun_note" yW c f fd)(hB:BMn mg base)(hc:UZ K c T=true)(GW:Ca P w K mg base CX0 1 "ways_on" ["body"] YJ):FnOk P w K mg base CX0 2 f fd lS20 (xx mg T):=by
 refine F.byR scBegNote (fun vs H Q E h=>?_) (fun A outer s H vs Q E hr h fresh=>?_)
 ·obtain⟨p,d,b,ns,rfl,_⟩:=h
  rfl
 obtain⟨p,d,b,ns,rfl,hb,hz,hT,q⟩:=h
 refine⟨_,
  (QX (sE 2 scBegNote.nd (cA GW hr (jA1 (jv 0))))
  (zcc (zq (ja_c (yk ["way"] rfl (zF (jv 2)) (fun _ _ _ _ _=>(gN 3 Wt)) (fun _ _ _ _ _=>zR) (fun _ _ _ _ _=>(zT (yb K) (jv 3) zj (fun _ _=>rfl))))
   (jA1 (Xu (params:=za5) (body:=Ja) (scope:=Jb) (pos:=XA) (T:=T) (qual:=ZY) (cl:=cl2 (s.heap.objs.size+1) (s.heap.objs.size+2) (s.heap.objs.size+3)) hB rfl hc rfl)))))),?_⟩
 have sl:=zE
 refine⟨_,rfl,p,b,rfl,hb,hz,fun H1 wl ps s1 hwl hwl1 hy=>?_⟩
 have yl:=hy.len
 have wl1:=vI b.ways
 have wl2:=Bd.wsz b
 refine⟨_,rfl,wl,rfl,⟨_,SqL.of hwl1⟩,zX (xs:=ps.map V.ref) (fun j τ ys H'=>H1=H'/\(∃v,τ=[some (.ref p),some (.ref d),some (.ref wl),v])/\IsKs H1 (b.ways.take j) ys) ⟨rfl,⟨none,rfl⟩,.nil⟩ (fun j τ ys H' _ h=>SqL.of (h.1 ▸ hwl1)) ?_ ?_⟩
 ·rintro j v τ ys H2 hv ⟨rfl,⟨v',rfl⟩,hk⟩
  rw[ue]at hv
  obtain⟨pw,hpw,rfl⟩:=uh.mp hv
  obtain⟨xs,b',q1,r1,e1,e2,e3,e4⟩:=hy.get hpw
  have kl:=All2.len hk
  rw[uD]at kl
  refine⟨_,rfl,ixT e2 aI1 ⟨by have:=(uc.mp e1).1;lia,rfl,⟨_,rfl⟩,?_⟩⟩
  rw[uv,e1]
  exact All2.app hk (.cons ⟨r1,rfl,e4⟩ .nil)
 rintro τ ys H2 ⟨rfl,_,hk⟩ l hl
 rw[ua,<- yl,uj (ud _)]at hk
 have s2:=zn (o:=.lst ys) hl
 have hTb:TbG T ls2 (upd H1 l (.lst ys)):=hT.keep (fun ps e=>s2 _ _ (s1 _ _ e)) (fun c q e=>s2 _ _ (s1 _ _ e))
 refine ZV hTb (by unfold ls2;exact .head _) (fun p hp _=>by unfold ls2 at hp;rw[ui.mp hp]) fun H3 fl cc ct k3 T3 hfl nfT ncT hfl3 hcc=>?_
 refine⟨sN2,fun r hr=>?_⟩
 have nlT:∀{b:Addr}{u:HO},upd H1 l (.lst ys) b=some u->(∀ps,u≠.tbl ps)->b≠T:=fun{b u} e n z=>by
  obtain⟨ps,h,_⟩:=hTb
  rw[z,h]at e
  exact n _ (uP.inj e).symm
 have k4:∀b u,b≠T->upd H1 l (.lst ys) b=some u->upd H3 r (.tup [.ref l,.ref fl]) b=some u:=fun b u n e=>by
  rw[zi (zk (k3 b u n e) hr)];exact k3 b u n e
 have t4:Tups (upd H1 l (.lst ys)) (upd H3 r (.tup [.ref l,.ref fl])):=fun b xs e=>k4 b _ (nlT e (by intro _ z;cases z)) e
 have T4:TbG T ls2 (upd H3 r (.tup [.ref l,.ref fl])):=T3.keep (fun ps e=>old hr e) (fun c q e=>old hr e)
 have e_l:=k4 l _ (nlT upd_same (by intro _ z;cases z)) upd_same
 have e_w:=k4 wl _ (nlT (s2 _ _ hwl1) (by intro _ z;cases z)) (s2 _ _ hwl1)
 have k04:KM (·=T) H (upd H3 r (.tup [.ref l,.ref fl])):=fun b u n e=>k4 b u n (s2 _ _ (s1 _ _ e))
 have tp04:Tups H1 (upd H3 r (.tup [.ref l,.ref fl])):=fun b xs e=>t4 b xs (s2 _ _ e)
 have hr4:=upd_same (H:=H3) (a:=r) (o:=.tup [.ref l,.ref fl])
 have hfl4:=old (o:=.tup [.ref l,.ref fl]) hr hfl3
 have hcc4:=old (o:=.tup [.ref l,.ref fl]) hr hcc
 generalize upd H3 r (.tup [.ref l,.ref fl])=H4 at *
 refine⟨[(s.heap.objs.size+1,.ref p),(s.heap.objs.size+2,.ref d),(s.heap.objs.size+3,.ref wl)],fun x hx=>?_,fun H5 pb=>?_⟩
 ·simp only[um,UI,or_false]at hx
  rcases hx with rfl|rfl|rfl
  ·exact⟨0,"body",rfl,rfl,rfl,.inl rfl⟩
  ·exact⟨1,"bits",rfl,rfl,rfl,.inl rfl⟩
  ·exact⟨2,"ways",rfl,rfl,rfl,.inl rfl⟩
 have s5:=Pub.same pb
 refine q H5 r l fl wl ys (k04.trans (.of s5)) (T4.keep (fun ps e=>s5 _ _ e) fun c q e=>s5 _ _ e) (s5 _ _ hr4) (s1.free hl) (s5 _ _ e_l) (hk.imp fun _ _ ⟨p,e,h⟩=>⟨p,e,h.keep (tp04.trans (.of s5))⟩) hwl ⟨_,s5 _ _ e_w⟩ fun R hR=>?_
 exact⟨_,_,_,cc,ct,p,wl,ps,s5 _ _ hfl4,s5 _ _ hcc4,pb.cel (_,_) (.head _),pb.cel (_,_) (.tail _ (.head _)),pb.cel (_,_) (.tail _ (.tail _ (.head _))),by simp,by simp,by simp,hb.keep ((Tups.of s1).trans (tp04.trans (.of s5))),s5 _ _ e_w,hR,hy.keep (tp04.trans (.of s5))⟩
end
def XB:Expr:=match zM wr with
 |[.Return (some (.Call _ [_,l] _ _)) _]=>l
 |_=>.Constant .none 0 ⟨0,0,0,0⟩
def za6:Arguments:=match XB with
 |.Lambda a _ _ _=>a
 |_=>z6 wr
def Jd:Expr:=match XB with
 |.Lambda _ b _ _=>b
 |e=>e
def Je:Scope:=match XB with
 |.Lambda _ _ s _=>s
 |_=>zo wr
def XC:Pos:=match XB with
 |.Lambda _ _ _ p=>p
 |_=>⟨0,0,0,0⟩
def Z0:Str:=("noted":Str)++(".<locals>.":Str)++("<lambda>":Str)
def ls1:List (Pos×Str):=[(XC,Z0)]
def cl1(c0:Addr):List (Str×Addr):=[("bits",c0)]
abbrev vN(mg:Str->Option Value)(c0 c:Addr)(ct:Value):FuncData:=lamC mg Z0 za6 Jd Je (cl1 c0) c ct
theorem zcn:LamScope ["task","bits"] ["task"] ["bits"] Je:=⟨rfl,rfl,rfl,by decide +kernel,rfl,by decide +kernel,by decide +kernel,by decide +kernel,by decide +kernel⟩
theorem Jf:∃p0 p1 p2 p3,Jd=.Call (.Name "begun_note" p0) [.Name "task" p1,.Name "bits" p2] [] p3:=⟨_,_,_,_,rfl⟩
theorem clo1{H:Hp}{c1:Addr}{v1:V}(h1:Cel H c1 v1):Clo H (cl1 c1) ["bits"] [v1]:=by
 have l1:(cl1 c1).lookup ("bits":Str)=some c1:=rfl
 refine⟨rfl,fun p hp=>?_,fun i x v e1 e2=>?_,fun x hx=>?_,fun x y a e1 e2=>?_⟩
 ·unfold cl1 at hp
  rw[ui.mp hp]
  exact⟨_,h1⟩
 ·match i,e1,e2 with
  |0,e1,e2=>cases e1;cases e2;exact⟨c1,l1,h1⟩
  |i+1,e1,_=>simp at e1
 ·rw[ui.mp hx]
  exact⟨_,l1⟩
 ·have m1:=uZ e1
  have m2:=uZ e2
  unfold cl1 at m1 m2
  rw[ui]at m1 m2
  exact(Prod.mk.inj m1).1.trans (Prod.mk.inj m2).1.symm
theorem Clo2.same{mg:Str->Option Value}{ns:List Str}{H H':Hp}{R:Addr->Prop}{d:Addr}{b:Bd}{f:Addr}(h:Clo2 mg ns H R d b f)(s:Same H H'):Clo2 mg ns H' R d b f:=by
 obtain⟨c1,c2,c3,c,ct,p,wl,ps,h1,h2,⟨o3,h3⟩,⟨o4,h4⟩,⟨o5,h5⟩,n1,n2,n3,h6,h7,h8,h9⟩:=h
 exact⟨c1,c2,c3,c,ct,p,wl,ps,s _ _ h1,s _ _ h2,⟨o3,s _ _ h3⟩,⟨o4,s _ _ h4⟩,⟨o5,s _ _ h5⟩,n1,n2,n3,h6.keep (.of s),s _ _ h7,h8,h9.keep (.of s)⟩
def zco(mg:Str->Option Value)(T:Addr)(ns:List Str)(f:Addr)(fd:FuncData):Sp:=fun vs H Q _=>∃(p d c0 c:Addr)(ct:Value)(b:Bd),vs=[.ref p]/\fd=vN mg c0 c ct/\H f=some (FunO f fd)/\H c=some (CodO c Z0)/\Cel H c0 (.ref d)/\IsB H b p/\b.sz<=1000000/\TbG T ls2 H /\
 ∀H' q l fl wl vs,KM (·=T) H H'->TbG T ls2 H'->H' q=some (.tup [.ref l,.ref fl])->H l=none->H' l=some (.lst vs)->IsKs H' b.ways vs->H wl=none->(∃xs,H' wl=some (.lst xs))->(∀R:Addr->Prop,R wl->Clo2 mg ns H' R d b fl)->Q (.ref q) H'
section
variable{P:Program}{w:World}{K:ub}{mg:Str->Option Value}{base:Heap}
theorem Q9{T:Addr}(GB:Ca P w K mg base CX0 2 "begun_note" lS20 (xx mg T))(ns:List Str)(f c0 c:Addr)(ct:Value):FnOk P w K mg base CX0 3 f (vN mg c0 c ct) ["task"] (zco mg T ns f (vN mg c0 c ct)):=by
 refine Xw (k:=2) zcn (fun vs H Q E h=>?_) (fun A outer s H vs Q E hr h=>?_)
 ·obtain⟨p,d,_,_,_,b,rfl,_⟩:=h
  rfl
 ·obtain⟨p,d,d1,d0,ct',b,rfl,efd,hf,hc,h1,hb,hz,hT,q⟩:=h
  have ecl:cl1 c0=cl1 d1:=congrArg FuncData.closure efd
  have ec:Value.ref c=Value.ref d0:=congrArg FuncData.code efd
  cases ec
  have e1:c0=d1:=by injection ecl with a b;exact(Prod.mk.inj a).2
  subst e1
  refine⟨hf,hc,_,clo1 h1,?_⟩
  obtain⟨p0,p1,p2,p3,eb⟩:=Jf
  rw[eb]
  have hcA:∀a∈(cl1 c0).map (·.2),∃v,Cel H a v:=fun a ha=>by
   obtain⟨p,hp,rfl⟩:=uC.mp ha
   exact(clo1 h1).all p hp
  have tp:=wC hcA
  refine⟨_,(cA GB hr (jA2 (jv 0) (jv 1))),?_⟩
  refine⟨_,rfl,_,rfl,p,d,b,ns,rfl,hb.keep tp,hz,hT.keep (fun ps e=>zV hcA e (by intro _ _ _ z;cases z)) (fun c q e=>zV hcA e (by intro _ _ _ z;unfold CodO at z;cases z)),fun H' r l fl wl vs k1 T1 hr1 hl hl1 hk hwl hwl1 hclo hnn=>?_⟩
  have sp:Same H' (xz H' H ((cl1 c0).map (·.2))):=fun b u e=>ZZ hnn e
  obtain⟨xs,hwl2⟩:=hwl1
  have out:∀{b:Addr}{u:HO},H' b=some u->yF H ((cl1 c0).map (·.2)) b=none->H b=none:=fun{b u} e n=>by
   rw[yg]at n
   ·exact n
   ·intro z;rw[hnn b z]at e;cases e
  refine q _ r l fl wl vs (fun b u n e=>?_) (T1.keep (fun ps e=>sp _ _ e) fun c q e=>sp _ _ e) (sp _ _ hr1) (out hl1 hl) (sp _ _ hl1) (hk.imp fun _ _ ⟨p,e,h⟩=>⟨p,e,h.keep (.of sp)⟩) (out hwl2 hwl) ⟨xs,sp _ _ hwl2⟩ fun R hR=>(hclo R hR).same sp
  by_cases z:b∈(cl1 c0).map (·.2)
  ·rw[wW z];exact e
  ·rw[yD z]
   exact k1 b u n (by rw[yg z];exact e)
theorem zaa(c0 c:Addr)(ct:Value):Binds K (vN mg c0 c ct) ["task"] []:=.all (us1 fun _=>rfl)
theorem All2.mapl{α β γ:Type}{F:α->β->Prop}{g:γ->α}:∀{l:List γ}{m:List β},All2 (fun c b=>F (g c) b) l m->All2 F (l.map g) m
 |_,_,.nil=>.nil
 |_,_,.cons a r=>.cons a (All2.mapl r)
theorem All2.unmapl{α β γ:Type}{F:α->β->Prop}{g:γ->α}:∀{l:List γ}{m:List β},All2 F (l.map g) m->All2 (fun c b=>F (g c) b) l m
 |[],_,.nil=>.nil
 |_::_,_,.cons a r=>.cons a (All2.unmapl r)
theorem Jg:∀{l:Wy}{w:List Str×Bd},w∈l->w.2.sz<=wsz l
 |p::l,w,h=>by
  unfold wsz
  rw[uH,Ur]
  rcases um.mp h with rfl|h
  ·lia
  ·have:=Jg h
   unfold wsz at this
   lia
theorem All2.memP{α β:Type}{F:α->β->Prop}{Pr:α->Prop}:∀{l:List α}{m:List β},All2 F l m->(∀a∈l,Pr a)->All2 (fun a b=>Pr a/\F a b) l m
 |_,_,.nil,_=>.nil
 |_,_,.cons a r,h=>.cons ⟨h _ (.head _),a⟩ (All2.memP r fun a ha=>h a (.tail _ ha))
structure NOk(mg:Str->Option Value)(T1 T2 d fl c0 cc:Addr)(ct:Value)(ns:List Str)(H:Hp):Prop where
 t1:TbG T1 ls1 H
 t2:TbG T2 ls2 H
 hd:H d=some (.dK (yw ns 1))
 f:H fl=some (FunO fl (vN mg c0 cc ct))
 c:H cc=some (CodO cc Z0)
 cel:Cel H c0 (.ref d)
theorem NOk.keep{mg:Str->Option Value}{T1 T2 d fl c0 cc:Addr}{ct:Value}{ns:List Str}{H H':Hp}(h:NOk mg T1 T2 d fl c0 cc ct ns H)(h1:TbG T1 ls1 H')(h2:TbG T2 ls2 H')(k:∀b u,H b=some u->(∀ps,u≠.tbl ps)->(∀xs,u≠.lst xs)->H' b=some u):NOk mg T1 T2 d fl c0 cc ct ns H' :=
 ⟨h1,h2,k _ _ h.hd (by intro _ z;cases z) (by intro _ z;cases z),k _ _ h.f (by intro _ z;unfold FunO at z;cases z) (by intro _ z;unfold FunO at z;cases z),k _ _ h.c (by intro _ z;unfold CodO at z;cases z) (by intro _ z;unfold CodO at z;cases z),let ⟨o,e⟩:=h.cel;⟨o,k _ _ e (by intro _ z;cases z) (by intro _ z;cases z)⟩⟩
theorem NOk.noM{mg:Str->Option Value}{T1 T2 d fl c0 cc:Addr}{ct:Value}{ns:List Str}{H:Hp}(h:NOk mg T1 T2 d fl c0 cc ct ns H){b:Addr}{u:HO}(e:H b=some u)(n:∀ps,u≠.tbl ps):¬ (b=T1\/b=T2):=by
 rintro(z|z)
 ·obtain⟨ps,q,_⟩:=h.t1
  rw[z,q]at e
  exact n _ (uP.inj e).symm
 ·obtain⟨ps,q,_⟩:=h.t2
  rw[z,q]at e
  exact n _ (uP.inj e).symm
theorem NOk.tups{mg:Str->Option Value}{T1 T2 d fl c0 cc:Addr}{ct:Value}{ns:List Str}{H H':Hp}{R:Addr->Prop}(h:NOk mg T1 T2 d fl c0 cc ct ns H)(z:Kz (fun b=>b=T1\/b=T2) R H H'):Tups H H':=fun b xs e=>z b _ e (h.noM e (by intro _ z;cases z)) (by intro _ z;cases z)
def zab{T1 T2:Addr}(nT:T1≠T2)(GB:Ca P w K mg base CX0 2 "begun_note" lS20 (xx mg T2))(GO:Ca P w K mg base CX0 3 "note_of" lS17 xW)(d fl c0 cc:Addr)(ct:Value)(ns:List Str):WoD P w K mg base 4 where
 Tk:=Bd
 M:=fun b=>b=T1\/b=T2
 fb:=fl
 wt:=fun b=>2*b.sz
 kids:=fun b=>b.ways.map (·.2)
 wk:=fun b=>by
  have h:=Bd.wsz b
  have e:∀l:Wy,((l.map (·.2)).map fun b:Bd=>2*b.sz).sum=2*wsz l:=by
   intro l
   induction l with
   |nil=>rfl
   |cons p l ih =>
    unfold wsz at ih ⊢
    rw[uH,uH,uH,Ur,Ur,ih]
    lia
  rw[e]
  lia
 IT:=fun H _ b v=>b.sz<=1000000/\∃p,v=.ref p/\IsB H b p
 IR:=fun H _ b v=>IsN ns H b v
 IF:=fun H R b v=>∃f,v=.ref f/\Clo2 mg ns H R d b f
 Ok:=NOk mg T1 T2 d fl c0 cc ct ns
 itk:=fun⟨h,p,e,hb⟩ ok z _=>⟨h,p,e,hb.keep (ok.tups z)⟩
 irk:=fun h ok z _=>h.keep (ok.tups z)
 ifk:=fun{H H' R R' t v} hh ok z sub=>by
  obtain⟨f,e,c1,c2,c3,c,ct,p,wl,ps,h1,h2,⟨o3,h3⟩,⟨o4,h4⟩,⟨o5,h5⟩,n1,n2,n3,h6,h7,h8,h9⟩:=hh
  have g:∀b u,H b=some u->(∀ps,u≠.tbl ps)->(∀xs,u≠.lst xs)->H' b=some u:=fun b u e n1 n2=>z b u e (ok.noM e n1) fun xs q=>absurd q (n2 xs)
  exact⟨f,e,c1,c2,c3,c,ct,p,wl,ps,g _ _ h1 (by intro _ z;unfold FunO at z;cases z) (by intro _ z;unfold FunO at z;cases z),g _ _ h2 (by intro _ z;unfold CodO at z;cases z) (by intro _ z;unfold CodO at z;cases z),⟨o3,g _ _ h3 (by intro _ z;cases z) (by intro _ z;cases z)⟩,⟨o4,g _ _ h4 (by intro _ z;cases z) (by intro _ z;cases z)⟩,⟨o5,g _ _ h5 (by intro _ z;cases z) (by intro _ z;cases z)⟩,n1,n2,n3,h6.keep (ok.tups z),z _ _ h7 (ok.noM h7 (by intro _ z;cases z)) (fun _ _=>h8),sub _ h8,h9.keep (ok.tups z)⟩
 okk:=fun{H H'} ok z=>by
  have g:∀b u,H b=some u->(∀xs,u≠.lst xs)->H' b=some u:=fun b u e n=>z b u e fun xs q=>absurd q (n xs)
  exact ok.keep (ok.t1.keep (fun ps e=>g _ _ e (by intro _ z;cases z)) fun c q e=>g _ _ e (by intro _ z;unfold CodO at z;cases z)) (ok.t2.keep (fun ps e=>g _ _ e (by intro _ z;cases z)) fun c q e=>g _ _ e (by intro _ z;unfold CodO at z;cases z)) fun b u e _ n=>g b u e n
 okM:=fun{H b} ok z=>by
  rcases z with z|z
  ·obtain⟨ps,q,_⟩:=ok.t1
   rw[z,q];simp
  ·obtain⟨ps,q,_⟩:=ok.t2
   rw[z,q];simp
 beg:=fun{H R t v Q}⟨hz,p,e,hb⟩ ok hRd hRM q=>by
  subst e
  refine⟨_,_,_,(Q9 GB ns fl c0 cc ct).mono (by decide),zaa c0 cc ct,⟨p,d,c0,cc,ct,t,rfl,rfl,ok.f,ok.c,ok.cel,hb,hz,ok.t2,fun H' r l f2 wl vs k1 t2 hr hl hl1 hk hwl ⟨xs,hwl1⟩ hclo=>?_⟩,.inl ok.f⟩
  have ok':NOk mg T1 T2 d fl c0 cc ct ns H':=by
   refine ok.keep (ok.t1.keep (fun ps e=>k1 _ _ nT e) fun c q e=>k1 _ _ (fun z=>ok.noM e (by intro _ z;unfold CodO at z;cases z) (.inr z)) e) t2 fun b u e n _=>k1 b u (fun z=>ok.noM e n (.inr z)) e
  refine q H' r l f2 vs (fun b=>R b\/b=l\/b=wl) (fun b u n e=>k1 b u (fun z=>n (.inr z)) e) ok' hr hl hl1 (fun _ z=>.inl z) ?_ ?_ (.inr (.inl rfl)) ?_ ⟨f2,rfl,hclo _ (.inr (.inr rfl))⟩
  ·rintro b (z|rfl|rfl)
   ·exact .inl z
   ·exact .inr hl
   ·exact .inr hwl
  ·rintro b (z|rfl|rfl)
   ·cases e:H b with
    |none=>exact absurd e (hRd b z)
    |some u=>rw[k1 b u (fun y=>hRM b z (.inr y)) e];simp
   ·rw[hl1];simp
   ·rw[hwl1];simp
  ·refine All2.mapl ((All2.memP hk (Pr:=fun w:List Str×Bd=>w.2.sz<=1000000) fun a ha=>?_).imp fun a b h=>h)
   have:=Jg ha
   have:=Bd.wsz t
   lia
 fin:=fun{H R t f2 rl rs Q} hh ok hRd hRM hRr hrl hrs q=>by
  obtain⟨f,e,c1,c2,c3,c,ct',p,wl,ps,h1,h2,h3,h4,h5,n1,n2,n3,h6,h7,h8,h9⟩:=hh
  cases e
  refine⟨_,_,_,Q7 GO ns f2 c1 c2 c3 c ct',Q8 c1 c2 c3 c ct',⟨rl,d,c1,c2,c3,c,p,wl,ct',t,ps,rs,rfl,rfl,h1,h2,h3,h4,h5,n1,n2,n3,h6,h7,h9,hrl,All2.unmapl hrs,ok.hd,fun H' r s1 hr=>?_⟩,.inl h1⟩
  refine q H' (.ref r) R (.of s1) ?_ (fun _ z=>z) (fun _ z=>.inl z) ?_ ⟨r,rl,rfl,hr⟩
  ·exact ok.keep (ok.t1.keep (fun ps e=>s1 _ _ e) fun c q e=>s1 _ _ e) (ok.t2.keep (fun ps e=>s1 _ _ e) fun c q e=>s1 _ _ e) fun b u e _ _=>s1 b u e
  ·intro b z
   cases e:H b with
   |none=>exact absurd e (hRd b z)
   |some u=>rw[s1 b u e];simp
end
structure Tbs(T1 T2:Addr)(H:Hp):Prop where
 t1:TbG T1 ls1 H
 t2:TbG T2 ls2 H
theorem Tbs.same{T1 T2:Addr}{H H':Hp}(h:Tbs T1 T2 H)(s:Same H H'):Tbs T1 T2 H':=⟨h.t1.keep (fun ps e=>s _ _ e) fun c q e=>s _ _ e,h.t2.keep (fun ps e=>s _ _ e) fun c q e=>s _ _ e⟩
def MT(T1 T2:Addr)(b:Addr):Prop:=b=T1\/b=T2
def XD(T1 T2:Addr):Sp:=fun vs H Q _=>∃(p d:Addr)(b:Bd)(ns:List Str),vs=[.ref p,.ref d]/\IsB H b p/\b.sz<=400000/\H d=some (.dK (yw ns 1))/\Tbs T1 T2 H/\∀H' v,KM (MT T1 T2) H H'->Tbs T1 T2 H'->IsN ns H' b v->Q v H'
def XE(T1 T2:Addr):Sp:=fun vs H Q _=>∃(p l:Addr)(b:Bd)(ns:List Str),vs=[.ref p,.ref l]/\IsB H b p/\b.sz<=400000/\H l=some (.lst (ns.map V.str))/\ns.Nodup/\ns.length<=1000/\Tbs T1 T2 H/\∀H',KM (MT T1 T2) H H'->Tbs T1 T2 H'->Q (.int ((b.mk ns:Nat):Int)) H'
section
variable{P:Program}{w:World}{K:ub}{mg:Str->Option Value}{base:Heap}{f:Addr}{fd:FuncData}
theorem scNoted:FnScope lS20 lS20 (zo wr):=.ok
theorem Jh{c T1 T2:Addr}(F:FunC K "noted" wr c f fd)(hB:BMn mg base)(hc:UZ K c T1=true)(nT:T1≠T2)(GB:Ca P w K mg base CX0 2 "begun_note" lS20 (xx mg T2))(GO:Ca P w K mg base CX0 3 "note_of" lS17 xW)(GW:Ca P w K mg base CX0 5 "worked_out" ["task","begin"] (ZX P w K mg base 4)):FnOk P w K mg base CX0 6 f fd lS20 (XD T1 T2):=by
 refine F.by scNoted (fun vs H Q E h=>?_) (fun A outer s H vs Q E hr h=>?_)
 ·obtain⟨p,d,b,ns,rfl,_⟩:=h
  rfl
 obtain⟨p,d,b,ns,rfl,hb,hz,hd,hT,q⟩:=h
 refine⟨_,
  (zh (zu (zcf (E:=E0) GW hr scNoted.nd rfl (fun _=>rfl) (jA2 (jv 0) (Xu (params:=za6) (body:=Jd) (scope:=Je) (pos:=XC) (T:=T1) (qual:=Z0) (cl:=cl1 (s.heap.objs.size+1)) hB rfl hc rfl))))),?_⟩
 refine⟨_,rfl,ZV hT.t1 (by unfold ls1;exact .head _) (fun p hp _=>by unfold ls1 at hp;rw[ui.mp hp]) fun H1 fl cc ct k1 T1' hfl nfT ncT hfl1 hcc=>?_⟩
 have noT1:∀{b:Addr}{u:HO},H b=some u->(∀ps,u≠.tbl ps)->b≠T1:=fun{b u} e n z=>by
  obtain⟨ps,h,_⟩:=hT.t1
  rw[z,h]at e
  exact n _ (uP.inj e).symm
 have tp1:Tups H H1:=fun b xs e=>k1 b _ (noT1 e (by intro _ z;cases z)) e
 have T2':TbG T2 ls2 H1:=hT.t2.keep (fun ps e=>k1 _ _ nT.symm e) fun c q e=>k1 _ _ (noT1 e (by intro _ z;unfold CodO at z;cases z)) e
 refine⟨[(s.heap.objs.size+1,.ref d)],fun x hx=>?_,fun H3 pb=>?_⟩
 ·rw[ui.mp hx]
  exact⟨1,"bits",rfl,rfl,rfl,.inl rfl⟩
 have s3:=Pub.same pb
 have ok3:NOk mg T1 T2 d fl (s.heap.objs.size+1) cc ct ns H3:=⟨T1'.keep (fun ps e=>s3 _ _ e) fun c q e=>s3 _ _ e,T2'.keep (fun ps e=>s3 _ _ e) fun c q e=>s3 _ _ e,s3 _ _ (k1 _ _ (noT1 hd (by intro _ z;cases z)) hd),s3 _ _ hfl1,s3 _ _ hcc,pb.cel (_,_) (.head _)⟩
 refine⟨zab nT GB GO d fl (s.heap.objs.size+1) cc ct ns,.ref p,b,fun _=>False,rfl,⟨by lia,p,rfl,hb.keep (tp1.trans (.of s3))⟩,ok3,fun _ z=>z.elim,fun _ z=>z.elim,?_,.inl ⟨⟨_,ok3.f⟩,ok3.noM ok3.f (by intro _ z;unfold FunO at z;cases z)⟩,fun H4 v R' k4 ok4 _ hv hcel=>?_⟩
 ·show 2*b.sz<=1000000
  lia
 have hcA:∀a∈([(s.heap.objs.size+1,V.ref d)]:List (Addr×V)).map (·.1),∃v,Cel H4 a v:=fun a ha=>by
  obtain⟨x,hx,rfl⟩:=uC.mp ha
  exact⟨_,hcel x hx⟩
 refine q _ v (fun b u n e=>?_) ⟨ok4.t1.keep (fun ps e=>zV hcA e (by intro _ _ _ z;cases z)) fun c q e=>zV hcA e (by intro _ _ _ z;unfold CodO at z;cases z),ok4.t2.keep (fun ps e=>zV hcA e (by intro _ _ _ z;cases z)) fun c q e=>zV hcA e (by intro _ _ _ z;unfold CodO at z;cases z)⟩ (hv.keep (wC hcA))
 have e1:=k1 b u (fun z=>n (.inl z)) e
 rw[yg]
 ·exact k4 b u n (s3 _ _ e1)
 ·intro z
  obtain⟨x,hx,rfl⟩:=uC.mp z
  rw[pb.non x hx]at e1
  cases e1
theorem zac:FnScope ["body","names"] ["body","names"] (zo Yu):=.ok
theorem Ji{T1 T2:Addr}(F:Fun K "ahead" "ahead" Yu f fd)(GN':Ca P w K mg base CX0 6 "noted" lS20 (XD T1 T2))(GB:Ca P w K mg base CX0 1 "bits_of" ["names"] V7):FnOk P w K mg base CX0 7 f fd ["body","names"] (XE T1 T2):=by
 refine F.by zac (fun vs H Q E h=>?_) (fun cdv A outer s H vs Q E hr h=>?_)
 ·obtain⟨p,l,b,ns,rfl,_⟩:=h
  rfl
 obtain⟨p,l,b,ns,rfl,hb,hz,hl,nd,hn,hT,q⟩:=h
 have hr1:Room 1 _:=hr.mono (by decide)
 refine⟨_,(zh (zu (zT zY (cA GN' hr (jA2 (jv 0) (cA GB hr1 (jA1 (jv 1))))) zj (fun _ _=>rfl)))),?_⟩
 refine⟨_,rfl,_,rfl,l,ns,rfl,hl,nd,hn,fun H1 d s1 hd hd1=>?_⟩
 refine⟨p,d,b,ns,rfl,hb.keep (.of s1),hz,hd1,hT.same s1,fun H2 v k2 T2' ⟨qa,la,e,hq⟩=>?_⟩
 subst e
 exact ixT hq aI0 (q H2 ((KM.of s1).trans k2) T2')
end
end GN
namespace L2
open PySem PySem.Spec PyProof.Rows
section
variable{X:Cx}
theorem vO(hc:X.calm=true):xN X (.builtin "any") (fun xs H Q=>∃(p:Addr)(bs:List Bool),xs=[.ref p]/\SqL X.K H p (bs.map V.bl)/\Q (.bl (bs.any _root_.id)) H):=by
 intro pins s σ H xs us Q I r h
 obtain⟨p,bs,rfl,hq,q⟩:=h
 obtain⟨u,rfl,rx⟩:=vZ r
 cases rx
 obtain⟨its,rv,pl,hz⟩:=I.list hq
 have hh:X.A.handled=none:=I.ok.hd hc
 have hlen:its.toArray.size=bs.length:=by rw[ut,<- rv.length,ua]
 have hne:p≠s.heap.objs.size:=by
  obtain⟨o,n,e,_⟩:=pl
  exact uS (uw e)
 refine call_any_walk (wpAny_pyIter_list pl.isList ?_)
 refine⟨s.heap.objs.size,_,_,_,_,_,fun i=>(bs[i]?).getD false,rfl,Walks.list (A:=X.A.in1) hh _ p hne its.toArray,⟨⟨_,uy _ rfl,rfl,rfl⟩,pl.isList.at fun o e=>ug _ e⟩,fun i v s1 Q1 E1 hv hQ=>?_,fun h' tk kk=>?_⟩
 ·have hi:i < bs.length:=by
   obtain⟨hi,_⟩:=Array.getElem?_eq_some_iff.mp hv
   rw[hlen]at hi
   exact hi
  have hb:(bs.map V.bl)[i]?=some (V.bl ((bs[i]?).getD false)):=by
   rw[ue,uk hi]
   simp
  obtain⟨u',hu,ru⟩:=rv.get hb
  have e:its.toArray[i]?=some u':=by simpa using hu
  have hv':its.toArray[i]?=some v:=hv
  rw[hv']at e
  cases e
  cases ru
  exact wpAny_truthy_bool hQ
 ·rw[hlen,LSm.range_any]
  have I1:Inv X pins σ H { s with heap:=s.heap.push { cls:=.type "list_iterator",data:=.fields #[.ref p,.int 0 0] } }:=I.kept (t':=s.toks) fun b o e=>ug _ e
  have f:=I.fpOk (H':=H) (ud _) I.fresh
  exact⟨.bl (bs.any _root_.id),H,I1.turned (it:=s.heap.objs.size) (fun b o hb e=>kk b o (by simpa using hb) e) f.1 f.2.1 f.2.2.2.1 f.2.2.2.2.1 f.2.2.2.2.2,rfl,q⟩
theorem xY(hc:X.calm=true):jCa X (.builtin "any") (fun xs H Q=>∃(p:Addr)(bs:List Bool),xs=[.ref p]/\SqL X.K H p (bs.map V.bl)/\Q (.bl (bs.any _root_.id)) H):=⟨vO hc⟩
end
open AutoSeq1 (wpAny_loadPart') in
theorem xq(l:Addr)(items:Array Value)(n:Nat)(dct:Option Addr)(sl:Array (Option Value)):
  Meets (Builtin.«enumerate.__new__» ⟨[.type "enumerate",.ref l],[]⟩) (fun _ R s=>s.heap.get? l=some { cls:=.type "tuple",dict:=dct,data:=.seq items n,slots:=sl } /\
   R (.ok (.ret (.ref (s.heap.push { cls:=.type "tuple_iterator",data:=.fields #[.ref l,.int 0 0] }).objs.size)))
    { s with heap:=(s.heap.push { cls:=.type "tuple_iterator",data:=.fields #[.ref l,.int 0 0] }).push { cls:=.type "enumerate",data:=.fields #[.none,.bool false,.ref s.heap.objs.size,rawInt 0,.none,.none] } }) :=
 .of_wp fun prog w A R s h=>by
  obtain⟨hp,g,d,tk,os⟩:=s;obtain⟨hl,h⟩:=h
  have hsub:=sub_enumerate
  have hL:Heap.IsTuple (Shared.heap ⟨hp,g,d,tk,os⟩) l items:=⟨_,hl,rfl,n,rfl⟩
  wp_walk using wpAny_loadPart' hl
  refine wpAny_stack_any fun st=>wpAny_pure ?_
  split
  ·rename_i c _ _ _ _ _
   cases(c == Value.type "enumerate")
   ·wp_walk using wpAny_loadPart' hl,wpAny_pyIter_tuple hL
    exact⟨_,rfl,h⟩
   ·wp_walk using wpAny_loadPart' hl,wpAny_pyIter_tuple hL
    exact⟨_,rfl,h⟩
  ·wp_walk using wpAny_loadPart' hl,wpAny_pyIter_tuple hL
   exact⟨_,rfl,h⟩
section
variable{prog:Program}{w:World}{A:Around}{E:Value->Shared->Prop}{s:Shared}
theorem xr{l:Addr}{items:Array Value}{Q:Value->Shared->Prop}(hL:s.heap.IsTuple l items)
  (h:∀h',IsEnum h' (s.heap.objs.size+1) s.heap.objs.size 0 .none->h'.IsTupleIter s.heap.objs.size l 0->h'.objs.size=s.heap.objs.size+2 ->
   (∀b o,s.heap.get? b=some o->h'.get? b=some o)->Q (.ref (s.heap.objs.size+1)) { s with heap:=h' }) :
  wpAny (model prog w) A (call (.type "enumerate") [.ref l]) Q E s:=by
 obtain⟨⟨c,dct,dt,sl⟩,hl,hc,n,hd⟩:=hL
 replace hc:c=.type "tuple":=hc
 replace hd:dt=.seq items n:=hd
 subst hc hd
 refine callType_new F.called_enumerate (by decide) (F.typeCall_enumerate_1 _) (F.newCall_enumerate_1 _) (fun obj=>F.args_object_init_2 obj _) F.entry_enumerate_new
  (xq l items n dct sl) ⟨hl,?_⟩
 have hz:(s.heap.push { cls:=.type "tuple_iterator",data:=.fields #[.ref l,.int 0 0] }).objs.size=s.heap.objs.size+1:=Up ..
 show _/\_
 rw[hz]
 have he:IsEnum ((s.heap.push { cls:=.type "tuple_iterator",data:=.fields #[.ref l,.int 0 0] }).push
   { cls:=.type "enumerate",data:=.fields #[.none,.bool false,.ref s.heap.objs.size,rawInt 0,.none,.none] }) (s.heap.objs.size+1) s.heap.objs.size 0 .none:=by
  have:=uy (s.heap.push { cls:=.type "tuple_iterator",data:=.fields #[.ref l,.int 0 0] })
   (o:={ cls:=.type "enumerate",data:=.fields #[.none,.bool false,.ref s.heap.objs.size,rawInt 0,.none,.none] }) rfl
  rw[hz]at this;exact this
 refine⟨⟨_,he,rfl⟩,h _ he ⟨_,ug _ (uy _ rfl),rfl,rfl⟩ (by rw[Up,hz]) fun b o x=>ug _ (ug _ x)⟩
theorem wN(hh:A.handled=none){it l:Addr}(hne:l≠it)(items:Array Value):Draws prog w A it [it,l] items.size (fun i x=>items[i]?=some x) (fun i h=>h.IsTupleIter it l i/\h.IsTuple l items) where
 live:=fun i h st=>let ⟨o,ho,_⟩:=st.1;⟨o,ho⟩
 frame:=fun i h h' st k=>⟨let ⟨o,ho,r⟩:=st.1;⟨o,k it (by simp) o ho,r⟩,let ⟨o,ho,r⟩:=st.2;⟨o,k l (by simp) o ho,r⟩⟩
 item:=fun i s Q E hi st hQ=>by
  have hx:items[i]?=some items[i]:=Array.getElem?_eq_getElem hi
  exact ZA st.1 st.2 hx fun h' hj hs=>hQ _ h' s.toks hx ⟨hj,st.2.extBut hs.extBut hne⟩ hs
 done:=fun s Q E st hE=>Xg hh st.1 st.2 (Array.getElem?_eq_none (ud _)) hE
end
def IteT(K:ub)(a:Addr):It :=
 ⟨fun i H=>∃xs x,SqT K H a xs/\xs[i]?=some x,fun i H x H'=>∃T v,x=.ref T/\H T=none/\H'=upd H T (.tup [.int i,v])/\∀xs,SqT K H a xs->xs[i]?=some v,fun i H=>∃xs,SqT K H a xs/\xs.length=i⟩
theorem YO{P:Program}{w:World}{K:ub}{elts:List Expr}{k:Nat}{pos:Pos}{a e it:Addr}(hne:e≠it)(hea:e≠a)(hia:a≠it):Turn P w K (.Tuple elts k pos) (IteT K a) [e,it] e (fun i h=>(∃old,IsEnum h e it (i:Int) old)/\h.IsTupleIter it a i) where
 mem:=by simp
 obj:=fun i h st b hb=>by
  obtain⟨⟨old,he⟩,hit⟩:=st
  have e':b=e\/b=it:=by simpa using hb
  rcases e' with z|z
  ·subst z
   exact⟨_,he,fun v z=>by cases z⟩
  ·subst z
   obtain⟨o,e,c,d⟩:=hit
   exact⟨o,e,fun v z=>by rw[d]at z;cases z⟩
 keep:=fun i h h' st k=>⟨st.1.imp fun old he=>k e (by simp) _ he,let ⟨o,ho,r⟩:=st.2;⟨o,k it (by simp) o ho,r⟩⟩
 item:=by
  intro X hP hw hK hc i pins s σ H E I hf st hg
  subst hP hw hK
  obtain⟨xs,x,hq,hx⟩:=hg
  obtain⟨its,rv,p,hz⟩:=I.tuple hq
  obtain⟨u,hu,ru⟩:=rv.get hx
  obtain⟨⟨old,he⟩,hit⟩:=st
  have hil:i < its.toArray.size:=by
   obtain⟨hi,_⟩:=uc.mp hu
   simpa using hi
  refine wpAny_pyNext_enum_itemD (wN (A:=X.A.in1) (I.ok.hd hc) hia its.toArray) he ⟨hit,p⟩ hil hne (by simp[hne,hea]) fun u' h' tk hu' ho st' hT hsz hk=>?_
  obtain⟨hit',_⟩:=st'
  have eu:u'=u:=by
   have:its.toArray[i]?=some u:=by simpa using hu
   rw[this]at hu'
   exact(uP.inj hu').symm
  subst eu
  have new:ObjOk X.prog X.w (upd H s.heap.objs.size (.tup [.int i,x])) h' s.heap.objs.size (.tup [.int i,x]):=⟨sN2,[.int i tk,u'],.cons ⟨_,rfl⟩ (.cons ru .nil),⟨_,hT,rfl,rfl,_,rfl⟩⟩
  have I1:Inv X pins σ (upd H s.heap.objs.size (.tup [.int i,x])) { s with heap:=h',toks:=tk+1 }:=I.turnsLaid (ch:=[e,it]) (fun b o hb q=>hk b o (fun z=>hb (by simp[z])) (fun z=>hb (by simp[z])) q) hf (ud _) new
  have hlt:∀b∈[e,it],b≠s.heap.objs.size:=fun b hb=>by
   have e':b=e\/b=it:=by simpa using hb
   rcases e' with z|z
   ·rw[z];exact uS (uw he)
   ·rw[z];obtain⟨o,q,_⟩:=hit;exact uS (uw q)
  have hn:∀b∈[e,it],upd H s.heap.objs.size (.tup [.int i,x]) b=none:=fun b hb=>by rw[zi (hlt b hb)];exact(hf b hb).1
  have hf1:∀b∈[e,it],FpOk X pins (upd H s.heap.objs.size (.tup [.int i,x])) b:=fun b hb=>⟨hn b hb,(hf b hb).2⟩
  refine⟨_,rfl,wpAny_letOwnedTupleGo_enum (s:={ s with heap:=h',toks:=tk+1 }) ho fun h'' he' hs'=>?_⟩
  have I2:Inv X pins σ (upd H s.heap.objs.size (.tup [.int i,x])) { s with heap:=h'',toks:=tk+1 }:=Inv.turns (s:={ s with heap:=h',toks:=tk+1 }) (t':=tk+1) (ch:=[e,it]) I1 (fun b o hb q=>(hs'.2 b fun z=>hb (by simp[z])).trans q) hf1
  refine⟨.ref s.heap.objs.size,_,I2,rfl,⟨_,x,rfl,I.fresh,rfl,fun ys hy=>?_⟩,⟨⟨u',?_⟩,let ⟨o,ho,r⟩:=hit';⟨o,(hs'.2 it hne.symm).trans ho,r⟩⟩,hn⟩
  ·rw[I.tuple_inj hy hq];exact hx
  ·have e1:(((i+1:Nat)):Int)=(i:Int)+1:=by lia
   rw[e1]
   exact he'
 done:=by
  intro X hP hw hK hc i pins s σ H E I hf st hg
  subst hP hw hK
  obtain⟨xs,hq,hx⟩:=hg
  obtain⟨its,rv,p,hz⟩:=I.tuple hq
  have hl:=rv.length
  obtain⟨⟨old,he⟩,hit⟩:=st
  have ei:i=its.toArray.size:=by simp;lia
  subst ei
  exact wpAny_pyNext_enum_endD (wN (A:=X.A.in1) (I.ok.hd hc) hia its.toArray) he ⟨hit,p⟩ fun h' eb=>⟨rfl,I.turns (t':=s.toks) (ch:=[e,it]) (fun b o hb q=>eb b o (fun z=>hb (by simp[z])) q) hf⟩
 self:=fun _ _ _ _ _ st h=>by
  obtain⟨⟨old,he⟩,_⟩:=st
  exact wpAny_pyIter_enum he h
section
variable{X:Cx}{elts:List Expr}{k:Nat}{tpos:Pos}
def Jj(K:ub)(ta:TA):TI:=fun σ H R=>ta σ H fun vs H1=>∃a,vs=[.ref a]/\(∃xs,SqT K H1 a xs)/\R (IteT K a) H1
theorem Jk{a:Expr}{ta:TA}{p pos:Pos}(hg:Gl X "enumerate")(hm:X.mg "enumerate"=none)(ha:PA X [a] ta)(hs:starEach [a] X.env=[(false,eval a X.env)]:=by rfl):PI X (.Tuple elts k tpos) (.Call (.Name "enumerate" p) [a] [] pos) (Jj X.K ta):=by
 intro pins s σ H R I h
 refine Call_ (yZ I hg hm boot_enumerate (Ud (thn (ha pos pins s σ H _ I h) fun us s1 ⟨vs,H1,I1,r1,q1⟩=>?_) hs rfl))
 obtain⟨l,e,⟨xs,hq⟩,q⟩:=q1
 subst e
 obtain⟨u,rfl,rx⟩:=vZ r1
 cases rx
 obtain⟨its,rv,pl,hz⟩:=I1.tuple hq
 have hlt:l < s1.heap.objs.size:=by obtain⟨o,e,_⟩:=pl;exact uw e
 refine xr pl fun h' hE hI hsz hk=>?_
 refine wpAny_pyIter_enum hE ?_
 refine⟨s1.heap.objs.size+1,[s1.heap.objs.size+1,s1.heap.objs.size],_,_,H1,rfl,I1.kept (t':=s1.toks) hk,YO (a:=l) (Nat.succ_ne_self _) (Nat.ne_of_gt (Nat.lt_succ_of_lt hlt)) (uS hlt),⟨⟨_,hE⟩,hI⟩,fun b hb=>?_,q⟩
 have e:b=s1.heap.objs.size+1\/b=s1.heap.objs.size:=by simpa using hb
 rcases e with e|e
 ·subst e
  exact I1.fpOk (U8 _) (I1.hok.fresh (U8 _))
 ·subst e
  exact I1.fpOk (ud _) (I1.hok.fresh (ud _))
theorem Z2{a:Expr}{t:TA}{p pos:Pos}(hg:Gl X "enumerate")(hm:X.mg "enumerate"=none)(ha:jA X [a] t)(h:zw a=false:=by rfl):jI X (.Tuple elts k tpos) (.Call (.Name "enumerate" p) [a] [] pos) (Jj X.K t):=⟨Jk hg hm ha.out (zC h)⟩
end
theorem jq{K:ub}{a:Addr}{xs:List V}{g:TG}{tb:TS}{D:Ends}{σ:St}{H:Hp}(Pv:Nat->St->Hp->Prop)(h0:Pv 0 σ H)(hl:∀i σ H,i<=xs.length->Pv i σ H->SqT K H a xs)
  (hs:∀i x T σ H,xs[i]?=some x->H T=none->Pv i σ H->g (.ref T) σ (upd H T (.tup [.int (i:Nat),x])) fun σ2 H2=>tb { D with nx:=Pv (i+1),ct:=Pv (i+1),bk:=D.nx } σ2 H2) (hd:∀σ H,Pv xs.length σ H->D.nx σ H) :
  ∃W:Nat->Nat->St->Hp->Prop,(∃m,W 0 m σ H)/\∀i m σ H,W i m σ H ->
   ((IteT K a).stop i H/\D.nx σ H)\/((IteT K a).go i H/\∃N:St->Hp->Prop,(∀σ' H',N σ' H'->∃m',m' < m/\W (i+1) m' σ' H')/\∀x H',(IteT K a).yld i H x H'->g x σ H' fun σ2 H2=>tb { D with nx:=N,ct:=N,bk:=D.nx } σ2 H2):=by
 refine⟨fun i m σ H=>m=xs.length-i/\i<=xs.length/\Pv i σ H,⟨xs.length,by simp,uX _,h0⟩,?_⟩
 rintro i m σ H ⟨rfl,hi,p⟩
 have q:=hl i σ H hi p
 by_cases hlt:i < xs.length
 ·refine .inr ⟨⟨xs,xs[i],q,by simp[hlt]⟩,Pv (i+1),fun σ' H' p'=>⟨xs.length-(i+1),by lia,rfl,hlt,p'⟩,fun x H' y=>?_⟩
  obtain⟨T,v,rfl,hT,rfl,e⟩:=y
  exact hs i v T σ H (e xs q) hT p
 ·have e:i=xs.length:=by lia
  subst e
  exact .inl ⟨⟨xs,q,rfl⟩,hd σ H p⟩
end L2
namespace GN
open PySem L2 K11
mutual
def Bd.all:Bd->List Bd
 |.give x=>[.give x]
 |.lt x d b=>.lt x d b::b.all
 |.iff x a b=>.iff x a b::(a.all++b.all)
 |.case x as=>.case x as::as.all
def Arms.all:Arms->List Bd
 |.nil=>[]
 |.cons _ _ b r=>b.all++r.all
end
def pnd(l:List Bd):List Bd:=l.flatMap Bd.all
theorem Arms.all_ways:∀as:Arms,as.all=pnd (as.ways.map (·.2))
 |.nil=>by unfold Arms.all Arms.ways pnd;rfl
 |.cons t ns b r=>by
  unfold Arms.all Arms.ways pnd
  rw[uH,Uo,Arms.all_ways r]
  rfl
theorem Bd.all_ways(b:Bd):b.all=b::pnd (b.ways.map (·.2)):=by
 cases b with
 |give x=>unfold Bd.all Bd.ways pnd;rfl
 |lt x d b=>rw[Bd.all];unfold Bd.ways pnd;simp
 |iff x a b=>rw[Bd.all];unfold Bd.ways pnd;simp
 |case x as=>rw[Bd.all,Arms.all_ways];rfl
theorem Zh(a b:List Bd):pnd (a++b)=pnd a++pnd b:=by unfold pnd;rw[Ug]
mutual
theorem Bd.all_len:∀b:Bd,b.all.length<=b.sz
 |.give x=>by unfold Bd.all Bd.sz;exact ud _
 |.lt x d b=>by unfold Bd.all Bd.sz;have:=Bd.all_len b;rw[ul];lia
 |.iff x a b=>by unfold Bd.all Bd.sz;have:=Bd.all_len a;have:=Bd.all_len b;rw[ul,uf];lia
 |.case x as=>by unfold Bd.all Bd.sz;have:=Arms.all_len as;rw[ul];lia
theorem Arms.all_len:∀a:Arms,a.all.length<=a.sz
 |.nil=>by unfold Arms.all Arms.sz;exact ud _
 |.cons t ns b r=>by unfold Arms.all Arms.sz;have:=Bd.all_len b;have:=Arms.all_len r;rw[uf];lia
end
def szs(l:List Bd):Nat:=(l.map Bd.sz).sum
theorem Zi:∀l:List Bd,l.length<=szs l
 |[]=>uX _
 |b::l=>by
  have h1:=Bd.sz_pos' b
  have h2:=Zi l
  unfold szs at h2 ⊢
  rw[uH,Ur,ul]
  lia
theorem XF(a b:List Bd):szs (a++b)=szs a+szs b:=by unfold szs;rw[uq,List.sum_append]
theorem Jl(b:Bd):szs (b.ways.map (·.2)) < b.sz:=by
 have:=Bd.wsz b
 unfold szs
 unfold wsz at this
 rw[tQ]
 exact this
def IsBs(H:Hp)(l:List Bd)(ps:List Addr):Prop:=All2 (IsB H) l ps
theorem IsBs.keep{H H':Hp}{l:List Bd}{ps:List Addr}(h:IsBs H l ps)(t:Tups H H'):IsBs H' l ps:=All2.imp h fun _ _ e=>e.keep t
def mks(m:Nat):Bd->Bool
 |.lt _ (.app w _ xs) _=>decide (w="make") && decide (xs.length=m)
 |_=>false
def armA(x:Str)(w:List Str×Bd):Bool:=decide (w.1.length≠0) && (decide (w.2.mk [x]=0) && w.2.all.any (mks w.1.length))
def yX(x:Str)(as:Arms):Bool:=as.ways.any (armA x)
def jr:Sp:=fun vs H Q _=>∃(p:Addr)(b:Bd),vs=[.ref p]/\IsB H b p/\b.sz<=1000000/\∀H' r ps,Same H H'->H r=none->H' r=some (.lst (ps.map V.ref))->IsBs H' (b.ways.map (·.2)) ps->Q (.ref r) H'
def Jm:Sp:=fun vs H Q _=>∃(p:Addr)(b:Bd),vs=[.ref p]/\IsB H b p/\b.sz<=1000000/\∀H' r ps,Same H H'->H r=none->H' r=some (.lst (ps.map V.ref))->IsBs H' b.all ps->Q (.ref r) H'
def XG:Sp:=fun vs H Q _=>∃(p:Addr)(b:Bd)(m:Nat),vs=[.ref p,.int (m:Nat)]/\IsB H b p/\Q (.bl (mks m b)) H
def Jn(T1 T2:Addr):Sp:=fun vs H Q _=>∃(x t:Str)(pa q r:Addr)(w:List Str×Bd),vs=[.str x,.ref pa]/\H pa=some (.tup [.str t,.ref q,.ref r])/\H q=some (.tup (w.1.map V.str))/\IsB H w.2 r/\w.2.sz<=400000/\Tbs T1 T2 H/\∀H',KM (MT T1 T2) H H'->Tbs T1 T2 H'->Q (.bl (armA x w)) H'
def Jo(T1 T2:Addr):Sp:=fun vs H Q _=>∃(p:Addr)(x:Str)(as:Arms),vs=[.ref p]/\IsB H (.case x as) p/\as.sz<=300000/\Tbs T1 T2 H/\∀H',KM (MT T1 T2) H H'->Tbs T1 T2 H'->Q (.bl (yX x as)) H'
theorem Tbs.noT{T1 T2:Addr}{H:Hp}(h:Tbs T1 T2 H){b:Addr}{u:HO}(e:H b=some u)(n:∀ps,u≠.tbl ps):¬ MT T1 T2 b:=by
 rintro(z|z)
 ·obtain⟨ps,q,_⟩:=h.t1
  rw[z,q]at e
  exact n _ (uP.inj e).symm
 ·obtain⟨ps,q,_⟩:=h.t2
  rw[z,q]at e
  exact n _ (uP.inj e).symm
theorem Tbs.lst{T1 T2:Addr}{H H':Hp}(h:Tbs T1 T2 H)(k:KM (MT T1 T2) H H'){b:Addr}{xs:List V}(e:H b=some (.lst xs)):H' b=some (.lst xs):=k b _ (h.noT e (by intro _ z;cases z)) e
theorem Tbs.tups{T1 T2:Addr}{H H':Hp}(h:Tbs T1 T2 H)(k:KM (MT T1 T2) H H'):Tups H H':=fun b xs e=>k b _ (h.noT e (by intro _ z;cases z)) e
section
variable{P:Program}{w:World}{K:ub}{mg:Str->Option Value}{base:Heap}{f:Addr}{fd:FuncData}
theorem Wu:FnScope ["body"] ["body"] (zo yS):=.ok
theorem Wv:(["body","way"]:List Str).Nodup:=by decide +kernel
theorem YQ(F:Fun K "bodies_within" "bodies_within" yS f fd)(GW:Ca P w K mg base CX0 1 "ways_on" ["body"] YJ):FnOk P w K mg base CX0 2 f fd ["body"] jr:=by
 refine F.by Wu (fun vs H Q E h=>?_) (fun cdv A outer s H vs Q E hr h=>?_)
 ·obtain⟨p,b,rfl,_⟩:=h
  rfl
 obtain⟨p,b,rfl,hb,hz,q⟩:=h
 refine⟨_,(zh (zu (yk ["way"] rfl (zF (cA GW hr (jA1 (jv 0)))) (fun _ _ _ _ _=>(gN 1 Wv)) (fun _ _ _ _ _=>zR) (fun _ _ _ _ _=>(zT (yb K) (jv 1) zj (fun _ _=>rfl)))))),?_⟩
 have sl:=zE
 refine⟨_,rfl,p,b,rfl,hb,hz,fun H1 wl ps s1 hwl hwl1 hy=>?_⟩
 have yl:=hy.len
 have wl1:=vI b.ways
 have wl2:=Bd.wsz b
 refine⟨wl,rfl,⟨_,SqL.of hwl1⟩,zX (xs:=ps.map V.ref) (fun j τ ys H'=>H1=H'/\(∃v,τ=[some (.ref p),v])/\∃rs:List Addr,ys=rs.map V.ref/\IsBs H1 ((b.ways.take j).map (·.2)) rs) ⟨rfl,⟨none,rfl⟩,[],rfl,.nil⟩ (fun j τ ys H' _ h=>SqL.of (h.1 ▸ hwl1)) ?_ ?_⟩
 ·rintro j v τ ys H2 hv ⟨rfl,⟨v',rfl⟩,rs,rfl,hk⟩
  rw[ue]at hv
  obtain⟨pw,hpw,rfl⟩:=uh.mp hv
  obtain⟨xs,b',q1,r1,e1,e2,e3,e4⟩:=hy.get hpw
  have kl:=All2.len hk
  rw[ua,uD]at kl
  refine⟨_,rfl,ixT e2 aI1 ⟨by have:=(uc.mp e1).1;rw[ua];lia,rfl,⟨_,rfl⟩,rs++[r1],by simp,?_⟩⟩
  rw[uv,e1]
  show IsBs _ (((b.ways.take j)++[(xs,b')]).map (·.2)) _
  rw[uq]
  exact All2.app hk (.cons e4 .nil)
 rintro τ ys H2 ⟨rfl,_,rs,rfl,hk⟩ l hl
 rw[ua,<- yl,uj (ud _)]at hk
 exact q _ l rs (s1.new hl) (s1.free hl) upd_same (hk.keep (.of (zn hl _)))
theorem scBIn:FnScope ["body","found","left","one","within"] ["body"] (zo wu):=.ok
theorem zcp(F:Fun K "bodies_in" "bodies_in" wu f fd)(GW:Ca P w K mg base CX0 2 "bodies_within" ["body"] jr)(m_len:mg "len"=none)(m_reversed:mg "reversed"=none):FnOk P w K mg base CX0 3 f fd ["body"] Jm:=by
 refine F.by scBIn (fun vs H Q E h=>?_) (fun cdv A outer s H vs Q E hr h=>?_)
 ·obtain⟨p,b,rfl,_⟩:=h
  rfl
 obtain⟨p,b,rfl,hb,hz,q⟩:=h
 refine⟨_,
  (zg (sE 1 scBIn.nd (zB zD))
  (zg (sE 2 scBIn.nd (zB (jA1 (jv 0))))
  (zg (vi PassesOwn.never (tN jg (jL m_len (jv 2)) zj)
   (zg (sE 3 scBIn.nd (Yp uA PySem.F.slot_list_pop PySem.F.type_list_pop Vf (jv 2)))
   (zg (zG (yy uA uN uO zK (jv 1) (jA1 (jv 3))))
   (zh (zJ PassesOwn.never rfl (zbX rfl m_reversed (jA1 (cA GW hr (jA1 (jv 3))))) (gN 4 scBIn.nd)
    (zh (zG (yy uA uN uO zK (jv 2) (jA1 (jv 4))))))))))
  (zh (zu (jv 1)))))),?_⟩
 have sl:=zE
 refine⟨sN0,fun fo h0=>⟨_,rfl,sN1,fun lf h2=>?_⟩⟩
 have s1:=zn (o:=.lst []) h0
 have flf:H lf=none:=s1.free h2
 have s2:=s1.new (o:=.lst [.ref p]) h2
 have nfl:fo≠lf:=zk (upd_same (H:=H) (a:=fo) (o:=.lst [])) h2
 refine⟨fun m σ H'=>∃(stk acc:List Bd)(ps qs:List Addr)(x y:Option V),m=szs stk/\σ=[some (.ref p),some (.ref fo),some (.ref lf),x,y]/\Same H H'/\H' lf=some (.lst (ps.reverse.map V.ref))/\IsBs H' stk ps/\H' fo=some (.lst (qs.map V.ref))/\IsBs H' acc qs/\acc++pnd stk=b.all/\szs stk<=1000000,
  ⟨_,[b],[],[p],[],none,none,rfl,rfl,s2,upd_same,.cons (hb.keep (.of s2)) .nil,old h2 upd_same,.nil,by unfold pnd;simp,by unfold szs;simpa using hz⟩,?_⟩
 have bl:=Bd.all_len b
 rintro m σ H3 ⟨stk,acc,ps,qs,x,y,rfl,rfl,sm,hl,hy,hf,ha,ho,hwz⟩
 refine⟨_,rfl,_,_,rfl,.inl (SqL.of hl),_,_,rfl,rfl,_,rfl,?_⟩
 cases hy with
 |nil =>
  refine iteF ⟨_,rfl,q _ fo qs sm h0 hf ?_⟩
  rw[show acc++pnd []=acc from uu _]at ho
  rw[<- ho]
  exact ha
 |@cons b1 pp l ps hb1 hy =>
  have hne:decide ((0:Int) < ((((pp::ps).reverse.map V.ref).length:Nat):Int))=true:=by
   rw[decide_eq_true_eq,ua,Uk,ul]
   lia
  rw[hne]
  refine iteT ⟨_,fun _ _ h=>h,?_⟩
  have e1:(pp::ps).reverse.map V.ref=ps.reverse.map V.ref++[.ref pp]:=by simp
  have e2:((pp::ps).reverse.map V.ref)[((pp::ps).reverse.map V.ref).length-1]?=some (.ref pp):=by rw[e1];simp
  have e3:((pp::ps).reverse.map V.ref).dropLast=ps.reverse.map V.ref:=by rw[e1];simp
  refine⟨_,rfl,.inl ⟨rfl,_,SqL.of hl⟩,lf,_,_,rfl,rfl,hl,e2,?_⟩
  rw[e3]
  have t4:Tups H3 (upd H3 lf (.lst (ps.reverse.map V.ref))):=fun b xs z=>by rw[zi (yN z hl (by intro z;cases z))];exact z
  have s4:=sm.put (o:=.lst (ps.reverse.map V.ref)) flf
  have hl4:=upd_same (H:=H3) (a:=lf) (o:=.lst (ps.reverse.map V.ref))
  have hf4:upd H3 lf (.lst (ps.reverse.map V.ref)) fo=some (.lst (qs.map V.ref)):=by rw[zi nfl];exact hf
  replace hb1:=hb1.keep t4
  replace hy:IsBs _ l ps:=IsBs.keep hy t4
  replace ha:=ha.keep t4
  generalize upd H3 lf (.lst (ps.reverse.map V.ref))=H4 at *
  have hpd:pnd (b1::l)=b1::(pnd (b1.ways.map (·.2))++pnd l):=by unfold pnd;rw[Uo,Bd.all_ways];rfl
  rw[hpd]at ho
  have hol:=congrArg tZ ho
  rw[uf,ul]at hol
  have hwc:szs (b1::l)=b1.sz+szs l:=by unfold szs;rw[uH,Ur]
  rw[hwc]at hwz
  have aql:=All2.len ha
  have hyl:=All2.len hy
  have hll:=Zi l
  have wsz1:=Jl b1
  have wsz2:=Zi (b1.ways.map (·.2))
  refine⟨_,rfl,.inl ⟨rfl,_,SqL.of hf4⟩,_,rfl,fo,_,_,rfl,rfl,hf4,by rw[ua];lia,?_⟩
  have t5:Tups H4 (upd H4 fo (.lst (qs.map V.ref++[.ref pp]))):=fun b xs z=>by rw[zi (yN z hf4 (by intro z;cases z))];exact z
  have s5:=s4.put (o:=.lst (qs.map V.ref++[.ref pp])) h0
  have hf5:=upd_same (H:=H4) (a:=fo) (o:=.lst (qs.map V.ref++[.ref pp]))
  have hl5:upd H4 fo (.lst (qs.map V.ref++[.ref pp])) lf=some (.lst (ps.reverse.map V.ref)):=by rw[zi nfl.symm];exact hl4
  have ha5:IsBs (upd H4 fo (.lst (qs.map V.ref++[.ref pp]))) (acc++[b1]) (qs++[pp]):=All2.app (ha.keep t5) (.cons (hb1.keep t5) .nil)
  replace hb1:=hb1.keep t5
  replace hy:=hy.keep t5
  generalize upd H4 fo (.lst (qs.map V.ref++[.ref pp]))=H5 at *
  refine⟨_,rfl,pp,b1,rfl,hb1,by lia,fun H6 rl rs s6 f6 hrl hyw=>?_⟩
  have hywl:=All2.len hyw
  have nlr:lf≠rl:=zk hl5 f6
  refine⟨rl,_,rfl,SqL.of hrl,QA (xs:=rs.map V.ref) (fun i σ H'=>Same H H'/\Tups H6 H'/\H' rl=some (.lst (rs.map V.ref))/\H' lf=some (.lst ((ps.reverse++rs.reverse.take i).map V.ref))/\H' fo=some (.lst (qs.map V.ref++[.ref pp]))/\∃z,σ=[some (.ref p),some (.ref fo),some (.ref lf),some (.ref pp),z]) ⟨s5.trans s6,fun _ _ h=>h,hrl,by rw[List.take_zero,uu];exact s6 _ _ hl5,s6 _ _ hf5,_,rfl⟩ (fun i σ H' _ h=>SqL.of h.2.2.1) ?_ ?_⟩
  ·rintro i v σ H7 hv ⟨s7,t7,hr7,hl7,hf7,z,rfl⟩
   rw[<- List.map_reverse,ue]at hv
   obtain⟨t,ht,rfl⟩:=uh.mp hv
   have hi:i < rs.length:=by
    have:=(uc.mp ht).1
    rw[Uk]at this
    exact this
   refine⟨_,rfl,.inl ⟨rfl,_,SqL.of hl7⟩,_,rfl,lf,_,_,rfl,rfl,hl7,?_,s7.put flf,fun b xs z=>?_,?_,?_,?_,_,rfl⟩
   ·rw[ua,uf,Uk,uD]
    lia
   ·rw[zi (yN (t7 _ _ z) hl7 (by intro e;cases e))]
    exact t7 _ _ z
   ·rw[zi nlr.symm]
    exact hr7
   ·rw[upd_same,uv,ht]
    simp
   ·rw[zi nfl]
    exact hf7
  rintro σ H7 ⟨s7,t7,hr7,hl7,hf7,z,rfl⟩
  rw[ua,<- Uk,uj (ud _),<- List.reverse_append]at hl7
  refine⟨szs (b1.ways.map (·.2)++l),?_,b1.ways.map (·.2)++l,acc++[b1],rs++ps,qs++[pp],_,_,rfl,rfl,s7,hl7,All2.app (hyw.keep t7) ((hy.keep (.of s6)).keep t7),by rw[hf7,uq];rfl,(ha5.keep (.of s6)).keep t7,?_,?_⟩
  ·rw[XF,hwc]
   lia
  ·rw[Zh,<- ho,Ui]
   rfl
  ·rw[XF]
   lia
theorem zad:FnScope ["body","many"] ["body","many"] (zo Yw):=.ok
theorem Jp(F:Fun K "makes" "makes" Yw f fd)(m_len:mg "len"=none):FnOk P w K mg base CX0 1 f fd ["body","many"] XG:=by
 refine F.by zad (fun vs H Q E h=>?_) (fun cdv A outer s H vs Q E hr h=>?_)
 ·obtain⟨p,b,m,rfl,_⟩:=h
  rfl
 obtain⟨p,b,m,rfl,hb,q⟩:=h
 refine⟨_,
  (zh (zu (jP (wR zA (xT 0) zp (w9 _)) (jP (wR zA (zT zY (xT 0) zj (fun _ _=>rfl)) zp (w9 _)) (Vc (wR zA (jL m_len (zT zY (xT 0) zj (fun _ _=>rfl))) (jv 1) (w9 _))))))),?_⟩
 cases hb with
 |give hp=>exact⟨_,rfl,ixT hp aI0 ⟨rfl,_,rfl,ite2 aB (fun _=>q)⟩⟩
 |iff hp _ _=>exact⟨_,rfl,ixT hp aI0 ⟨rfl,_,rfl,ite2 aB (fun _=>q)⟩⟩
 |case hp _ _ _=>exact⟨_,rfl,ixT hp aI0 ⟨rfl,_,rfl,ite2 aB (fun _=>q)⟩⟩
 |@lt x d b _ p1 p2 hp hd hb =>
  refine⟨_,rfl,ixT hp aI0 ⟨rfl,_,rfl,ite2 (fun _=>?_) aB⟩⟩
  cases hd with
  |num h1=>exact⟨_,rfl,ixT hp aI2 (ixT h1 aI0 ⟨rfl,_,rfl,ite2 aB (fun _=>q)⟩)⟩
  |op h1=>exact⟨_,rfl,ixT hp aI2 (ixT h1 aI0 ⟨rfl,_,rfl,ite2 aB (fun _=>q)⟩)⟩
  |@app w0 g xs _ pq hw h1 h2 =>
   refine⟨_,rfl,ixT hp aI2 (ixT h1 aI0 ⟨rfl,_,rfl,ite2 (fun c=>?_) (fun c=>?_)⟩)⟩
   ·have e:w0="make":=V.str.inj (of_decide_eq_true c)
    refine⟨_,rfl,ixT hp aI2 (ixT h1 aI2 ⟨pq,_,rfl,.inr (SqT.of h2),_,rfl,rfl,?_⟩)⟩
    have e2:decide (V.int (((xs.map V.str).length:Nat):Int)=V.int (m:Nat))=mks m (.lt x (.app w0 g xs) b):=by
     show _=(decide (w0="make") && decide (xs.length=m))
     rw[decide_eq_true e,tJ,ua]
     exact decide_eq_decide.mpr ⟨fun z=>by have:=V.int.inj z;lia,fun z=>by rw[z]⟩
    rw[e2]
    exact q
   ·have e:¬ w0="make":=fun e=>c (decide_eq_true (by rw[e]))
    have e2:mks m (.lt x (.app w0 g xs) b)=false:=by
     show(decide (w0="make") && decide (xs.length=m))=false
     rw[decide_eq_false e,Uu]
    rw[e2]at q
    exact q
theorem scArmA:FnScope ["name","arm","many"] ["name","arm"] (zo vE):=.ok
theorem zcq:(["name","arm","many","within"]:List Str).Nodup:=by decide +kernel
theorem zae{T1 T2:Addr}(F:Fun K "arm_uses_anew" "arm_uses_anew" vE f fd)(GA:Ca P w K mg base CX0 7 "ahead" ["body","names"] (XE T1 T2))(GI:Ca P w K mg base CX0 3 "bodies_in" ["body"] Jm)(GM:Ca P w K mg base CX0 1 "makes" ["body","many"] XG)(m_len:mg "len"=none)(m_any:mg "any"=none):FnOk P w K mg base CX0 8 f fd ["name","arm"] (Jn T1 T2):=by
 refine F.by scArmA (fun vs H Q E h=>?_) (fun cdv A outer s H vs Q E hr h=>?_)
 ·obtain⟨x,t,pa,q,r,w,rfl,_⟩:=h
  rfl
 obtain⟨x,t,pa,pq,pr,⟨ns,b⟩,rfl,hpa,hpq,hb,hz,hT,q⟩:=h
 have hr3:Room 3 _:=hr.mono (by decide)
 have hr1:Room 1 _:=hr.mono (by decide)
 refine⟨_,
  (zg (sE 2 scArmA.nd (jL m_len (xT 1)))
  (zg (zy (jW.pt (wM (tN zA (jv 2) zj) (xD (tN Xe (cA GA hr (jA2 (xT 1) (zB (jA1 (jv 0))))) zj))))
   (zh (zu yC)) zv)
  (zh (zu (xE (xY rfl) rfl m_any PyProof.Rows.boot_any (jA1 (yk ["within"] rfl (zF (cA GI hr3 (jA1 (xT 1)))) (fun _ _ _ _ _=>(gN 3 zcq)) (fun _ _ _ _ _=>zR) (fun _ _ _ _ _=>(cA GM hr1 (jA2 (jv 3) (jv 2))))))))))),?_⟩
 have sl:=zE
 have bl:=Bd.all_len b
 refine⟨_,rfl,ixT hpa aI1 ⟨pq,_,rfl,.inr (SqT.of hpq),?_⟩⟩
 refine⟨_,rfl,rfl,_,rfl,?_⟩
 rw[ua]
 refine ite2 (fun c=>?_) (fun c=>?_)
 ·have c:ns.length=0:=by have:=V.int.inj (of_decide_eq_true c);lia
  refine iteT ?_
  have e:armA x (ns,b)=false:=by show(decide (ns.length≠0) && _)=false;rw[decide_eq_false (by lia),Uu]
  rw[e]at q
  exact q H KM.refl hT
 have c:ns.length≠0:=fun z=>c (decide_eq_true (by rw[z];rfl))
 refine⟨_,rfl,ixT hpa aI2 ⟨_,rfl,sN1,fun l1 h1=>?_⟩⟩
 have s1:=zn (o:=.lst [.str x]) h1
 refine⟨pr,l1,b,[x],rfl,hb.keep (.of s1),hz,upd_same,by simp,by show 1<=1000;decide,hT.same s1,fun H2 k2 T2'=>⟨rfl,_,rfl,?_⟩⟩
 have k02:KM (MT T1 T2) H H2:=(KM.of s1).trans k2
 have tp:=hT.tups k02
 refine ite2 (fun c2=>?_) (fun c2=>?_)
 ·have c2:b.mk [x]≠0:=fun z=>by rw[z]at c2;exact absurd c2 (by decide)
  have e:armA x (ns,b)=false:=by show(decide (ns.length≠0) && (decide (b.mk [x]=0) && _))=false;rw[decide_eq_false c2,Uu,Bool.and_false]
  rw[e]at q
  exact q H2 k02 T2'
 have c2:b.mk [x]=0:=by
  by_cases z:b.mk [x]=0
  ·exact z
  ·refine absurd ?_ c2
   show(!decide (V.int ((b.mk [x]:Nat):Int)=V.int 0))=true
   rw[decide_eq_false (fun y=>z (by have:=V.int.inj y;lia))]
   rfl
 refine⟨_,rfl,ixT (tp _ _ hpa) aI2 ⟨pr,b,rfl,hb.keep tp,by lia,fun H3 r3 ps s3 hr3' hr3 hbs=>?_⟩⟩
 have al:=All2.len hbs
 refine⟨r3,rfl,⟨_,SqL.of hr3⟩,zX (xs:=ps.map V.ref) (fun j τ ys H'=>H3=H'/\(∃v,τ=[some (.str x),some (.ref pa),some (.int (ns.length:Nat)),v])/\ys=((b.all.take j).map (mks ns.length)).map V.bl) ⟨rfl,⟨none,rfl⟩,rfl⟩ (fun j τ ys H' _ h=>SqL.of (h.1 ▸ hr3)) ?_ ?_⟩
 ·rintro j v τ ys H4 hv ⟨rfl,⟨v',rfl⟩,rfl⟩
  rw[ue]at hv
  obtain⟨pw,hpw,rfl⟩:=uh.mp hv
  obtain⟨b1,e1,e2⟩:=All2.get hbs hpw
  refine⟨_,rfl,_,rfl,pw,b1,ns.length,rfl,e2,by rw[ua,ua,uD];have:=(uc.mp e1).1;lia,rfl,⟨_,rfl⟩,?_⟩
  rw[uv,e1]
  simp
 rintro τ ys H4 ⟨rfl,_,rfl⟩ l4 h4
 rw[ua,<- al,uj (ud _)]
 have s4:=s3.new (o:=.lst ((b.all.map (mks ns.length)).map V.bl)) h4
 refine⟨l4,_,rfl,SqL.of upd_same,?_⟩
 have e:(b.all.map (mks ns.length)).any id=armA x (ns,b):=by
  show _=(decide (ns.length≠0) && (decide (b.mk [x]=0) && b.all.any (mks ns.length)))
  rw[decide_eq_true c,decide_eq_true c2,tJ,tJ,List.any_map]
  rfl
 rw[show(b.all.map (mks ns.length)).any _root_.id=armA x (ns,b)from e]
 exact q _ (k02.trans (.of s4)) (T2'.same s4)
theorem zcr:FnScope ["body"] ["body"] (zo wx):=.ok
theorem zcs:(["body","arm"]:List Str).Nodup:=by decide +kernel
theorem xZ:∀{as:Arms}{i:Nat}{ns:List Str}{b:Bd},as.ways[i]?=some (ns,b)->b.sz<=as.sz
 |.nil,i,ns,b,h=>by unfold Arms.ways at h;simp at h
 |.cons t n c r,0,ns,b,h=>by
  unfold Arms.ways at h
  simp at h
  rw[Arms.sz,<- h.2]
  lia
 |.cons t n c r,i+1,ns,b,h=>by
  unfold Arms.ways at h
  have:=xZ (as:=r) (i:=i) (by simpa using h)
  rw[Arms.sz]
  lia
theorem zaf{T1 T2:Addr}(F:Fun K "uses_anew" "uses_anew" wx f fd)(GA:Ca P w K mg base CX0 8 "arm_uses_anew" ["name","arm"] (Jn T1 T2))(m_any:mg "any"=none):FnOk P w K mg base CX0 9 f fd ["body"] (Jo T1 T2):=by
 refine F.by zcr (fun vs H Q E h=>?_) (fun cdv A outer s H vs Q E hr h=>?_)
 ·obtain⟨p,x,as,rfl,_⟩:=h
  rfl
 obtain⟨p,x,as,rfl,hb,hz,hT,q⟩:=h
 refine⟨_,
  (zh (zu (xE (xY rfl) rfl m_any PyProof.Rows.boot_any (jA1 (yk ["arm"] rfl (yK (xT 0)) (fun _ _ _ _ _=>(gN 1 zcs)) (fun _ _ _ _ _=>zR) (fun _ _ _ _ _=>(cA GA hr (jA2 (zT (yb K) (jv 0) zj (fun _ _=>rfl)) (jv 1))))))))),?_⟩
 have sl:=zE
 cases hb with
 |@case x as ps _ p1 hp hp1 hl0 hA =>
 have al:=hA.len
 have az:=Ze as
 refine⟨_,rfl,ixT hp aI2 ⟨p1,rfl,⟨_,SqT.of hp1⟩,Ys (xs:=ps.map V.ref) (fun j τ ys H'=>KM (MT T1 T2) H H'/\Tbs T1 T2 H'/\(∃v,τ=[some (.ref p),v])/\ys=((as.ways.take j).map (armA x)).map V.bl) ⟨KM.refl,hT,⟨none,rfl⟩,rfl⟩ (fun j τ ys H' _ h=>SqT.of (hT.tups h.1 _ _ hp1)) ?_ ?_⟩⟩
 ·rintro j v τ ys H1 hv ⟨k1,T1',⟨v',rfl⟩,rfl⟩
  rw[ue]at hv
  obtain⟨pa,hpa,rfl⟩:=uh.mp hv
  obtain⟨t,q1,r1,ns,b,e1,e2,e3,e4⟩:=hA.get hpa
  have tp:=hT.tups k1
  have:=xZ e1
  refine⟨_,rfl,ixT (tp _ _ hp) aI1 ⟨_,rfl,x,t,pa,q1,r1,(ns,b),rfl,tp _ _ e2,tp _ _ e3,e4.keep tp,by show b.sz<=_;lia,T1',fun H2 k2 T2'=>⟨?_,k1.trans k2,T2',⟨_,rfl⟩,?_⟩⟩⟩
  ·rw[ua,ua,uD]
   have:=(uc.mp e1).1
   lia
  ·rw[uv,e1]
   simp
 rintro τ ys H1 ⟨k1,T1',_,rfl⟩ l hl
 rw[ua,<- al,uj (ud _)]
 refine⟨l,_,rfl,SqL.of upd_same,?_⟩
 rw[show(as.ways.map (armA x)).any _root_.id=yX x as by unfold yX;rw[List.any_map];rfl]
 exact q _ (k1.new hl) (T1'.same (zn hl _))
end
end GN
namespace L2
open PySem PySem.Spec PyProof.Rows
section
variable{prog:Program}{w:World}{K:Type}[DecidableEq K]{knd:HeapKind prog w K}{A:Around}{E:Value->Shared->Prop}{s:Shared}
theorem yM{d a:Addr}{xs:List (K×Addr×Value)}{k:K}{v:Value}{Q:Value->Shared->Prop}(hu:knd.room A)(hkey:knd.is s.heap k a)(hm:s.heap.DictOfH knd d xs)
  (h1:∀p,atKey xs k=some p->Q p.2 { s with toks:=s.toks+knd.draws k })
  (h2:atKey xs k=none->∀h',h'.DictOfH knd d (storedH xs k a v)->Heap.SameBut d s.heap h'->Q v { s with heap:=h',toks:=s.toks+knd.draws k })
  (hsz:xs.length<=sizeLine) :
  wpAny (model prog w) A (dictSetDefault d (.ref a) v) Q E s:=by
 obtain⟨o,es,ep,ho,hc,hd,he,his,hn⟩:=hm
 unfold dictSetDefault
 try with_reducible refine wpAny_holding ?_
 refine wpAny_bind (knd.pyHash hu hkey ?_)
 refine wpAny_bind (wpAny_dictFind_heap (s:={ s with toks:=s.toks+knd.draws k }) hu hkey ho hd he his hn ?_ ?_)
 ·intro hno
  have hnot:k∉xs.map (·.1):=not_mem_keys_of_get hno
  refine wpAny_bind (wpAny_rule (wpAny_bind (wpAny_updateDictKeys (hz:=by have e:=size_of_entries he;lia) (s:={ s with toks:=s.toks+knd.draws k }) ho hd (wpAny_pure (h2 (atKey_none_of_get hno) _ ⟨_,_,ep+1,UC _ ho (Obj.isFreed_of_dict (Obj.data_mapDictKeys hd _)),
   hc.mapDictKeys _,Obj.data_mapDictKeys hd _,?_,?_,?_⟩ (Heap.SameBut.update ..))))))
  ·rw[storedH_new (atKey_none_of_get hno)]
   simp[he,entryOfKey]
  ·rw[storedH_new (atKey_none_of_get hno)]
   intro x hx
   rcases uz.mp hx with hx|hx
   ·exact knd.keeps (his x hx) ho hd (Heap.SameBut.update ..)
   ·simp only[ui]at hx
    subst hx
    exact knd.keeps hkey ho hd (Heap.SameBut.update ..)
  ·rw[storedH_new (atKey_none_of_get hno)]
   rw[uq,List.nodup_append]
   refine⟨hn,by simp,?_⟩
   intro x hx y hy
   simp only[uH,List.map_nil,ui]at hy
   subst hy
   exact fun e=>hnot (e ▸ hx)
 ·intro j p hj
  refine wpAny_bind (wpAny_dictEntries (s:={ s with toks:=s.toks+knd.draws k }) ho hd ?_)
  rw[entry_at he j,hj]
  exact wpAny_bind (wpAny_rule (wpAny_pure (h1 p (atKey_of_get hn hj))))
theorem x5{d a:Addr}(hd:(d == sysModules)=false)(dflt:Value):
  MeetsIn prog w (Builtin.«dict.setdefault» ⟨[.ref d,.ref a,dflt],[]⟩) (fun A R s=>knd.room A.in1/\∃k xs,knd.is s.heap k a/\s.heap.DictOfH knd d xs/\xs.length<=sizeLine /\
   (∀p,atKey xs k=some p->R (.ok (.ret p.2)) { s with toks:=s.toks+knd.draws k }) /\
   (atKey xs k=none->∀h',h'.DictOfH knd d (storedH xs k a dflt)->Heap.SameBut d s.heap h'->R (.ok (.ret dflt)) { s with heap:=h',toks:=s.toks+knd.draws k })) :=
 .of_wp fun A R s hh=>by
  obtain⟨hu,k,xs,hkey,hm,hz,h1,h2⟩:=hh
  unfold Builtin.«dict.setdefault»
  refine wpAny_bind ?_
  unfold Builtin.Dict.keyAndDefault
  refine wpAny_bind (wpAny_notOrdered_dict hm.typeIs ?_)
  show wpAny _ _ (pure (d,Value.ref a,some dflt)) _ _ s
  refine wpAny_pure ?_
  show wpAny _ _ (if(d == sysModules)=true then _ else(dictSetDefault d (.ref a) dflt >>= _)) _ _ s
  rw[if_neg (by rw[hd];exact ux)]
  exact wpAny_bind (yM hu hkey hm (fun p hp=>wpAny_pure ⟨p.2,rfl,h1 p hp⟩) (fun hn h' hm' hs'=>wpAny_pure ⟨dflt,rfl,h2 hn h' hm' hs'⟩) hz)
end
def Jq(td ty tx:TE):TE:=fun σ H Q=>td σ H fun x H1=>∃a,x=.ref a/\IsD H1 a/\ty σ H1 fun y H2=>tx σ H2 fun z H3=>∃kvs k b,H3 a=some (.dT kvs)/\y=.ref b/\H3 b=some (.tup (k.map kV))/\kvs.length < sizeLine/\(∀v,valV kvs k=some v->Q v H3)/\(valV kvs k=none->Q z (upd H3 a (.dT (putK kvs k z))))
section
variable{X:Cx}{o e f:Expr}{td ty tx:TE}{apos cpos:Pos}{k:Nat}
theorem Jr(hu:X.A.units+1 < cLine)(ho:PE X o td)(he:PE X e ty)(hf:PE X f tx)(m:M2 X o "setdefault" apos e f cpos):PE X (.Call (.Attribute o "setdefault" apos) [e,f] [] cpos) (Jq td ty tx):=by
 intro pins s σ H Q I h
 refine wpAny_Call_method m.base m.few m.line PySem.F.plainAttrs_dict PySem.F.slot_dict_setdefault PySem.F.type_dict_setdefault (thn (ho pins s σ H _ I h) fun u s1 ⟨x,H1,I1,rx,a,ex,d,q1⟩=>?_)
 subst ex
 obtain rfl:u=Value.ref a:=rx
 obtain⟨t1,t2,_⟩:=Vw I1 d
 refine⟨t1,t2,?_⟩
 rw[m.trees]
 refine Calls.callWith_builtin rfl (Calls.evalArgs_plain (Calls.spliced_cons (thn (he pins s1 σ H1 _ I1 q1) fun iv s2 ⟨y,H2,I2,ry,q2⟩ =>
  Calls.spliced_cons (thn (hf pins s2 σ H2 _ I2 q2) fun fv s3 ⟨z,H3,I3,rz,kvs,k,b,e1,ey,eb,l,q3,q4⟩=>Calls.spliced_nil ?_))))
 subst ey
 cases(show iv=Value.ref b from ry)
 obtain⟨zz,hd,xs,rel,dd⟩:=za0 I3.hok e1
 have hz:xs.length<=sizeLine:=by rw[<- Paired.length rel];exact zz
 have hl:(putK kvs k z).length<=sizeLine:=by have:=yc kvs k z;lia
 refine call_meetsIn PySem.F.slot_dict_setdefault dd.typeIs PySem.F.entry_dict_setdefault (PySem.F.args_dict_setdefault_3 _ _ _) (x5 (knd:=tupleKind (ya X.prog X.w)) hd fv) ⟨tupleKind_room_in1 hu,k,xs,xF I3.hok eb,dd,hz,fun p hp=>?_,fun hn h' dd' hs=>?_⟩
 ·have rv:=rel.val k
  rw[hp]at rv
  cases hv:valV kvs k with
  |none=>rw[hv]at rv;exact False.elim rv
  |some v =>
   rw[hv]at rv
   exact⟨v,H3,I3.tok _,rv,q3 v hv⟩
 ·have rv:=rel.val k
  rw[hn]at rv
  cases hv:valV kvs k with
  |some v=>rw[hv]at rv;exact False.elim rv
  |none =>
   obtain⟨q,es,ep,hq,h2,h3,h4,_,h5⟩:=dd'
   refine⟨z,upd H3 a (.dT (putK kvs k z)),jZ (ob:=.dT (putK kvs k z)) I3 (by rw[e1];exact True.intro) hs ⟨q,hq⟩ ⟨hl,hd,_,(rel.put k eb rz).keeps fun c ys ec=>?_,q,es,ep,hq,h2,h3,h4,h5⟩,rz,q4 hv⟩
   rw[zi (yN ec e1 (by intro z;cases z))]
   exact ec
theorem Js(hr:Room k X.A)(ho:jE X o td)(he:jE X e ty)(hf:jE X f tx)(m:M2 X o "setdefault" apos e f cpos:=by exact⟨rfl,rfl,rfl,rfl⟩):jE X (.Call (.Attribute o "setdefault" apos) [e,f] [] cpos) (Jq td ty tx):=⟨Jr (Zy hr) ho.out he.out hf.out m⟩
end
section
variable{X:Cx}{k:Nat}{o e f i:Expr}{td ty tx:TE}{apos cpos pos:Pos}
theorem Zj(hr:Room k X.A)(hi:jE X i ty)(ho:jE X o td)(h1:behindInMarks .In o=false:=by rfl):jT X (.Compare i [.In] [o] pos) (tB (tDIn ty td)):=⟨WL (zbZ (Zy hr) hi.out ho.out) (h1:=h1)⟩
theorem Ww(hr:Room k X.A)(hi:jE X i ty)(ho:jE X o td)(h1:behindInMarks .NotIn o=false:=by rfl):jT X (.Compare i [.NotIn] [o] pos) (tB (Xl ty td)):=⟨WL (We (Zy hr) hi.out ho.out) (h1:=h1)⟩
end
end L2
namespace L2
open PySem
theorem vP{X:Cx}{pos:Pos}:jE X (.Dict [] [] pos) Vt:=⟨Vv⟩
end L2
namespace GN
open PySem L2 K11
def pixR:List Str->Str->Option Nat
 |[],_=>none
 |y::r,x=>if y=x then some r.length else pixR r x
def pix(ns:List Str)(x:Str):Option Nat:=pixR ns.reverse x
theorem Jt(l:List Str)(x y:Str):pix (l++[y]) x=if y=x then some l.length else pix l x:=by
 unfold pix
 rw[List.reverse_append,List.reverse_singleton]
 show(if y=x then some l.reverse.length else pixR l.reverse x)=_
 rw[Uk]
theorem XH:∀{l:List Str}{x:Str}{k:Nat},pixR l x=some k->k < l.length
 |y::r,x,k,h=>by
  unfold pixR at h
  split at h
  ·cases h;exact tP _
  ·exact Nat.lt_succ_of_lt (XH h)
theorem zct{l:List Str}{x:Str}{k:Nat}(h:pix l x=some k):k < l.length:=by
 have:=XH h
 rwa [Uk]at this
structure US where
 hd:Str->Bool
 F:Str->Nat->Option Str
 C:Str->Nat->List (Str×Nat)
def US0:US:=⟨fun _=>false,fun _ _=>none,fun _ _=>[]⟩
def addR(z:Str)(ns:List Str)(r:Str)(st:US)(x:Str):US:=match pix ns x with
 |none=>st
 |some k=>{ st with F:=fun z' k'=>if z'=z/\k'=k then some r else st.F z' k' }
def addC1(z:Str)(ns:List Str)(g:Str)(j:Nat)(st:US)(x:Str):US:=match pix ns x with
 |none=>st
 |some k=>{ st with C:=fun z' k'=>if z'=g/\k'=j then st.C z' k'++[(z,k)]else st.C z' k' }
def addC(z:Str)(ns:List Str)(g:Str)(st:US)(xs:List Str):US:=xs.zipIdx.foldl (fun st p=>addC1 z ns g p.2 st p.1) st
abbrev kz(z:Str)(k:Nat):List Key:=[.inr z,.inl ((k:Nat):Int)]
theorem kz_inj{z z':Str}{k k':Nat}:kz z k=kz z' k'↔z=z'/\k=k':=by
 unfold kz
 constructor
 ·intro h
  injection h with h1 h2
  injection h2 with h2 _
  refine⟨Sum.inr.inj h1,?_⟩
  have:=Sum.inl.inj h2
  lia
 ·rintro⟨rfl,rfl⟩;rfl
def PairsAt(H:Hp)(l:List (Str×Nat))(ts:List Addr):Prop:=All2 (fun(e:Str×Nat) t=>H t=some (.tup [.str e.1,.int ((e.2:Nat):Int)])) l ts
theorem PairsAt.keep{H H':Hp}{l:List (Str×Nat)}{ts:List Addr}(h:PairsAt H l ts)(t:Tups H H'):PairsAt H' l ts:=All2.imp h fun _ _ e=>t _ _ e
structure UO where
 u:Addr
 dx:Addr
 dh:Addr
 df:Addr
 dc:Addr
structure Un(K:ub)(cU:Addr):Prop where
 cl:Cls K cU
 b1:NoAttr K cU "handed"
 b2:NoAttr K cU "found"
 b3:NoAttr K cU "calls"
def zag(H:Hp)(L:Addr->Prop)(kc:List (List Key×V))(C:Str->Nat->List (Str×Nat)):Prop:=∀z k,(valV kc (kz z k)=none/\C z k=[])\/∃l ts,valV kc (kz z k)=some (.ref l)/\L l/\H l=some (.lst (ts.map V.ref))/\PairsAt H (C z k) ts
structure IsU(cU T1 T2:Addr)(H:Hp)(o:UO)(L:Addr->Prop)(st:US)(n:Nat):Prop where
 ob:H o.u=some (.ins cU o.dx [("handed",.ref o.dh),("found",.ref o.df),("calls",.ref o.dc)])
 tb:Tbs T1 T2 H
 ne:o.df≠o.dc
 h:∃kh,H o.dh=some (.dK kh)/\kh.length<=n/\∀z,(valV kh (.inr z)).isSome=st.hd z
 f:∃kf,H o.df=some (.dT kf)/\kf.length<=n/\∀z k,valV kf (kz z k)=(st.F z k).map V.str
 c:∃kc,H o.dc=some (.dT kc)/\kc.length<=n/\(∀z k z' k' l,valV kc (kz z k)=some (.ref l)->valV kc (kz z' k')=some (.ref l)->z=z'/\k=k')/\zag H L kc st.C
 cl:∀z k,(st.C z k).length<=n
 ll:∀b,L b->∃xs,H b=some (.lst xs)
def Ow(T1 T2:Addr)(o:UO)(L:Addr->Prop)(b:Addr):Prop:=b=o.dh\/b=o.df\/b=o.dc\/L b\/MT T1 T2 b
def KU(T1 T2:Addr)(o:UO)(L:Addr->Prop)(H H':Hp):Prop:=KM (Ow T1 T2 o L) H H'
structure Gr(T1 T2:Addr)(o:UO)(H:Hp)(L:Addr->Prop)(H':Hp)(L':Addr->Prop):Prop where
 k:KU T1 T2 o L H H'
 s:∀b,L b->L' b
 n:∀b,L' b->L b\/H b=none
 p:∀b,Ow T1 T2 o L' b->H' b≠none
theorem Gr.refl{T1 T2:Addr}{o:UO}{H:Hp}{L:Addr->Prop}(p:∀b,Ow T1 T2 o L b->H b≠none):Gr T1 T2 o H L H L:=⟨KM.refl,fun _ h=>h,fun _ h=>.inl h,p⟩
theorem Gr.trans{T1 T2:Addr}{o:UO}{H H1 H2:Hp}{L L1 L2:Addr->Prop}(a:Gr T1 T2 o H L H1 L1)(b:Gr T1 T2 o H1 L1 H2 L2):Gr T1 T2 o H L H2 L2:=by
 refine⟨fun x u n e=>?_,fun x h=>b.s x (a.s x h),fun x h=>?_,b.p⟩
 ·have e1:=a.k x u n e
  refine b.k x u (fun z=>?_) e1
  rcases z with z|z|z|z|z
  ·exact n (.inl z)
  ·exact n (.inr (.inl z))
  ·exact n (.inr (.inr (.inl z)))
  ·rcases a.n x z with z|z
   ·exact n (.inr (.inr (.inr (.inl z))))
   ·rw[z]at e;cases e
  ·exact n (.inr (.inr (.inr (.inr z))))
 ·rcases b.n x h with h|h
  ·exact a.n x h
  ·by_cases z:L x
   ·exact .inl z
   ·refine .inr ?_
    cases e:H x with
    |none=>rfl
    |some u =>
     by_cases ow:Ow T1 T2 o L x
     ·refine absurd h (a.p x ?_)
      rcases ow with y|y|y|y|y
      ·exact .inl y
      ·exact .inr (.inl y)
      ·exact .inr (.inr (.inl y))
      ·exact .inr (.inr (.inr (.inl (a.s x y))))
      ·exact .inr (.inr (.inr (.inr y)))
     ·rw[a.k x u ow e]at h;cases h
def Pm(H:Hp)(d:Addr)(z:Str)(ns:List Str):Prop:=∃kvs,H d=some (.dK kvs)/\∀x,(pix ns x=none/\valV kvs (.inr x)=none)\/∃k t,pix ns x=some k/\valV kvs (.inr x)=some (.ref t)/\H t=some (.tup [.str z,.int ((k:Nat):Int)])
theorem Pm.keep{H H':Hp}{d:Addr}{z:Str}{ns:List Str}(h:Pm H d z ns)(kd:∀kvs,H d=some (.dK kvs)->H' d=some (.dK kvs))(t:Tups H H'):Pm H' d z ns:=by
 obtain⟨kvs,e,h⟩:=h
 refine⟨kvs,kd _ e,fun x=>(h x).imp_right fun⟨k,t',a,b,c⟩=>⟨k,t',a,b,t _ _ c⟩⟩
section
variable{cU T1 T2:Addr}{H H':Hp}{o:UO}{L:Addr->Prop}{st:US}{n:Nat}
theorem IsU.pres(h:IsU cU T1 T2 H o L st n):∀b,Ow T1 T2 o L b->H b≠none:=by
 rintro b (z|z|z|z|z|z)
 ·obtain⟨_,e,_⟩:=h.h;rw[z,e];simp
 ·obtain⟨_,e,_⟩:=h.f;rw[z,e];simp
 ·obtain⟨_,e,_⟩:=h.c;rw[z,e];simp
 ·obtain⟨_,e⟩:=h.ll b z;rw[e];simp
 ·obtain⟨ps,e,_⟩:=h.tb.t1;rw[z,e];simp
 ·obtain⟨ps,e,_⟩:=h.tb.t2;rw[z,e];simp
theorem IsU.keep(h:IsU cU T1 T2 H o L st n)(t:Tbs T1 T2 H')(k:KM (MT T1 T2) H H'):IsU cU T1 T2 H' o L st n:=by
 obtain⟨a,b,c,⟨kh,d1,d2⟩,⟨kf,e1,e2⟩,⟨kc,f1,f2,f3,f4⟩,g,gl⟩:=h
 refine⟨k _ _ (b.noT a (by intro _ z;cases z)) a,t,c,⟨kh,k _ _ (b.noT d1 (by intro _ z;cases z)) d1,d2⟩,⟨kf,k _ _ (b.noT e1 (by intro _ z;cases z)) e1,e2⟩,⟨kc,k _ _ (b.noT f1 (by intro _ z;cases z)) f1,f2,f3,fun z k'=>(f4 z k').imp_right fun⟨l,ts,x1,x2,x3,x4⟩=>⟨l,ts,x1,x2,b.lst k x3,x4.keep (b.tups k)⟩⟩,g,fun b' h=>(gl b' h).imp fun xs e=>b.lst k e⟩
theorem IsU.mono(h:IsU cU T1 T2 H o L st n){m:Nat}(l:n<=m):IsU cU T1 T2 H o L st m:=by
 obtain⟨a,b,c,⟨kh,d1,d2,d3⟩,⟨kf,e1,e2,e3⟩,⟨kc,f1,f2,f3⟩,g,gl⟩:=h
 exact⟨a,b,c,⟨kh,d1,Ua d2 l,d3⟩,⟨kf,e1,Ua e2 l,e3⟩,⟨kc,f1,Ua f2 l,f3⟩,fun z k=>Ua (g z k) l,gl⟩
theorem IsU.noOw(h:IsU cU T1 T2 H o L st n){b:Addr}{xs:List V}(e:H b=some (.tup xs)):¬ Ow T1 T2 o L b:=by
 rintro(z|z|z|z|z)
 ·obtain⟨_,q,_⟩:=h.h;rw[z,q]at e;cases e
 ·obtain⟨_,q,_⟩:=h.f;rw[z,q]at e;cases e
 ·obtain⟨_,q,_⟩:=h.c;rw[z,q]at e;cases e
 ·obtain⟨_,q⟩:=h.ll b z;rw[q]at e;cases e
 ·exact h.tb.noT e (by intro _ z;cases z) z
theorem IsU.noOwK(h:IsU cU T1 T2 H o L st n){b:Addr}{kvs:List (Key×V)}(e:H b=some (.dK kvs))(nb:b≠o.dh):¬ Ow T1 T2 o L b:=by
 rintro(z|z|z|z|z)
 ·exact nb z
 ·obtain⟨_,q,_⟩:=h.f;rw[z,q]at e;cases e
 ·obtain⟨_,q,_⟩:=h.c;rw[z,q]at e;cases e
 ·obtain⟨_,q⟩:=h.ll b z;rw[q]at e;cases e
 ·exact h.tb.noT e (by intro _ z;cases z) z
theorem Gr.tups{L':Addr->Prop}(g:Gr T1 T2 o H L H' L')(h:IsU cU T1 T2 H o L st n):Tups H H':=fun b xs e=>g.k b _ (h.noOw e) e
theorem Gr.pm{L':Addr->Prop}(g:Gr T1 T2 o H L H' L')(h:IsU cU T1 T2 H o L st n){d:Addr}{z:Str}{ns:List Str}(p:Pm H d z ns)(nd:d≠o.dh):Pm H' d z ns:=p.keep (fun kvs e=>g.k _ _ (h.noOwK e nd) e) (g.tups h)
theorem IsU.same(h:IsU cU T1 T2 H o L st n)(s:Same H H'):IsU cU T1 T2 H' o L st n:=h.keep (h.tb.same s) (.of s)
theorem Gr.same(h:IsU cU T1 T2 H o L st n)(s:Same H H'):Gr T1 T2 o H L H' L:=⟨.of s,fun _ h=>h,fun _ h=>.inl h,(h.same s).pres⟩
theorem IsU.call(h:IsU cU T1 T2 H o L st n){kc:List (List Key×V)}{g z:Str}{j k:Nat}{l t:Addr}{xs:List V}(hc:H o.dc=some (.dT kc))(hv:valV kc (kz g j)=some (.ref l))(hl:H l=some (.lst xs))(ht:H t=some (.tup [.str z,.int ((k:Nat):Int)])):
  xs.length<=n/\IsU cU T1 T2 (upd H l (.lst (xs++[.ref t]))) o L { st with C:=fun z' k'=>if z'=g/\k'=j then st.C z' k'++[(z,k)]else st.C z' k' } (n+1)/\Gr T1 T2 o H L (upd H l (.lst (xs++[.ref t]))) L:=by
 have pr:=h.pres
 obtain⟨a,b,c,⟨kh,d1,d2,d3⟩,⟨kf,e1,e2,e3⟩,⟨kc',f1,f2,f3,f4⟩,gg,gl⟩:=h
 rw[hc]at f1
 cases f1
 have nl:∀{b:Addr}{u:HO},H b=some u->(∀xs,u≠.lst xs)->b≠l:=fun{b u} e n y=>by rw[y,hl]at e;exact n _ (uP.inj e).symm
 have up:∀b u,b≠l->H b=some u->upd H l (.lst (xs++[.ref t])) b=some u:=fun b u n e=>by rw[zi n];exact e
 have tp:Tups H (upd H l (.lst (xs++[.ref t]))):=fun b ys e=>up b _ (nl e (by intro _ z;cases z)) e
 obtain⟨l',ts,x1,x2,x3,x4⟩:∃l' ts,valV kc (kz g j)=some (.ref l')/\L l'/\H l'=some (.lst (ts.map V.ref))/\PairsAt H (st.C g j) ts:=by
  rcases f4 g j with⟨q,_⟩|q
  ·rw[hv]at q;cases q
  ·exact q
 rw[hv]at x1
 cases x1
 rw[hl]at x3
 cases x3
 have al:=All2.len x4
 refine⟨by rw[ua,<- al];exact gg g j,⟨up _ _ (nl a (by intro _ z;cases z)) a,⟨b.t1.keep (fun ps e=>up _ _ (nl e (by intro _ z;cases z)) e) fun c q e=>up _ _ (nl e (by intro _ z;unfold CodO at z;cases z)) e,b.t2.keep (fun ps e=>up _ _ (nl e (by intro _ z;cases z)) e) fun c q e=>up _ _ (nl e (by intro _ z;unfold CodO at z;cases z)) e⟩,c,⟨kh,up _ _ (nl d1 (by intro _ z;cases z)) d1,by lia,d3⟩,⟨kf,up _ _ (nl e1 (by intro _ z;cases z)) e1,by lia,e3⟩,⟨kc,up _ _ (nl hc (by intro _ z;cases z)) hc,by lia,f3,fun z' k'=>?_⟩,fun z' k'=>?_,fun b' hb'=>?_⟩,⟨fun b' u n' e=>up b' u (fun y=>n' (.inr (.inr (.inr (.inl (y ▸ x2)))))) e,fun _ h=>h,fun _ h=>.inl h,fun b' hb'=>?_⟩⟩
 ·by_cases y:z'=g/\k'=j
  ·obtain⟨rfl,rfl⟩:=y
   refine .inr ⟨l,ts++[t],hv,x2,by rw[upd_same,uq];rfl,?_⟩
   show PairsAt _ (if z'=z'/\k'=k' then _ else _) _
   rw[if_pos ⟨rfl,rfl⟩]
   exact All2.app (x4.keep tp) (.cons (tp _ _ ht) .nil)
  ·show _\/_
   show(_/\(if z'=g/\k'=j then _ else _)=[])\/∃l ts,_/\_/\_/\PairsAt _ (if z'=g/\k'=j then _ else _) _
   rw[if_neg y]
   rcases f4 z' k' with q|⟨l2,ts2,y1,y2,y3,y4⟩
   ·exact .inl q
   ·refine .inr ⟨l2,ts2,y1,y2,up _ _ (fun e=>y ?_) y3,y4.keep tp⟩
    exact f3 _ _ _ _ _ (e ▸ y1) hv
 ·show(if z'=g/\k'=j then _ else _:List (Str×Nat)).length<=_
  have:=gg z' k'
  split
  ·rw[uf];show _+1<=_;lia
  ·lia
 ·by_cases y:b'=l
  ·exact⟨_,by rw[y];exact upd_same⟩
  ·exact(gl b' hb').imp fun ys e=>up _ _ y e
 ·by_cases y:b'=l
  ·rw[y,upd_same];simp
  ·rw[zi y];exact pr b' hb'
theorem IsU.call0(h:IsU cU T1 T2 H o L st n){kc:List (List Key×V)}{g:Str}{j:Nat}{l:Addr}(hc:H o.dc=some (.dT kc))(hv:valV kc (kz g j)=none)(hl:H l=some (.lst []))(nl:¬ L l)(h0:Hp)(g0:Gr T1 T2 o h0 L H L)(hl0:h0 l=none):
  IsU cU T1 T2 (upd H o.dc (.dT (putK kc (kz g j) (.ref l)))) o (fun b=>L b\/b=l) st (n+1)/\Gr T1 T2 o h0 L (upd H o.dc (.dT (putK kc (kz g j) (.ref l)))) (fun b=>L b\/b=l):=by
 have pr:=h.pres
 obtain⟨a,b,c,⟨kh,d1,d2,d3⟩,⟨kf,e1,e2,e3⟩,⟨kc',f1,f2,f3,f4⟩,gg,gl⟩:=h
 rw[hc]at f1
 cases f1
 have nf:∀{b:Addr}{u:HO},H b=some u->(∀xs,u≠.dT xs)->b≠o.dc:=fun{b u} e n y=>by rw[y,hc]at e;exact n _ (uP.inj e).symm
 have up:∀b u,b≠o.dc->H b=some u->upd H o.dc (.dT (putK kc (kz g j) (.ref l))) b=some u:=fun b u n e=>by rw[zi n];exact e
 have tp:Tups H (upd H o.dc (.dT (putK kc (kz g j) (.ref l)))):=fun b ys e=>up b _ (nf e (by intro _ z;cases z)) e
 have lk:=yc kc (kz g j) (.ref l)
 have vp:∀z k,valV (putK kc (kz g j) (.ref l)) (kz z k)=if z=g/\k=j then some (.ref l)else valV kc (kz z k):=fun z k=>by
  rw[yV]
  by_cases y:z=g/\k=j
  ·rw[if_pos (kz_inj.mpr y),if_pos y]
  ·rw[if_neg (fun w=>y (kz_inj.mp w)),if_neg y]
 have old:∀z k l',valV kc (kz z k)=some (.ref l')->L l':=fun z k l' e=>by
  rcases f4 z k with⟨q,_⟩|⟨l2,ts2,y1,y2,_⟩
  ·rw[e]at q;cases q
  ·rw[e]at y1;cases y1;exact y2
 refine⟨⟨up _ _ (nf a (by intro _ z;cases z)) a,⟨b.t1.keep (fun ps e=>up _ _ (nf e (by intro _ z;cases z)) e) fun c q e=>up _ _ (nf e (by intro _ z;unfold CodO at z;cases z)) e,b.t2.keep (fun ps e=>up _ _ (nf e (by intro _ z;cases z)) e) fun c q e=>up _ _ (nf e (by intro _ z;unfold CodO at z;cases z)) e⟩,c,⟨kh,up _ _ (nf d1 (by intro _ z;cases z)) d1,by lia,d3⟩,⟨kf,up _ _ c e1,by lia,e3⟩,⟨_,upd_same,by lia,fun z k z' k' l' q1 q2=>?_,fun z' k'=>?_⟩,fun z' k'=>Nat.le_succ_of_le (gg z' k'),fun b' hb'=>?_⟩,⟨fun b' u n' e=>up b' u (fun y=>n' (.inr (.inr (.inl y)))) (g0.k b' u n' e),fun _ h=>.inl h,fun b' h=>Or.imp_right (fun(y:b'=l)=>by rw[y];exact hl0) h,fun b' hb'=>?_⟩⟩
 ·rw[vp]at q1 q2
  split at q1
  ·rename_i y1
   split at q2
   ·rename_i y2;exact⟨y1.1.trans y2.1.symm,y1.2.trans y2.2.symm⟩
   ·cases q1;exact absurd (old _ _ _ q2) nl
  ·split at q2
   ·cases q2;exact absurd (old _ _ _ q1) nl
   ·exact f3 _ _ _ _ _ q1 q2
 ·rw[vp]
  by_cases y:z'=g/\k'=j
  ·rw[if_pos y]
   obtain⟨rfl,rfl⟩:=y
   have e:st.C z' k'=[]:=by
    rcases f4 z' k' with⟨_,q⟩|⟨l2,ts2,y1,_⟩
    ·exact q
    ·rw[hv]at y1;cases y1
   refine .inr ⟨l,[],rfl,.inr rfl,up _ _ (nf hl (by intro _ z;cases z)) hl,?_⟩
   rw[e]
   exact .nil
  ·rw[if_neg y]
   rcases f4 z' k' with q|⟨l2,ts2,y1,y2,y3,y4⟩
   ·exact .inl q
   ·exact .inr ⟨l2,ts2,y1,.inl y2,up _ _ (nf y3 (by intro _ z;cases z)) y3,y4.keep tp⟩
 ·rcases hb' with y|y
  ·exact(gl b' y).imp fun ys e=>up _ _ (nf e (by intro _ z;cases z)) e
  ·exact⟨_,by rw[show b'=l from y];exact up _ _ (nf hl (by intro _ z;cases z)) hl⟩
 ·by_cases y:b'=o.dc
  ·rw[y,upd_same];simp
  ·rw[zi y]
   rcases hb' with z|z|z|z|z
   ·exact pr b' (.inl z)
   ·exact pr b' (.inr (.inl z))
   ·exact absurd z y
   ·rcases z with z|z
    ·exact pr b' (.inr (.inr (.inr (.inl z))))
    ·rw[z,hl];simp
   ·exact pr b' (.inr (.inr (.inr (.inr z))))
end
def XI(cU:Addr):Sp:=fun vs H Q _=>∃(x dx:Addr),vs=[.ref x]/\H x=some (.ins cU dx [])/\∀H' dh df dc,(∀b u,b≠x->H b=some u->H' b=some u)->H dh=none->H df=none->H dc=none->df≠dc->dh≠df->dh≠dc->H' dh=some (.dK [])->H' df=some (.dT [])->H' dc=some (.dT [])->H' x=some (.ins cU dx [("handed",.ref dh),("found",.ref df),("calls",.ref dc)])->Q .non H'
def YR(cU T1 T2:Addr):Sp:=fun vs H Q _=>∃(d:Addr)(x r z:Str)(ns:List Str)(o:UO)(L:Addr->Prop)(st:US)(n:Nat),vs=[.ref o.u,.ref d,.str x,.str r]/\IsU cU T1 T2 H o L st n/\n < 16000000/\Pm H d z ns/\∀H',Gr T1 T2 o H L H' L->IsU cU T1 T2 H' o L (addR z ns r st x) (n+1)->Q .non H'
def Ju(cU T1 T2:Addr):Sp:=fun vs H Q _=>∃(d p q:Addr)(g z:Str)(w:Str)(xs ns:List Str)(o:UO)(L:Addr->Prop)(st:US)(n:Nat),vs=[.ref o.u,.ref d,.ref p]/\H p=some (.tup [.str w,.str g,.ref q])/\H q=some (.tup (xs.map V.str))/\IsU cU T1 T2 H o L st n/\n+2*xs.length < 16000000/\d≠o.dh/\Pm H d z ns/\∀H' L',Gr T1 T2 o H L H' L'->IsU cU T1 T2 H' o L' (addC z ns g st xs) (n+2*xs.length)->Q .non H'
section
variable{P:Program}{w:World}{K:ub}{mg:Str->Option Value}{base:Heap}{f cU:Addr}{fd:FuncData}
theorem zah:FnScope ["self"] ["self"] (zo Yv):=.ok
theorem Jv(F:Fun K "__init__" "Uses.__init__" Yv f fd)(N:Un K cU):FnOk P w K mg base CX0 1 f fd ["self"] (XI cU):=by
 refine F.by zah (fun vs H Q E h=>?_) (fun cdv A outer s H vs Q E hr h=>?_)
 ·obtain⟨x,dx,rfl,_⟩:=h
  rfl
 obtain⟨x,dx,rfl,hx,q⟩:=h
 refine⟨_,(zg (wq (jv 0) vw) (zg (wq (jv 0) vP) (zh (wq (jv 0) vP)))),?_⟩
 intro dh h1
 have n1:x≠dh:=zk hx h1
 refine⟨_,rfl,x,cU,dx,_,rfl,by rw[zi n1];exact hx,N.cl,N.b1,by show 0 < 1000;decide,?_⟩
 intro df h2
 have n2:df≠x:=fun z=>by
  rw[z,upd_same]at h2;cases h2
 have n3:df≠dh:=fun z=>by
  rw[zi n2,z,upd_same]at h2;cases h2
 have h2':H df=none:=by rw[zi n2,zi n3]at h2;exact h2
 refine⟨_,rfl,x,cU,dx,_,rfl,by rw[zi n2.symm];exact upd_same,N.cl,N.b2,by show 1 < 1000;decide,?_⟩
 intro dc h3
 have n4:dc≠x:=fun z=>by
  rw[z,upd_same]at h3;cases h3
 have n5:dc≠df:=fun z=>by
  rw[zi n4,z,upd_same]at h3;cases h3
 have n6:dc≠dh:=fun z=>by
  rw[zi n4,zi n5,zi n4,z,upd_same]at h3;cases h3
 have h3':H dc=none:=by rw[zi n4,zi n5,zi n4,zi n6]at h3;exact h3
 refine⟨_,rfl,x,cU,dx,_,rfl,by rw[zi n4.symm];exact upd_same,N.cl,N.b3,by show 2 < 1000;decide,?_⟩
 refine q _ dh df dc (fun b u n e=>?_) h1 h2' h3' n5.symm n3.symm n6.symm ?_ ?_ ?_ upd_same
 ·rw[zi n,zi (zk e h3'),zi n,zi (zk e h2'),zi n,zi (zk e h1)]
  exact e
 ·rw[zi n1.symm,zi n6.symm,zi n1.symm,zi n3.symm,zi n1.symm,upd_same]
 ·rw[zi n2,zi n5.symm,zi n2,upd_same]
 ·rw[zi n4,upd_same]
theorem zcu:FnScope lS12 lS12 (zo xH):=.ok
theorem zai{T1 T2:Addr}(F:Fun K "add_reason" "Uses.add_reason" xH f fd)(N:Un K cU):FnOk P w K mg base CX0 1 f fd lS12 (YR cU T1 T2):=by
 refine F.by zcu (fun vs H Q E h=>?_) (fun cdv A outer s H vs Q E hr h=>?_)
 ·obtain⟨d,x,r,z,ns,o,L,st,n,rfl,_⟩:=h
  rfl
 obtain⟨d,x,r,z,ns,o,L,st,n,rfl,hU,hn,⟨kvs,hd,hp⟩,q⟩:=h
 refine⟨_,(zh (zy (Zj hr (jv 2) (jv 1)) (zh (xv hr (yA (jv 0)) (Xy hr (jv 1) (jv 2)) (jv 3))) zv)),?_⟩
 have sl:=zE
 have pr:=hU.pres
 refine⟨_,rfl,_,rfl,d,_,rfl,DGet.k (k:=.inr x) hd,_,rfl,?_⟩
 rcases hp x with⟨p1,p2⟩|⟨k,t,p1,p2,p3⟩
 ·rw[p2]
  refine iteF ?_
  have e:addR z ns r st x=st:=by unfold addR;rw[p1]
  rw[e]at q
  exact q H (.refl pr) (hU.mono (U8 _))
 ·rw[p2]
  refine iteT ?_
  have e:addR z ns r st x={ st with F:=fun z' k'=>if z'=z/\k'=k then some r else st.F z' k' }:=by unfold addR;rw[p1]
  rw[e]at q
  obtain⟨a,b,c,⟨kh,d1,d2,d3⟩,⟨kf,e1,e2,e3⟩,⟨kc,f1,f2,f3,f4⟩,g,gl⟩:=hU
  have nf:∀{b:Addr}{u:HO},H b=some u->(∀kf,u≠.dT kf)->b≠o.df:=fun{b u} e n z=>by rw[z,e1]at e;exact n _ (uP.inj e).symm
  refine⟨_,rfl,_,rfl,o.u,cU,o.dx,_,_,rfl,a,N.cl,N.b2,rfl,_,rfl,_,rfl,d,_,rfl,?_,o.df,_,rfl,DPut.t (k:=kz z k) e1 p3 (by lia),?_⟩
  ·exact p2 ▸ DGet.k (k:=.inr x) hd
  have up:∀b u,b≠o.df->H b=some u->upd H o.df (.dT (putK kf (kz z k) (.str r))) b=some u:=fun b u n e=>by rw[zi n];exact e
  have tp:Tups H (upd H o.df (.dT (putK kf (kz z k) (.str r)))):=fun b xs e=>up b _ (nf e (by intro _ z;cases z)) e
  have lk:=yc kf (kz z k) (.str r)
  refine q _ ⟨fun b u n e=>up b u (fun y=>n (.inr (.inl y))) e,fun _ h=>h,fun _ h=>.inl h,fun b h=>?_⟩ ⟨up _ _ (nf a (by intro _ z;cases z)) a,⟨b.t1.keep (fun ps e=>up _ _ (nf e (by intro _ z;cases z)) e) fun c q e=>up _ _ (nf e (by intro _ z;unfold CodO at z;cases z)) e,b.t2.keep (fun ps e=>up _ _ (nf e (by intro _ z;cases z)) e) fun c q e=>up _ _ (nf e (by intro _ z;unfold CodO at z;cases z)) e⟩,c,⟨kh,up _ _ (nf d1 (by intro _ z;cases z)) d1,by lia,d3⟩,⟨_,upd_same,by lia,fun z' k'=>?_⟩,⟨kc,up _ _ c.symm f1,by lia,f3,fun z' k'=>(f4 z' k').imp_right fun⟨l,ts,x1,x2,x3,x4⟩=>⟨l,ts,x1,x2,up _ _ (nf x3 (by intro _ z;cases z)) x3,x4.keep tp⟩⟩,fun z' k'=>Nat.le_succ_of_le (g z' k'),fun b' h=>(gl b' h).imp fun xs e=>up _ _ (nf e (by intro _ z;cases z)) e⟩
  ·by_cases y:b=o.df
   ·rw[y,upd_same];simp
   ·rw[zi y];exact pr b h
  ·rw[yV]
   show _=(if z'=z/\k'=k then some r else st.F z' k').map V.str
   by_cases y:z'=z/\k'=k
   ·rw[if_pos (kz_inj.mpr y),if_pos y];rfl
   ·rw[if_neg (fun w=>y (kz_inj.mp w)),if_neg y];exact e3 z' k'
def hand(f:Str)(st:US):US:={ st with hd:=fun y=>if y=f then true else st.hd y }
def noteD(z:Str)(ns:List Str)(d:De)(st:US):US:=match d with
 |.app w f xs =>
  if w="call"then addC z ns f st xs else
  if w="make"then xs.foldl (addR z ns "put") st else
  if w="func"then hand f (xs.foldl (addR z ns "put") st)else
  if w="ask"then addR z ns "asked" (xs.foldl (addR z ns "put") st) f else st
 |_=>st
def XJ(cU T1 T2:Addr):Sp:=fun vs H Q _=>∃(d p:Addr)(de:De)(z:Str)(ns:List Str)(o:UO)(L:Addr->Prop)(st:US)(n:Nat),vs=[.ref o.u,.ref d,.ref p]/\IsDe H de p/\IsU cU T1 T2 H o L st n/\n+100 < 16000000/\d≠o.dh/\Pm H d z ns/\∀H' L',Gr T1 T2 o H L H' L'->IsU cU T1 T2 H' o L' (noteD z ns de st) (n+90)->Q .non H'
theorem Wx(z:Str)(ns:List Str)(g:Str)(st:US)(xs:List Str){i:Nat}{x:Str}(h:xs[i]?=some x):addC z ns g st (xs.take (i+1))=addC1 z ns g i (addC z ns g st (xs.take i)) x:=by
 have hi:=(uc.mp h).1
 unfold addC
 rw[uv,h,List.zipIdx_append,UQ]
 show addC1 z ns g (0+(xs.take i).length) _ x=_
 rw[uD,Nat.zero_add,Nat.min_eq_left (by lia)]
theorem scAddC:FnScope ["self","params","deed","j","name"] lS25 (zo vC):=.ok
theorem zaj{T1 T2:Addr}(F:Fun K "add_call" "Uses.add_call" vC f fd)(N:Un K cU)(m_enumerate:mg "enumerate"=none):FnOk P w K mg base CX0 1 f fd lS25 (Ju cU T1 T2):=by
 refine F.by scAddC (fun vs H Q E h=>?_) (fun cdv A outer s H vs Q E hr h=>?_)
 ·obtain⟨d,p,q,g,z,w,xs,ns,o,L,st,n,rfl,_⟩:=h
  rfl
 obtain⟨d,p,q,g,z,w,xs,ns,o,L,st,n,rfl,hp,hq,hU,hn,nd,hP,q⟩:=h
 rename_i q0
 refine⟨_,(zh (zJ PassesOwn.never rfl (Z2 rfl m_enumerate (jA1 (xT 2))) (yi rfl (zt (gN 3 scAddC.nd) (zt (gN 4 scAddC.nd) zL)))
  (zh (zy (Zj hr (jv 4) (jv 1)) (zh (zG (yy uA uN uO zK (Js hr (yA (jv 0)) (zq (jA2 (xT 2) (jv 3))) (zB zD)) (jA1 (Xy hr (jv 1) (jv 4)))))) zv)))),?_⟩
 have sl:=zE
 refine⟨_,rfl,ixT hp aI2 ⟨_,rfl,⟨_,SqT.of hq⟩,jq (xs:=xs.map V.str) (fun i σ H'=>∃L' vj vx,Gr T1 T2 o H L H' L'/\IsU cU T1 T2 H' o L' (addC z ns g st (xs.take i)) (n+2*i)/\σ=[some (.ref o.u),some (.ref d),some (.ref p),vj,vx]) ⟨L,none,none,.refl hU.pres,hU,rfl⟩ (fun i σ H' _ h=>?_) ?_ ?_⟩⟩
 ·obtain⟨L',_,_,g1,_⟩:=h
  exact SqT.of (g1.tups hU _ _ hq)
 ·rintro i x T σ H1 hx hT ⟨L1,vj,vx,g1,U1,rfl⟩
  rw[ue]at hx
  obtain⟨x,hx0,rfl⟩:=uh.mp hx
  clear hx
  rename xs[i]?=some x=>hx
  have hi:=(uc.mp hx).1
  have s2:=zn (o:=.tup [.int (i:Nat),.str x]) hT
  have hT2:=upd_same (H:=H1) (a:=T) (o:=.tup [.int (i:Nat),.str x])
  have U2:=U1.same s2
  have g2:=g1.trans (.same U1 s2)
  generalize upd H1 T (.tup [.int (i:Nat),.str x])=H2 at *
  have P2:=g2.pm hU hP nd
  have hp2:=g2.tups hU _ _ hp
  refine⟨T,_,rfl,SqT.of hT2,rfl,?_⟩
  obtain⟨kvs,hd,hk⟩:=P2
  refine⟨_,_,rfl,_,_,rfl,rfl,_,rfl,_,rfl,d,_,rfl,DGet.k (k:=.inr x) hd,_,rfl,?_⟩
  have es:=Wx z ns g st xs hx
  rcases hk x with⟨p1,p2⟩|⟨k,t,p1,p2,p3⟩
  ·rw[p2]
   refine iteF ⟨L1,_,_,g2,?_,rfl⟩
   have e:addC z ns g st (xs.take (i+1))=addC z ns g st (xs.take i):=by rw[es];unfold addC1;rw[p1]
   rw[e]
   exact U2.mono (by lia)
  rw[p2]
  refine iteT ?_
  have e:addC z ns g st (xs.take (i+1))={ (addC z ns g st (xs.take i))with C:=fun z' k'=>if z'=g/\k'=i then(addC z ns g st (xs.take i)).C z' k'++[(z,k)]else(addC z ns g st (xs.take i)).C z' k' }:=by rw[es];unfold addC1;rw[p1]
  obtain⟨kc,f1,f2,-⟩:=U2.c
  refine⟨_,rfl,o.u,cU,o.dx,_,.ref o.dc,rfl,U2.ob,N.cl,N.b3,rfl,o.dc,rfl,.inr ⟨kc,?_⟩,_,rfl,ixT hp2 aI1 ⟨_,rfl,?_⟩⟩
  ·exact .of f1
  refine⟨sN2,fun tk htk=>⟨sN0,fun l hl=>?_⟩⟩
  have s3:=zn (o:=.tup [.str g,.int (i:Nat)]) htk
  have s4:=s3.new (o:=.lst []) hl
  have hk4:=old (o:=.lst []) hl (upd_same (H:=H2) (a:=tk) (o:=.tup [.str g,.int (i:Nat)]))
  have hl4:=upd_same (H:=upd H2 tk (.tup [.str g,.int (i:Nat)])) (a:=l) (o:=.lst [])
  have fl:H2 l=none:=s3.free hl
  have nL:¬ L1 l:=fun y=>by obtain⟨_,e⟩:=U2.ll l y;rw[fl]at e;cases e
  have U4:=U2.same s4
  have g4:=Gr.same U2 s4
  have P4:=s4 _ _ hd
  have t4:=s4 _ _ p3
  have f4:=s4 _ _ f1
  generalize upd (upd H2 tk (.tup [.str g,.int (i:Nat)])) l (.lst [])=H4 at *
  refine⟨kc,kz g i,tk,f4,rfl,hk4,by lia,fun v hv=>?_,fun hv=>?_⟩
  ·obtain⟨l',ts,x1,x2,x3,x4⟩:∃l' ts,valV kc (kz g i)=some (.ref l')/\L1 l'/\H4 l'=some (.lst (ts.map V.ref))/\PairsAt H4 ((addC z ns g st (xs.take i)).C g i) ts:=by
    obtain⟨kc',q1,_,_,q2⟩:=U4.c
    rw[f4]at q1
    cases q1
    rcases q2 g i with⟨q,_⟩|q
    ·rw[hv]at q;cases q
    ·exact q
   rw[hv]at x1
   cases x1
   obtain⟨b5,U5,g5⟩:=U4.call f4 hv x3 t4
   refine⟨.inl ⟨rfl,_,SqL.of x3⟩,_,rfl,_,rfl,d,_,rfl,p2 ▸ DGet.k (k:=.inr x) P4,l',_,_,rfl,rfl,x3,by lia,?_⟩
   refine⟨L1,_,_,(g2.trans g4).trans g5,?_,rfl⟩
   rw[e]
   exact U5.mono (by lia)
  ·obtain⟨U5,g5⟩:=U4.call0 f4 hv hl4 nL H2 g4 fl
   have nld:l≠o.dc:=fun y=>by rw[y,f4]at hl4;cases hl4
   have hl5:upd H4 o.dc (.dT (putK kc (kz g i) (.ref l))) l=some (.lst []):=by rw[zi nld];exact hl4
   have P5:upd H4 o.dc (.dT (putK kc (kz g i) (.ref l))) d=some (.dK kvs):=by rw[zi (fun y=>by rw[y,f4]at P4;cases P4)];exact P4
   have t5:upd H4 o.dc (.dT (putK kc (kz g i) (.ref l))) t=some (.tup [.str z,.int ((k:Nat):Int)]):=by rw[zi (fun y=>by rw[y,f4]at t4;cases t4)];exact t4
   have v5:valV (putK kc (kz g i) (.ref l)) (kz g i)=some (.ref l):=by rw[yV,if_pos rfl]
   obtain⟨b6,U6,g6⟩:=U5.call upd_same v5 hl5 t5
   refine⟨.inl ⟨rfl,_,SqL.of hl5⟩,_,rfl,_,rfl,d,_,rfl,p2 ▸ DGet.k (k:=.inr x) P5,l,_,_,rfl,rfl,hl5,by show 0 < sizeLine;decide,?_⟩
   refine⟨_,_,_,(g2.trans g5).trans g6,?_,rfl⟩
   rw[e]
   exact U6.mono (by lia)
 ·rintro σ H1 ⟨L1,vj,vx,g1,U1,rfl⟩
  rw[ua,uj (ud _)]at U1
  exact q _ _ g1 U1
theorem IsU.hand{T1 T2:Addr}{H:Hp}{o:UO}{L:Addr->Prop}{st:US}{n:Nat}(h:IsU cU T1 T2 H o L st n){kh:List (Key×V)}(hh:H o.dh=some (.dK kh))(g:Str)(v:V):
  IsU cU T1 T2 (upd H o.dh (.dK (putK kh (.inr g) v))) o L (hand g st) (n+1)/\Gr T1 T2 o H L (upd H o.dh (.dK (putK kh (.inr g) v))) L:=by
 have pr:=h.pres
 obtain⟨a,b,c,⟨kh',d1,d2,d3⟩,⟨kf,e1,e2,e3⟩,⟨kc,f1,f2,f3,f4⟩,gg,gl⟩:=h
 rw[hh]at d1
 cases d1
 have nf:∀{b:Addr}{u:HO},H b=some u->(∀xs,u≠.dK xs)->b≠o.dh:=fun{b u} e n y=>by rw[y,hh]at e;exact n _ (uP.inj e).symm
 have up:∀b u,b≠o.dh->H b=some u->upd H o.dh (.dK (putK kh (.inr g) v)) b=some u:=fun b u n e=>by rw[zi n];exact e
 have tp:Tups H (upd H o.dh (.dK (putK kh (.inr g) v))):=fun b ys e=>up b _ (nf e (by intro _ z;cases z)) e
 have lk:=yc kh (.inr g) v
 refine⟨⟨up _ _ (nf a (by intro _ z;cases z)) a,⟨b.t1.keep (fun ps e=>up _ _ (nf e (by intro _ z;cases z)) e) fun c q e=>up _ _ (nf e (by intro _ z;unfold CodO at z;cases z)) e,b.t2.keep (fun ps e=>up _ _ (nf e (by intro _ z;cases z)) e) fun c q e=>up _ _ (nf e (by intro _ z;unfold CodO at z;cases z)) e⟩,c,⟨_,upd_same,by lia,fun z=>?_⟩,⟨kf,up _ _ (nf e1 (by intro _ z;cases z)) e1,by lia,e3⟩,⟨kc,up _ _ (nf f1 (by intro _ z;cases z)) f1,by lia,f3,fun z' k'=>(f4 z' k').imp_right fun⟨l,ts,x1,x2,x3,x4⟩=>⟨l,ts,x1,x2,up _ _ (nf x3 (by intro _ z;cases z)) x3,x4.keep tp⟩⟩,fun z' k'=>Nat.le_succ_of_le (gg z' k'),fun b' hb'=>(gl b' hb').imp fun xs e=>up _ _ (nf e (by intro _ z;cases z)) e⟩,⟨fun b' u n' e=>up b' u (fun y=>n' (.inl y)) e,fun _ h=>h,fun _ h=>.inl h,fun b' hb'=>?_⟩⟩
 ·rw[yV]
  show _=(if z=g then true else st.hd z)
  by_cases y:z=g
  ·rw[if_pos (by rw[y]),if_pos y];rfl
  ·rw[if_neg (fun w=>y (Sum.inr.inj w)),if_neg y];exact d3 z
 ·by_cases y:b'=o.dh
  ·rw[y,upd_same];simp
  ·rw[zi y];exact pr b' hb'
theorem inV3(w0 a b c:Str):inV (.str w0) [.str a,.str b,.str c]=true↔(w0=a\/w0=b\/w0=c):=by
 show((a == w0) || ((b == w0) || ((c == w0) || false)))=true↔_
 rw[Bool.or_false,Uw,Uw,beq_iff_eq,beq_iff_eq,beq_iff_eq]
 exact⟨fun h=>h.imp Eq.symm (Or.imp Eq.symm Eq.symm),fun h=>h.imp Eq.symm (Or.imp Eq.symm Eq.symm)⟩
theorem scNoteD:FnScope ["uses","params","deed","name"] lS26 (zo ww):=.ok
theorem Jw{T1 T2:Addr}(F:Fun K "note_deed" "note_deed" ww f fd)(N:Un K cU)(MR:Me P w K mg base CX0 1 cU "add_reason" lS12 (YR cU T1 T2))(MC:Me P w K mg base CX0 1 cU "add_call" lS25 (Ju cU T1 T2)):FnOk P w K mg base CX0 2 f fd lS26 (XJ cU T1 T2):=by
 refine F.by scNoteD (fun vs H Q E h=>?_) (fun cdv A outer s H vs Q E hr h=>?_)
 ·obtain⟨d,p,de,z,ns,o,L,st,n,rfl,_⟩:=h
  rfl
 obtain⟨d,p,de,z,ns,o,L,st,n,rfl,hp,hU,hn,nd,hP,q⟩:=h
 have hr1:Room 1 _:=hr.mono (by decide)
 refine⟨_,
  (zg (zy (tN zA (xT 2) zp)
   (zh (zG (ZH (jv 0) N.cl MC hr xi (jA2 (jv 1) (jv 2)))))
   (zh (zy (yj yr (xT 2) (zq (jA3 zp zp zp)) (by with_unfolding_all rfl))
    (zh (zJ PassesOwn.never rfl (yK (xT 2)) (gN 3 scNoteD.nd)
     (zh (zG (ZH (jv 0) N.cl MR hr xi (jA3 (jv 1) (jv 3) zp))))))
    zv)))
  (zg (zy (tN zA (xT 2) zp)
   (zh (zG (ZH (jv 0) N.cl MR hr xi (jA3 (jv 1) (xT 2) zp))))
   zv)
  (zh (zy (tN zA (xT 2) zp)
   (zh (xv hr (yA (jv 0)) (xT 2) yC))
   zv)))),?_⟩
 have sl:=zE
 by_cases pl:∃w0 vs,H p=some (.tup (.str w0::vs))/\w0≠"call"/\¬ (w0="make"\/w0="func"\/w0="ask")/\noteD z ns de st=st
 ·obtain⟨w0,vs,h1,n1,n2,en⟩:=pl
  refine⟨_,rfl,ixT h1 aI0 ⟨rfl,_,rfl,ite2 (fun c=>absurd (V.str.inj (of_decide_eq_true c)) n1) (fun _=>⟨_,rfl,ixT h1 aI0 ⟨sN3,fun tk htk=>⟨tk,_,rfl,.inr (SqT.of upd_same),rfl,rfl,_,rfl,ite2 (fun c=>absurd ((inV3 _ _ _ _).mp c) n2) (fun _=>?_)⟩⟩⟩)⟩⟩
  have s1:=zn (o:=.tup [.str "make",.str "func",.str "ask"]) htk
  refine⟨_,rfl,ixT (s1 _ _ h1) aI0 ⟨rfl,_,rfl,ite2 (fun c=>absurd (V.str.inj (of_decide_eq_true c)) (fun y=>n2 (.inr (.inr y)))) (fun _=>⟨_,rfl,ixT (s1 _ _ h1) aI0 ⟨rfl,_,rfl,ite2 (fun c=>absurd (V.str.inj (of_decide_eq_true c)) (fun y=>n2 (.inr (.inl y)))) (fun _=>?_)⟩⟩)⟩⟩
  refine q _ L (.same hU s1) ?_
  rw[en]
  exact(hU.same s1).mono (by lia)
 cases hp with
 |num h1=>exact absurd ⟨_,_,h1,by decide,by decide,rfl⟩ pl
 |op h1=>exact absurd ⟨_,_,h1,by decide,by decide,rfl⟩ pl
 |@app w0 g xs _ pq hw h1 h2 =>
  by_cases c1:w0="call"
  ·subst c1
   refine⟨_,rfl,ixT h1 aI0 ⟨rfl,_,rfl,ite2 (fun c=>?_) (fun c=>absurd (by decide) c)⟩⟩
   refine⟨_,rfl,o.u,o.dx,_,rfl,hU.ob,rfl,_,rfl,_,rfl,d,p,pq,g,z,_,xs,ns,o,L,st,n,rfl,h1,h2,hU,by lia,nd,hP,fun H1 L1 g1 U1=>?_⟩
   have h1':=g1.tups hU _ _ h1
   refine⟨_,rfl,ixT h1' aI0 ⟨rfl,_,rfl,ite2 aB (fun _=>⟨_,rfl,ixT h1' aI0 ⟨rfl,_,rfl,ite2 aB (fun _=>?_)⟩⟩)⟩⟩
   exact q _ L1 g1 (U1.mono (by lia))
  by_cases c2:w0="make"\/w0="func"\/w0="ask"
  ·refine⟨_,rfl,ixT h1 aI0 ⟨rfl,_,rfl,ite2 (fun c=>absurd (V.str.inj (of_decide_eq_true c)) c1) (fun _=>⟨_,rfl,ixT h1 aI0 ⟨sN3,fun tk htk=>⟨tk,_,rfl,.inr (SqT.of upd_same),rfl,rfl,_,rfl,ite2 (fun _=>?_) (fun c=>absurd ((inV3 _ _ _ _).mpr c2) c)⟩⟩⟩)⟩⟩
   have s1:=zn (o:=.tup [.str "make",.str "func",.str "ask"]) htk
   have g1:=Gr.same hU s1
   have U1:=hU.same s1
   generalize upd H tk (.tup [.str "make",.str "func",.str "ask"])=H1 at *
   refine⟨_,rfl,ixT (s1 _ _ h1) aI2 ⟨_,rfl,⟨_,SqT.of (s1 _ _ h2)⟩,yO (xs:=xs.map V.str) (fun i σ H'=>∃vx,Gr T1 T2 o H L H' L/\IsU cU T1 T2 H' o L ((xs.take i).foldl (addR z ns "put") st) (n+i)/\σ=[some (.ref o.u),some (.ref d),some (.ref p),vx]) ⟨none,g1,U1,rfl⟩ (fun i σ H' _ h=>?_) ?_ ?_⟩⟩
   ·obtain⟨_,g1,_⟩:=h
    exact SqT.of (g1.tups hU _ _ h2)
   ·rintro i x σ H2 hx ⟨vx,g2,U2,rfl⟩
    rw[ue]at hx
    obtain⟨x,hx0,rfl⟩:=uh.mp hx
    clear hx
    rename xs[i]?=some x=>hx
    have hi:=(uc.mp hx).1
    refine⟨_,rfl,o.u,o.dx,_,rfl,U2.ob,rfl,_,rfl,_,rfl,d,x,"put",z,ns,o,L,_,n+i,rfl,U2,by lia,g2.pm hU hP nd,fun H3 g3 U3=>⟨_,g2.trans g3,?_,rfl⟩⟩
    rw[uv,hx,UQ]
    exact U3
   rintro σ H2 ⟨vx,g2,U2,rfl⟩
   rw[ua,uj (ud _)]at U2
   have h1':=g2.tups hU _ _ h1
   have P2:=g2.pm hU hP nd
   refine⟨_,rfl,ixT h1' aI0 ⟨rfl,_,rfl,ite2 (fun c=>?_) (fun c=>?_)⟩⟩
   ·have e:w0="ask":=V.str.inj (of_decide_eq_true c)
    subst e
    refine⟨_,rfl,o.u,o.dx,_,rfl,U2.ob,rfl,_,rfl,_,rfl,ixT h1' aI1 ⟨d,g,"asked",z,ns,o,L,_,n+xs.length,rfl,U2,by lia,P2,fun H3 g3 U3=>?_⟩⟩
    have h3':=g3.tups U2 _ _ h1'
    refine⟨_,rfl,ixT h3' aI0 ⟨rfl,_,rfl,ite2 aB (fun _=>?_)⟩⟩
    exact q _ L (g2.trans g3) (U3.mono (by lia))
   ·have n3:w0≠"ask":=fun y=>c (decide_eq_true (by rw[y]))
    refine⟨_,rfl,ixT h1' aI0 ⟨rfl,_,rfl,ite2 (fun c=>?_) (fun c=>?_)⟩⟩
    ·have e:w0="func":=V.str.inj (of_decide_eq_true c)
     subst e
     obtain⟨kh,k1,k2,-⟩:=U2.h
     obtain⟨U3,g3⟩:=U2.hand k1 g (.bl true)
     refine⟨_,rfl,o.u,cU,o.dx,_,.ref o.dh,rfl,U2.ob,N.cl,N.b1,rfl,_,rfl,ixT h1' aI1 ⟨o.dh,_,rfl,DPut.k (k:=.inr g) k1 (by lia),?_⟩⟩
     exact q _ L (g2.trans g3) (U3.mono (by lia))
    ·have n4:w0≠"func":=fun y=>c (decide_eq_true (by rw[y]))
     have e:w0="make":=by
      rcases c2 with y|y|y
      ·exact y
      ·exact absurd y n4
      ·exact absurd y n3
     subst e
     exact q _ L g2 (U2.mono (by lia))
  ·refine absurd ⟨_,_,h1,c1,c2,?_⟩ pl
   ·exact(by
    show(if w0="call"then _ else if w0="make"then _ else if w0="func"then _ else if w0="ask"then _ else st)=st
    rw[if_neg c1,if_neg (fun y=>c2 (.inl y)),if_neg (fun y=>c2 (.inr (.inl y))),if_neg (fun y=>c2 (.inr (.inr y)))])
def noteB(z:Str)(ns:List Str)(st:US):Bd->US
 |.give x=>addR z ns "given" st x
 |.lt _ d _=>noteD z ns d st
 |.case x as=>if yX x as=true then addR z ns "anew" st x else st
 |.iff _ _ _=>st
def usesD(st:US)(d:Df):US:=d.b.all.foldl (noteB d.z d.ns) st
def zS(dfs:List Df):US:=dfs.foldl usesD US0
def cntB(dfs:List Df):Nat:=(dfs.map fun d=>d.b.all.length).sum
def XL(cU T1 T2:Addr):Sp:=fun vs H Q _=>∃(d p:Addr)(b:Bd)(z:Str)(ns:List Str)(o:UO)(L:Addr->Prop)(st:US)(n:Nat),vs=[.ref o.u,.ref d,.ref p]/\IsB H b p/\b.sz<=300000/\IsU cU T1 T2 H o L st n/\n+100 < 16000000/\d≠o.dh/\Pm H d z ns/\∀H' L',Gr T1 T2 o H L H' L'->IsU cU T1 T2 H' o L' (noteB z ns st b) (n+90)->Q .non H'
def Jx(cU T1 T2:Addr):Sp:=fun vs H Q _=>∃(p pk pd:Addr)(ds:List Addr)(dfs:List Df),vs=[.ref p]/\H p=some (.tup [.ref pk,.ref pd])/\H pd=some (.tup (ds.map V.ref))/\IsFs H dfs ds/\(∀d∈dfs,d.b.sz<=300000/\d.ns.length<=1000)/\90*cntB dfs+100 < 16000000/\Tbs T1 T2 H/\∀H' o L,KM (MT T1 T2) H H'->IsU cU T1 T2 H' o L (zS dfs) (90*cntB dfs)->Q (.ref o.u) H'
theorem zak:FnScope lS23 lS23 (zo wv):=.ok
theorem Jy{T1 T2:Addr}(F:Fun K "note_body" "note_body" wv f fd)(N:Un K cU)(MR:Me P w K mg base CX0 1 cU "add_reason" lS12 (YR cU T1 T2))(GD:Ca P w K mg base CX0 2 "note_deed" lS26 (XJ cU T1 T2))(GA:Ca P w K mg base CX0 9 "uses_anew" ["body"] (Jo T1 T2)):FnOk P w K mg base CX0 10 f fd lS23 (XL cU T1 T2):=by
 refine F.by zak (fun vs H Q E h=>?_) (fun cdv A outer s H vs Q E hr h=>?_)
 ·obtain⟨d,p,b,z,ns,o,L,st,n,rfl,_⟩:=h
  rfl
 obtain⟨d,p,b,z,ns,o,L,st,n,rfl,hb,hz,hU,hn,nd,hP,q⟩:=h
 have hr9:Room 9 _:=hr.mono (by decide)
 have hr2:Room 2 _:=hr.mono (by decide)
 have hr1:Room 1 _:=hr.mono (by decide)
 refine⟨_,
  (zh (zy (tN zA (xT 2) zp)
   (zh (zG (ZH (jv 0) N.cl MR hr1 xi (jA3 (jv 1) (xT 2) zp))))
   (zh (zy (tN zA (xT 2) zp)
    (zh (zG (cA GD hr2 (jA3 (jv 0) (jv 1) (xT 2)))))
    (zh (zy (jW.pt (yd (tN zA (xT 2) zp) (yd (Zj hr1 (xT 2) (jv 1)) (yh (wp (cA GA hr9 (jA1 (jv 2))))))))
     (zh (zG (ZH (jv 0) N.cl MR hr1 xi (jA3 (jv 1) (xT 2) zp))))
     zv)))))),?_⟩
 have sl:=zE
 cases hb with
 |@give x _ hp =>
  refine⟨_,rfl,ixT hp aI0 ⟨rfl,_,rfl,ite2 (fun c=>?_) (fun c=>absurd (by decide) c)⟩⟩
  refine⟨_,rfl,o.u,o.dx,_,rfl,hU.ob,rfl,_,rfl,_,rfl,ixT hp aI1 ⟨d,x,"given",z,ns,o,L,_,n,rfl,hU,by lia,hP,fun H3 g3 U3=>?_⟩⟩
  exact q _ L g3 (U3.mono (by lia))
 |@lt x de b _ q1 r1 hp hd hb1 =>
  refine⟨_,rfl,ixT hp aI0 ⟨rfl,_,rfl,ite2 aB (fun _=>⟨_,rfl,ixT hp aI0 ⟨rfl,_,rfl,ite2 (fun c=>?_) (fun c=>absurd (by decide) c)⟩⟩)⟩⟩
  refine⟨_,rfl,_,rfl,_,rfl,ixT hp aI2 ⟨d,q1,de,z,ns,o,L,st,n,rfl,hd,hU,by lia,nd,hP,fun H' L' g U=>?_⟩⟩
  exact q _ L' g U
 |iff hp _ _ =>
  refine⟨_,rfl,ixT hp aI0 ⟨rfl,_,rfl,ite2 aB (fun _=>⟨_,rfl,ixT hp aI0 ⟨rfl,_,rfl,ite2 aB (fun _=>⟨_,rfl,ixT hp aI0 ⟨rfl,_,rfl,ite2 aB (fun _=>?_)⟩⟩)⟩⟩)⟩⟩
  exact q _ L (.refl hU.pres) (hU.mono (by lia))
 |@case x as ps _ q1 hp hq1 hl0 hA =>
  have hb:=IsB.case hp hq1 hl0 hA
  have az:as.sz<=300000:=by unfold Bd.sz at hz;lia
  refine⟨_,rfl,ixT hp aI0 ⟨rfl,_,rfl,ite2 aB (fun _=>⟨_,rfl,ixT hp aI0 ⟨rfl,_,rfl,ite2 aB (fun _=>⟨_,rfl,ixT hp aI0 ⟨rfl,_,rfl,ite2 (fun _=>?_) (fun c=>absurd (by decide) c)⟩⟩)⟩⟩)⟩⟩
  have hP':=hP
  obtain⟨kvs,hd,hk⟩:=hP'
  refine⟨_,rfl,ixT hp aI1 ⟨_,rfl,d,_,rfl,DGet.k (k:=.inr x) hd,_,rfl,?_⟩⟩
  rcases hk x with⟨p1,p2⟩|⟨k,t,p1,p2,p3⟩
  ·rw[p2]
   refine ite2 aB (fun _=>?_)
   have e:noteB z ns st (.case x as)=st:=by
    show(if yX x as=true then addR z ns "anew" st x else st)=st
    unfold addR
    rw[p1]
    split<;>rfl
   rw[e]at q
   exact q _ L (.refl hU.pres) (hU.mono (by lia))
  rw[p2]
  refine ite2 (fun _=>?_) (fun c=>absurd rfl c)
  refine⟨_,rfl,p,x,as,rfl,hb,az,hU.tb,fun H1 k1 T1'=>⟨_,rfl,?_⟩⟩
  have U1:=hU.keep T1' k1
  have g1:Gr T1 T2 o H L H1 L:=⟨fun b u n e=>k1 b u (fun y=>n (.inr (.inr (.inr (.inr y))))) e,fun _ h=>h,fun _ h=>.inl h,U1.pres⟩
  by_cases ca:yX x as=true
  ·rw[ca]
   refine iteT ?_
   refine⟨_,rfl,o.u,o.dx,_,rfl,U1.ob,rfl,_,rfl,_,rfl,ixT (g1.tups hU _ _ hp) aI1 ⟨d,x,"anew",z,ns,o,L,_,n,rfl,U1,by lia,g1.pm hU hP nd,fun H3 g3 U3=>?_⟩⟩
   refine q _ L (g1.trans g3) ?_
   rw[show noteB z ns st (.case x as)=addR z ns "anew" st x from if_pos ca]
   exact U3.mono (by lia)
  ·have ca:yX x as=false:=by simpa using ca
   rw[ca]
   refine iteF ?_
   refine q _ L g1 ?_
   rw[show noteB z ns st (.case x as)=st from if_neg (by rw[ca];decide)]
   exact U1.mono (by lia)
mutual
theorem Bd.all_sz:∀(b:Bd){c:Bd},c∈b.all->c.sz<=b.sz
 |.give x,c,h=>by unfold Bd.all at h;rw[ui.mp h];exact ud _
 |.lt x d b,c,h=>by
  unfold Bd.all at h
  rcases um.mp h with h|h
  ·rw[h];exact ud _
  ·have:=Bd.all_sz b h;show _<=Bd.sz (.lt x d b);rw[Bd.sz];lia
 |.iff x a b,c,h=>by
  unfold Bd.all at h
  rcases um.mp h with h|h
  ·rw[h];exact ud _
  ·show _<=Bd.sz (.iff x a b)
   rw[Bd.sz]
   rcases uz.mp h with h|h
   ·have:=Bd.all_sz a h;lia
   ·have:=Bd.all_sz b h;lia
 |.case x as,c,h=>by
  unfold Bd.all at h
  rcases um.mp h with h|h
  ·rw[h];exact ud _
  ·have:=Arms.all_sz as h;show _<=Bd.sz (.case x as);rw[Bd.sz];lia
theorem Arms.all_sz:∀(a:Arms){c:Bd},c∈a.all->c.sz<=a.sz
 |.nil,c,h=>by unfold Arms.all at h;cases h
 |.cons t ns b r,c,h=>by
  unfold Arms.all at h
  rw[Arms.sz]
  rcases uz.mp h with h|h
  ·have:=Bd.all_sz b h;lia
  ·have:=Arms.all_sz r h;lia
end
theorem Wz{l:List Df}{i:Nat}{d:Df}(h:l[i]?=some d):cntB (l.take (i+1))=cntB (l.take i)+d.b.all.length:=by
 unfold cntB
 rw[uv,h,uq,List.sum_append]
 show _+(_+0)=_
 rw[Nat.add_zero]
theorem zal(l:List Df)(i:Nat):cntB (l.take i)<=cntB l:=by
 conv=>rhs;rw[<- List.take_append_drop i l]
 unfold cntB
 rw[uq,List.sum_append]
 exact Ux _ _
theorem scAllU:FnScope ["program","uses","one","params","k","param","body"] ["program"] (zo vD):=.ok
theorem zam{T1 T2:Addr}(F:Fun K "all_uses" "all_uses" vD f fd)(N:Un K cU)(GM:Ma P w K mg base CX0 1 "Uses" cU ["self"] (XI cU))(GI:Ca P w K mg base CX0 3 "bodies_in" ["body"] Jm)(GB:Ca P w K mg base CX0 10 "note_body" lS23 (XL cU T1 T2))(m_enumerate:mg "enumerate"=none):FnOk P w K mg base CX0 11 f fd ["program"] (Jx cU T1 T2):=by
 refine F.by scAllU (fun vs H Q E h=>?_) (fun cdv A outer s H vs Q E hr h=>?_)
 ·obtain⟨p,pk,pd,ds,dfs,rfl,_⟩:=h
  rfl
 obtain⟨p,pk,pd,ds,dfs,rfl,hp,hpd,hF,hok,hc,hT,q⟩:=h
 have hr10:Room 10 _:=hr.mono (by decide)
 have hr3:Room 3 _:=hr.mono (by decide)
 have hr2:Room 2 _:=hr.mono (by decide)
 have hr1:Room 1 _:=hr.mono (by decide)
 refine⟨_,
  (zg (sE 1 scAllU.nd (zch GM hr2 rfl xi))
  (zg (zJ PassesOwn.never rfl (yK (xT 0)) (gN 2 scAllU.nd)
   (zg (sE 3 scAllU.nd vw)
   (zg (zJ PassesOwn.never rfl (Z2 rfl m_enumerate (jA1 (xT 2))) (yi rfl (zt (gN 4 scAllU.nd) (zt (gN 5 scAllU.nd) zL)))
    (zh (xv hr1 (jv 3) (jv 5) (zq (jA2 (xT 2) (jv 4))))))
   (zh (zJ PassesOwn.never rfl (zF (cA GI hr3 (jA1 (xT 2)))) (gN 6 scAllU.nd)
    (zh (zG (cA GB hr10 (jA3 (jv 1) (jv 3) (jv 6))))))))))
  (zh (zu (jv 1))))),?_⟩
 have sl:=zE
 intro x dx hx hdx ndx
 have s0:Same H (upd (upd H dx (.own x)) x (.ins cU dx [])):=Same.put (zn hdx _) hx
 refine⟨x,dx,rfl,upd_same,fun H1 dh df dc k1 e1 e2 e3 n1 n2 n3 g1 g2 g3 g4=>⟨rfl,?_⟩⟩
 have s1:Same H H1:=fun b u e=>k1 b u (zk e hx) (s0 b u e)
 have f1:=s0.free e1
 have f2:=s0.free e2
 have f3:=s0.free e3
 obtain⟨o,eo⟩:∃o:UO,o=⟨x,dx,dh,df,dc⟩:=⟨_,rfl⟩
 have U1:IsU cU T1 T2 H1 o (fun _=>False) US0 0:=by
  subst eo
  exact⟨g4,hT.same s1,n1,⟨[],g1,ud _,fun z=>rfl⟩,⟨[],g2,ud _,fun z k=>rfl⟩,⟨[],g3,ud _,(fun z k z' k' l h=>by cases h),(fun z k=>.inl ⟨rfl,rfl⟩)⟩,fun z k=>ud 0,fun b h=>h.elim⟩
 have ex:x=o.u:=by rw[eo]
 have fo:∀b,b=o.dh\/b=o.df\/b=o.dc->H b=none:=by
  rw[eo]
  rintro b (y|y|y)
  ·rw[y];exact f1
  ·rw[y];exact f2
  ·rw[y];exact f3
 clear eo
 subst ex
 refine⟨_,rfl,ixT (s1 _ _ hp) aI1 ⟨pd,rfl,⟨_,SqT.of (s1 _ _ hpd)⟩,yO (xs:=ds.map V.ref) (fun i σ H'=>∃L' va vb vc vd ve,Gr T1 T2 o H1 (fun _=>False) H' L'/\IsU cU T1 T2 H' o L' ((dfs.take i).foldl usesD US0) (90*cntB (dfs.take i))/\σ=[some (.ref p),some (.ref o.u),va,vb,vc,vd,ve]) ⟨_,none,none,none,none,none,.refl U1.pres,U1,rfl⟩ (fun i σ H' _ h=>?_) ?_ ?_⟩⟩
 ·obtain⟨L',_,_,_,_,_,g,_⟩:=h
  exact SqT.of (g.tups U1 _ _ (s1 _ _ hpd))
 ·rintro i v σ H2 hv ⟨L2,va,vb,vc,vd,ve,g2,U2,rfl⟩
  rw[ue]at hv
  obtain⟨t,ht,rfl⟩:=uh.mp hv
  obtain⟨d,hd,hFd⟩:=hF.get ht
  obtain⟨qn,pb,e1,e2,e3⟩:=((hFd.keep (.of s1)).keep (g2.tups U1)).ex
  obtain⟨hsz,hns⟩:=hok d (uo hd)
  have cs:=Wz hd
  have cl:=zal dfs (i+1)
  intro dp hdp
  have s3:=zn (o:=.dK []) hdp
  refine⟨_,rfl,ixT (s3 _ _ e1) aI1 ⟨qn,rfl,⟨_,SqT.of (s3 _ _ e2)⟩,jq (xs:=d.ns.map V.str) (fun j σ H'=>∃va vb,Same H2 H'/\Pm H' dp d.z (d.ns.take j)/\(∃kvs,H' dp=some (.dK kvs)/\kvs.length<=j)/\σ=[some (.ref p),some (.ref o.u),some (.ref t),some (.ref dp),va,vb,ve]) ⟨_,_,s3,⟨[],upd_same,fun x=>.inl ⟨rfl,rfl⟩⟩,⟨[],upd_same,ud _⟩,rfl⟩ (fun j σ H' _ h=>?_) ?_ ?_⟩⟩
  ·obtain⟨_,_,s,_⟩:=h
   exact SqT.of (s _ _ e2)
  ·rintro j x T σ H4 hx hT ⟨va,vb,s4,P4,⟨kvs,hk1,hk2⟩,rfl⟩
   rw[ue]at hx
   obtain⟨x,hx0,rfl⟩:=uh.mp hx
   have hj:=(uc.mp hx0).1
   have s5:=s4.new (o:=.tup [.int (j:Nat),.str x]) hT
   have hT5:=upd_same (H:=H4) (a:=T) (o:=.tup [.int (j:Nat),.str x])
   have s45:=zn (o:=.tup [.int (j:Nat),.str x]) hT
   refine⟨T,_,rfl,SqT.of hT5,rfl,_,_,rfl,_,_,rfl,rfl,?_⟩
   generalize upd H4 T (.tup [.int (j:Nat),.str x])=H5 at *
   refine⟨_,rfl,ixT (s5 _ _ e1) aI0 ⟨_,rfl,sN2,fun t2 ht2=>?_⟩⟩
   have s6:=s5.new (o:=.tup [.str d.z,.int (j:Nat)]) ht2
   have ht6:=upd_same (H:=H5) (a:=t2) (o:=.tup [.str d.z,.int (j:Nat)])
   have s46:=s45.new (o:=.tup [.str d.z,.int (j:Nat)]) ht2
   generalize upd H5 t2 (.tup [.str d.z,.int (j:Nat)])=H6 at *
   have hk6:=s46 _ _ hk1
   refine⟨_,rfl,_,rfl,dp,_,rfl,DPut.k (k:=.inr x) hk6 (by lia),?_⟩
   have s7:=s6.put (o:=.dK (putK kvs (.inr x) (.ref t2))) hdp
   have tp:Tups H6 (upd H6 dp (.dK (putK kvs (.inr x) (.ref t2)))):=fun b xs e=>by rw[zi (fun y=>by rw[y,hk6]at e;cases e)];exact e
   have lk:=yc kvs (.inr x) (.ref t2)
   refine⟨_,_,s7,⟨_,upd_same,fun y=>?_⟩,⟨_,upd_same,by lia⟩,rfl⟩
   obtain⟨kvs',z1,z2⟩:=P4
   rw[hk1]at z1
   cases z1
   have et:d.ns.take (j+1)=d.ns.take j++[x]:=by rw[uv,hx0];rfl
   rw[et,Jt,yV]
   by_cases y':x=y
   ·subst y'
    refine .inr ⟨j,t2,?_,by rw[if_pos rfl],tp _ _ ht6⟩
    rw[if_pos rfl,uD,Nat.min_eq_left (by lia)]
   ·rw[if_neg y',if_neg (fun w=>y' (Sum.inr.inj w).symm)]
    exact(z2 y).imp_right fun⟨k,t',a,b,c⟩=>⟨k,t',a,b,tp _ _ (s46 _ _ c)⟩
  rintro σ H3 ⟨va,vb,s4,P4,_,rfl⟩
  rw[ua,uj (ud _)]at P4
  have U3:=U2.same s4
  have g3:=g2.trans (.same U2 s4)
  have ndh:dp≠o.dh:=fun y=>by
   obtain⟨_,e,_⟩:=U2.h
   rw[<- y,hdp]at e
   cases e
  refine⟨_,rfl,ixT (s4 _ _ e1) aI2 ⟨pb,d.b,rfl,e3.keep (.of s4),by lia,fun H4 r ps s5 hr0 hr4 hbs=>?_⟩⟩
  have U4:=U3.same s5
  have g4:=g3.trans (.same U3 s5)
  have P5:Pm H4 dp d.z d.ns:=P4.keep (fun kvs e=>s5 _ _ e) (.of s5)
  have nr:¬ Ow T1 T2 o L2 r:=fun y=>U3.pres r y hr0
  have al:=All2.len hbs
  refine⟨r,rfl,⟨_,SqL.of hr4⟩,yn (xs:=ps.map V.ref) (fun j σ H'=>∃L' vb',Gr T1 T2 o H4 L2 H' L'/\IsU cU T1 T2 H' o L' ((d.b.all.take j).foldl (noteB d.z d.ns) ((dfs.take i).foldl usesD US0)) (90*cntB (dfs.take i)+90*j)/\σ=[some (.ref p),some (.ref o.u),some (.ref t),some (.ref dp),va,vb,vb']) ⟨_,_,.refl U4.pres,U4,rfl⟩ (fun j σ H' _ h=>?_) ?_ ?_⟩
  ·obtain⟨_,_,g,_⟩:=h
   exact SqL.of (g.k _ _ nr hr4)
  ·rintro j v σ H5 hv ⟨L5,vb',g5,U5,rfl⟩
   rw[ue]at hv
   obtain⟨pw,hpw,rfl⟩:=uh.mp hv
   obtain⟨b1,b2,b3⟩:=All2.get hbs hpw
   have hj:=(uc.mp b2).1
   have bz:=Bd.all_sz d.b (uo b2)
   refine⟨_,rfl,_,rfl,_,rfl,dp,pw,b1,d.z,d.ns,o,L5,_,_,rfl,b3.keep (g5.tups U4),by lia,U5,by lia,ndh,g5.pm U4 P5 ndh,fun H6 L6 g6 U6=>⟨_,_,g5.trans g6,?_,rfl⟩⟩
   rw[uv,b2,UQ]
   exact U6.mono (by lia)
  rintro σ H5 ⟨L5,vb',g5,U5,rfl⟩
  rw[ua,<- al,uj (ud _)]at U5
  refine⟨_,_,_,_,_,_,g4.trans g5,?_,rfl⟩
  rw[uv,hd,UQ]at *
  rw[cs]
  exact U5.mono (by lia)
 rintro σ H2 ⟨L2,va,vb,vc,vd,ve,g2,U2,rfl⟩
 rw[ua,<- hF.len,uj (ud _)]at U2
 refine⟨_,rfl,q H2 o L2 (fun b u n e=>g2.k b u (fun y=>?_) (s1 _ _ e)) U2⟩
 rcases y with y|y|y|y|y
 ·rw[fo b (.inl y)]at e;cases e
 ·rw[fo b (.inr (.inl y))]at e;cases e
 ·rw[fo b (.inr (.inr y))]at e;cases e
 ·exact y
 ·exact n y
end
inductive Why where
 |own (r:Str)
 |called (g:Str) (j:Nat)
structure Rw where
 z:Str
 k:Nat
 y:Why
def Rw.key(r:Rw):Str×Nat:=(r.z,r.k)
def YAt(H:Hp)(q:Addr):Why->Prop
 |.own r=>H q=some (.tup [.str r])
 |.called g j=>H q=some (.tup [.str "called",.str g,.int ((j:Nat):Int)])
theorem YAt.keep{H H':Hp}{q:Addr}{y:Why}(h:YAt H q y)(t:Tups H H'):YAt H' q y:=by
 cases y with
 |own r=>exact t _ _ h
 |called g j=>exact t _ _ h
def RowsAt(H:Hp)(rows:List Rw)(ps:List Addr):Prop:=All2 (fun(r:Rw) t=>∃q,H t=some (.tup [.str r.z,.int ((r.k:Nat):Int),.ref q])/\YAt H q r.y) rows ps
theorem RowsAt.keep{H H':Hp}{rows:List Rw}{ps:List Addr}(h:RowsAt H rows ps)(t:Tups H H'):RowsAt H' rows ps:=All2.imp h fun _ _ ⟨q,a,b⟩=>⟨q,t _ _ a,b.keep t⟩
def rsn(st:US)(z:Str)(k:Nat):Str:=if st.hd z=true then "handed"else(st.F z k).getD ""
def own1(st:US)(z:Str)(k:Nat):List Rw:=if rsn st z k≠""then[⟨z,k,.own (rsn st z k)⟩]else[]
def ownD(st:US)(d:Df):List Rw:=(uE d.ns.length).flatMap (own1 st d.z)
def ownR(st:US)(dfs:List Df):List Rw:=dfs.flatMap (ownD st)
def zO(g:Str)(j:Nat)(rows:List Rw)(c:Str×Nat):List Rw:=if c∈rows.map Rw.key then rows else rows++[⟨c.1,c.2,.called g j⟩]
def xA(st:US)(rows:List Rw)(r:Rw):List Rw:=(st.C r.z r.k).foldl (zO r.z r.k) rows
def runR(st:US):Nat->Nat->List Rw->List Rw
 |0,_,rows=>rows
 |f+1,a,rows=>match rows[a]? with
  |none=>rows
  |some r=>runR st f (a+1) (xA st rows r)
def cand(dfs:List Df):List (Str×Nat):=dfs.flatMap fun d=>(uE d.ns.length).map fun k=>(d.z,k)
def unk(cs:List (Str×Nat))(rows:List Rw):Nat:=(cs.filter fun c=>decide (c∉rows.map Rw.key)).length
def z9(dfs:List Df):List Rw:=runR (zS dfs) (unk (cand dfs) (ownR (zS dfs) dfs)+(ownR (zS dfs) dfs).length) 0 (ownR (zS dfs) dfs)
theorem zan(cs:List (Str×Nat))(rows:List Rw)(r:Rw)(h1:r.key∈cs)(h2:r.key∉rows.map Rw.key):unk cs (rows++[r])+1<=unk cs rows:=by
 unfold unk
 induction cs with
 |nil=>cases h1
 |cons c cs ih =>
  have mono:(cs.filter fun c=>decide (c∉(rows++[r]).map Rw.key)).length<=(cs.filter fun c=>decide (c∉rows.map Rw.key)).length:=by
   clear ih h1
   induction cs with
   |nil=>exact ud _
   |cons c' cs ih =>
    rw[List.filter_cons,List.filter_cons]
    by_cases a:c'∈rows.map Rw.key
    ·rw[if_neg (by simp only[decide_eq_true_eq,Classical.not_not];rw[uq];exact uK _ a),if_neg (by simp only[decide_eq_true_eq,Classical.not_not];exact a)]
     exact ih
    ·rw[if_pos (c:=decide (c'∉rows.map Rw.key)=true) (decide_eq_true a)]
     split
     ·rw[ul,ul];lia
     ·rw[ul];lia
  rw[List.filter_cons,List.filter_cons]
  by_cases a:c=r.key
  ·rw[if_neg (by simp only[decide_eq_true_eq,Classical.not_not];rw[uq,a];exact ur _ (ui.mpr rfl)),if_pos (by rw[a];exact decide_eq_true h2),ul]
   lia
  ·have h1:r.key∈cs:=by
    rcases um.mp h1 with h|h
    ·exact absurd h.symm a
    ·exact h
   have ih:=ih h1
   by_cases b:c∈rows.map Rw.key
   ·rw[if_neg (by simp only[decide_eq_true_eq,Classical.not_not];rw[uq];exact uK _ b),if_neg (by simp only[decide_eq_true_eq,Classical.not_not];exact b)]
    exact ih
   ·rw[if_pos (c:=decide (c∉rows.map Rw.key)=true) (decide_eq_true b),if_pos (by rw[decide_eq_true_eq,uq];intro h;rcases uz.mp h with h|h;exact b h;exact a (ui.mp h))]
    rw[ul,ul]
    lia
theorem YS{cs:List (Str×Nat)}{rows:List Rw}{g:Str}{j:Nat}{c:Str×Nat}(h:c∈cs):(zO g j rows c).length+unk cs (zO g j rows c)<=rows.length+unk cs rows/\rows.length<=(zO g j rows c).length:=by
 unfold zO
 split
 ·exact⟨ud _,ud _⟩
 ·rename_i n
  have:=zan cs rows ⟨c.1,c.2,.called g j⟩ h n
  rw[uf]
  exact⟨by show _+1+_<=_;lia,Ux _ _⟩
theorem yY{cs:List (Str×Nat)}{g:Str}{j:Nat}:∀{l:List (Str×Nat)}{rows:List Rw},(∀c∈l,c∈cs)->(l.foldl (zO g j) rows).length+unk cs (l.foldl (zO g j) rows)<=rows.length+unk cs rows/\rows.length<=(l.foldl (zO g j) rows).length
 |[],rows,_=>⟨ud _,ud _⟩
 |c::l,rows,h=>by
  have a:=YS (rows:=rows) (g:=g) (j:=j) (h c uJ)
  have b:=yY (l:=l) (rows:=zO g j rows c) (g:=g) (j:=j) fun c' h'=>h c' (uB _ h')
  rw[Uh]
  exact⟨by lia,by lia⟩
theorem Jz(cs:List (Str×Nat))(rows:List Rw):unk cs rows<=cs.length:=U0 ..
def Cin(dfs:List (Str×Nat))(st:US):Prop:=∀z k,∀c∈st.C z k,c∈dfs
section
variable{cs:List (Str×Nat)}{st:US}{z:Str}{ns:List Str}
theorem Cin.addR(h:Cin cs st){r x:Str}:Cin cs (addR z ns r st x):=by
 unfold GN.addR
 split
 ·exact h
 ·exact h
theorem Cin.addRs:∀{xs:List Str}{st:US}{r:Str},Cin cs st->Cin cs (xs.foldl (GN.addR z ns r) st)
 |[],_,_,h=>h
 |x::xs,st,r,h=>Cin.addRs (xs:=xs) (Cin.addR h)
theorem Cin.addC1(hz:∀k,k < ns.length->(z,k)∈cs)(h:Cin cs st){g x:Str}{j:Nat}:Cin cs (addC1 z ns g j st x):=by
 unfold GN.addC1
 split
 ·exact h
 ·rename_i k e
  intro z' k' c hc
  replace hc:c∈(if z'=g/\k'=j then st.C z' k'++[(z,k)]else st.C z' k'):=hc
  split at hc
  ·rcases uz.mp hc with hc|hc
   ·exact h _ _ _ hc
   ·rw[ui.mp hc];exact hz k (zct e)
  ·exact h _ _ _ hc
theorem Cin.addC(hz:∀k,k < ns.length->(z,k)∈cs){g:Str}(xs:List Str)(h:Cin cs st):Cin cs (addC z ns g st xs):=by
 unfold GN.addC
 generalize xs.zipIdx=l
 induction l generalizing st with
 |nil=>exact h
 |cons a l ih=>exact ih (Cin.addC1 hz h)
theorem Cin.noteD(hz:∀k,k < ns.length->(z,k)∈cs)(h:Cin cs st)(d:De):Cin cs (noteD z ns d st):=by
 cases d with
 |num i=>exact h
 |op w a b=>exact h
 |app w f xs =>
  show Cin cs (if w="call"then _ else if w="make"then _ else if w="func"then _ else if w="ask"then _ else st)
  split
  ·exact Cin.addC hz xs h
  split
  ·exact Cin.addRs h
  split
  ·exact Cin.addRs (xs:=xs) (r:="put") h
  split
  ·exact Cin.addR (Cin.addRs h)
  ·exact h
theorem Cin.noteB(hz:∀k,k < ns.length->(z,k)∈cs)(h:Cin cs st)(b:Bd):Cin cs (noteB z ns st b):=by
 cases b with
 |give x=>exact Cin.addR h
 |lt x d b=>exact Cin.noteD hz h d
 |iff x a b=>exact h
 |case x as =>
  show Cin cs (if yX x as=true then GN.addR z ns "anew" st x else st)
  split
  ·exact Cin.addR h
  ·exact h
theorem Cin.noteBs(hz:∀k,k < ns.length->(z,k)∈cs):∀(l:List Bd){st:US},Cin cs st->Cin cs (l.foldl (GN.noteB z ns) st)
 |[],_,h=>h
 |b::l,st,h=>Cin.noteBs hz l (Cin.noteB hz h b)
theorem Cin.usesD:∀(l:List Df){st:US},(∀d∈l,∀k,k < d.ns.length->(d.z,k)∈cs)->Cin cs st->Cin cs (l.foldl usesD st)
 |[],_,_,h=>h
 |d::l,st,hz,h=>Cin.usesD l (fun d' h'=>hz d' (uB _ h')) (Cin.noteBs (hz d uJ) _ h)
theorem Cin.of(dfs:List Df):Cin (cand dfs) (zS dfs):=by
 refine Cin.usesD dfs (fun d hd k hk=>?_) (fun z k c h=>by cases h)
 unfold cand
 exact Um.mpr ⟨d,hd,uC.mpr ⟨k,UJ.mpr hk,rfl⟩⟩
end
def za7(cU T1 T2:Addr):Sp:=fun vs H Q _=>∃(p pk pd:Addr)(ds:List Addr)(dfs:List Df)(o:UO)(L:Addr->Prop)(st:US)(n:Nat),vs=[.ref p,.ref o.u]/\H p=some (.tup [.ref pk,.ref pd])/\H pd=some (.tup (ds.map V.ref))/\IsFs H dfs ds/\(cand dfs).length<=100000/\IsU cU T1 T2 H o L st n/\∀H' r ps,Same H H'->H r=none->H' r=some (.lst (ps.map V.ref))->RowsAt H' (ownR st dfs) ps->Q (.ref r) H'
theorem JA(st:US)(z:Str)(k:Nat):(own1 st z k).length<=1:=by
 unfold own1
 split
 ·exact ud _
 ·exact uX _
theorem zao{c:Prop}[Decidable c]{ta tb:TE}{σ:St}{H:Hp}{Q:VK}{R:V->Hp->Prop}(a:c->∀Q:VK,(∀v H',R v H'->Q v H')->ta σ H Q)(b:¬ c->∀Q:VK,(∀v H',R v H'->Q v H')->tb σ H Q)(fin:∀v H',R v H'->Q v H'):if c then ta σ H Q else tb σ H Q:=by
 split
 ·rename_i h;exact a h _ fin
 ·rename_i h;exact b h _ fin
theorem vQ(st:US)(z:Str):∀n:Nat,((uE n).flatMap (own1 st z)).length<=n
 |0=>ud _
 |n+1=>by
  rw[UV,Ug,uf]
  have:=vQ st z n
  have:=JA st z n
  simp only[Uo,List.flatMap_nil,uu]
  lia
theorem wb(st:US):∀dfs:List Df,(ownR st dfs).length<=(cand dfs).length
 |[]=>ud _
 |d::l=>by
  have a:=wb st l
  have b:=vQ st d.z d.ns.length
  unfold ownR cand at a ⊢
  rw[Uo,Uo,uf,uf,ua,Us]
  unfold ownD
  unfold ownD at a
  lia
theorem WA(dfs:List Df){i:Nat}{d:Df}(h:dfs[i]?=some d):(cand (dfs.take i)).length+d.ns.length<=(cand dfs).length:=by
 have e:cand dfs=cand (dfs.take i)++cand (dfs.drop i):=by unfold cand;rw[<- Ug,List.take_append_drop]
 have e2:dfs.drop i=d::dfs.drop (i+1):=by
  obtain⟨hi,rfl⟩:=uc.mp h
  exact List.drop_eq_getElem_cons hi
 rw[e,uf,e2]
 unfold cand
 rw[Uo,uf,ua,Us]
 lia
section
variable{P:Program}{w:World}{K:ub}{mg:Str->Option Value}{base:Heap}{f cU:Addr}{fd:FuncData}
theorem scOwn:FnScope ["program","uses","rows","one","k","reason"] ["program","uses"] (zo vB):=.ok
theorem zcv{T1 T2:Addr}(F:Fun K "own_rows" "own_rows" vB f fd)(N:Un K cU)(m_range:mg "range"=none)(m_len:mg "len"=none):FnOk P w K mg base CX0 1 f fd ["program","uses"] (za7 cU T1 T2):=by
 refine F.by scOwn (fun vs H Q E h=>?_) (fun cdv A outer s H vs Q E hr h=>?_)
 ·obtain⟨p,pk,pd,ds,dfs,o,L,st,n,rfl,_⟩:=h
  rfl
 obtain⟨p,pk,pd,ds,dfs,o,L,st,n,rfl,hp,hpd,hF,hcl,hU,q⟩:=h
 refine⟨_,
  (zg (sE 2 scOwn.nd (zB zD))
  (zg (zJ PassesOwn.never rfl (yK (xT 0)) (gN 3 scOwn.nd)
   (zh (zJ PassesOwn.never rfl (zQ rfl m_range (jA1 (jL m_len (xT 3)))) (gN 4 scOwn.nd)
    (zg (sE 5 scOwn.nd (Vd (Zj hr (xT 3) (yA (jv 1))) zp (vL hr (yA (jv 1)) (zq (jA2 (xT 3) (jv 4))) zp)))
    (zh (zy (tN Xe (jv 5) zp)
     (zh (zG (yy uA uN uO zK (jv 2) (jA1 (zq (jA3 (xT 3) (jv 4) (zq (jA1 (jv 5)))))))))
     zv))))))
  (zh (zu (jv 2))))),?_⟩
 have sl:=zE
 refine⟨sN0,fun r hr0=>?_⟩
 have s1:=zn (o:=.lst []) hr0
 refine⟨_,rfl,ixT (s1 _ _ hp) aI1 ⟨pd,rfl,⟨_,SqT.of (s1 _ _ hpd)⟩,yO (xs:=ds.map V.ref) (fun i σ H'=>∃va vb vc,∃ps:List Addr,Same H H'/\H' r=some (.lst (ps.map V.ref))/\RowsAt H' (ownR st (dfs.take i)) ps/\σ=[some (.ref p),some (.ref o.u),some (.ref r),va,vb,vc]) ⟨none,none,none,[],s1,upd_same,.nil,rfl⟩ (fun i σ H' _ h=>?_) ?_ ?_⟩⟩
 ·obtain⟨_,_,_,_,s,_⟩:=h
  exact SqT.of (s _ _ hpd)
 ·rintro i v σ H2 hv ⟨va,vb,vc,ps,s2,hr2,hR,rfl⟩
  rw[ue]at hv
  obtain⟨t,ht,rfl⟩:=uh.mp hv
  obtain⟨d,hd,hFd⟩:=hF.get ht
  obtain⟨qn,pb,e1,e2,-⟩:=hFd.ex
  have c1:=WA dfs hd
  have c2:=wb st (dfs.take i)
  refine⟨_,rfl,ixT (s2 _ _ e1) aI1 ⟨qn,_,rfl,.inr (SqT.of (s2 _ _ e2)),_,rfl,by lia,by rw[ua];lia,?_⟩⟩
  rw[show(((d.ns.map V.str).length:Nat):Int).toNat=d.ns.length by rw[ua];rfl]
  refine yT (n:=d.ns.length) (fun j σ H'=>∃vb vc,∃ps:List Addr,Same H H'/\H' r=some (.lst (ps.map V.ref))/\RowsAt H' (ownR st (dfs.take i)++(uE j).flatMap (own1 st d.z)) ps/\σ=[some (.ref p),some (.ref o.u),some (.ref r),some (.ref t),vb,vc]) ⟨vb,vc,ps,s2,hr2,by rw[show(uE 0).flatMap (own1 st d.z)=[]from rfl,uu];exact hR,rfl⟩ ?_ ?_
  ·rintro j σ H3 hj ⟨vb,vc,ps,s3,hr3,hR3,rfl⟩
   rw[tH]
   have U3:=hU.same s3
   obtain⟨kh,h1,h2,h3⟩:=U3.h
   have es:(uE (j+1)).flatMap (own1 st d.z)=(uE j).flatMap (own1 st d.z)++own1 st d.z j:=by rw[UV,Ug];simp
   have c3:=vQ st d.z j
   have c4:=All2.len hR3
   rw[uf]at c4
   obtain⟨kf,f1,f2,f3⟩:=U3.f
   refine⟨_,rfl,ixT (s3 _ _ e1) aI0 ⟨_,rfl,o.u,cU,o.dx,_,.ref o.dh,rfl,U3.ob,N.cl,N.b1,rfl,o.dh,_,rfl,DGet.k (k:=.inr d.z) h1,_,rfl,?_⟩⟩
   rw[h3]
   refine zao (R:=fun v H'=>v=.str (rsn st d.z j)/\Same H3 H') (fun c Q fin=>?_) (fun c Q fin=>?_) ?_
   ·exact fin _ _ ⟨by unfold rsn;rw[if_pos c],fun _ _ h=>h⟩
   ·refine⟨_,rfl,o.u,cU,o.dx,_,.ref o.df,rfl,U3.ob,N.cl,N.b2,rfl,o.df,rfl,.inr ⟨kf,.of f1⟩,_,rfl,ixT (s3 _ _ e1) aI0 ⟨_,rfl,sN2,fun tk htk=>?_⟩⟩
    have s4:=zn (o:=.tup [.str d.z,.int ((j:Nat):Int)]) htk
    refine⟨_,DGet.t (k:=kz d.z j) (s4 _ _ f1) upd_same,?_⟩
    rw[f3]
    refine fin _ _ ⟨?_,s4⟩
    unfold rsn
    rw[if_neg c]
    cases st.F d.z j with
    |none=>rfl
    |some r=>rfl
   rintro v H4 ⟨rfl,s4⟩
   have s04:=s3.trans s4
   refine⟨_,rfl,rfl,_,rfl,?_⟩
   by_cases ce:rsn st d.z j=""
   ·rw[show(!decide (V.str (rsn st d.z j)=V.str ""))=false by rw[ce];rfl]
    refine iteF ⟨_,_,ps,s04,s4 _ _ hr3,?_,rfl⟩
    rw[es,show own1 st d.z j=[] by unfold own1;rw[if_neg (fun y=>y ce)],uu]
    exact hR3.keep (.of s4)
   ·rw[show(!decide (V.str (rsn st d.z j)=V.str ""))=true by rw[decide_eq_false (fun y=>ce (V.str.inj y))];rfl]
    refine iteT ?_
    refine⟨_,rfl,.inl ⟨rfl,_,SqL.of (s4 _ _ hr3)⟩,_,rfl,ixT (s04 _ _ e1) aI0 ⟨_,rfl,_,rfl,sN1,fun q1 hq1=>⟨sN3,fun t1 ht1=>?_⟩⟩⟩
    have s5:=s04.new (o:=.tup [.str (rsn st d.z j)]) hq1
    have s45:=s4.new (o:=.tup [.str (rsn st d.z j)]) hq1
    have hq5:=upd_same (H:=H4) (a:=q1) (o:=.tup [.str (rsn st d.z j)])
    generalize upd H4 q1 (.tup [.str (rsn st d.z j)])=H5 at *
    have s6:=s5.new (o:=.tup [.str d.z,.int ((j:Nat):Int),.ref q1]) ht1
    have s46:=s45.new (o:=.tup [.str d.z,.int ((j:Nat):Int),.ref q1]) ht1
    have hq6:=old (o:=.tup [.str d.z,.int ((j:Nat):Int),.ref q1]) ht1 hq5
    have ht6:=upd_same (H:=H5) (a:=t1) (o:=.tup [.str d.z,.int ((j:Nat):Int),.ref q1])
    generalize upd H5 t1 (.tup [.str d.z,.int ((j:Nat):Int),.ref q1])=H6 at *
    have hr6:=s46 _ _ hr3
    refine⟨r,_,_,rfl,rfl,hr6,by rw[ua];lia,?_⟩
    have tp:Tups H6 (upd H6 r (.lst (ps.map V.ref++[.ref t1]))):=fun b xs e=>by rw[zi (fun y=>by rw[y,hr6]at e;cases e)];exact e
    refine⟨_,_,ps++[t1],s6.put hr0,by rw[upd_same,uq];rfl,?_,rfl⟩
    rw[es,<- Ui,show own1 st d.z j=[⟨d.z,j,.own (rsn st d.z j)⟩] by unfold own1;rw[if_pos ce]]
    exact All2.app ((hR3.keep (.of s46)).keep tp) (.cons ⟨q1,tp _ _ ht6,tp _ _ hq6⟩ .nil)
  rintro σ H3 ⟨vb,vc,ps,s3,hr3,hR3,rfl⟩
  refine⟨_,_,_,ps,s3,hr3,?_,rfl⟩
  rw[uv,hd]
  unfold ownR
  rw[Ug]
  simp only[Option.toList_some,Uo,List.flatMap_nil,uu]
  exact hR3
 rintro σ H2 ⟨va,vb,vc,ps,s2,hr2,hR,rfl⟩
 rw[ua,<- hF.len,uj (ud _)]at hR
 exact⟨_,rfl,q _ r ps s2 hr0 hr2 hR⟩
end
variable{st:US}{cs:List (Str×Nat)}
theorem YT(g:Str)(j:Nat)(rows:List Rw)(c:Str×Nat):∃more,zO g j rows c=rows++more:=by
 unfold zO
 split
 ·exact⟨[],(uu _).symm⟩
 ·exact⟨_,rfl⟩
theorem YU(g:Str)(j:Nat)(rows:List Rw)(c:Str×Nat):c∈(zO g j rows c).map Rw.key:=by
 unfold zO
 split
 ·assumption
 ·rw[uq]
  exact ur _ (ui.mpr rfl)
theorem xy(g:Str)(j:Nat):∀(l:List (Str×Nat))(rows:List Rw),∃more,l.foldl (zO g j) rows=rows++more
 |[],rows=>⟨[],(uu _).symm⟩
 |c::l,rows=>by
  obtain⟨m1,e1⟩:=YT g j rows c
  obtain⟨m2,e2⟩:=xy g j l (zO g j rows c)
  exact⟨m1++m2,by rw[Uh,e2,e1,Ui]⟩
theorem XM{a b:List Rw}{c:Str×Nat}(h:∃more,b=a++more)(m:c∈a.map Rw.key):c∈b.map Rw.key:=by
 obtain⟨m',rfl⟩:=h
 rw[uq]
 exact uK _ m
theorem js(g:Str)(j:Nat):∀(l:List (Str×Nat))(rows:List Rw)(c:Str×Nat),c∈l->c∈(l.foldl (zO g j) rows).map Rw.key
 |d::l,rows,c,h=>by
  rcases um.mp h with h|h
  ·subst h
   exact XM (xy g j l _) (YU g j rows c)
  ·exact js g j l _ c h
theorem Z3:∀(f a:Nat)(rows:List Rw),∃more,runR st f a rows=rows++more
 |0,a,rows=>⟨[],(uu _).symm⟩
 |f+1,a,rows=>by
  unfold runR
  split
  ·exact⟨[],(uu _).symm⟩
  ·rename_i r _
   obtain⟨m1,e1⟩:=xy r.z r.k (st.C r.z r.k) rows
   obtain⟨m2,e2⟩:=Z3 f (a+1) (xA st rows r)
   exact⟨m1++m2,by rw[e2];unfold xA;rw[e1,Ui]⟩
theorem wO(hC:Cin cs st):∀(f a:Nat)(rows:List Rw),unk cs rows+(rows.length-a)<=f->(∀i r,i < a->rows[i]?=some r->∀c∈st.C r.z r.k,c∈rows.map Rw.key)->∀r∈runR st f a rows,∀c∈st.C r.z r.k,c∈(runR st f a rows).map Rw.key
 |0,a,rows,hf,h,r,hr,c,hc=>by
  unfold runR at hr ⊢
  obtain⟨i,hi⟩:=UD.mp hr
  have:=(uc.mp hi).1
  exact h i r (by lia) hi c hc
 |f+1,a,rows,hf,h,r,hr,c,hc=>by
  unfold runR at hr ⊢
  cases e:rows[a]? with
  |none =>
   rw[e]at hr
   obtain⟨i,hi⟩:=UD.mp hr
   have h1:=(uc.mp hi).1
   have h2:rows.length<=a:=List.getElem?_eq_none_iff.mp e
   exact h i r (by lia) hi c hc
  |some ra =>
   rw[e]at hr
   have ha:=(uc.mp e).1
   have fu:=yY (cs:=cs) (g:=ra.z) (j:=ra.k) (l:=st.C ra.z ra.k) (rows:=rows) (hC ra.z ra.k)
   refine wO hC f (a+1) (xA st rows ra) (by unfold xA;lia) (fun i r' hi hr' c' hc'=>?_) r hr c hc
   obtain⟨more,em⟩:=xy ra.z ra.k (st.C ra.z ra.k) rows
   have er:rows[i]?=some r':=by
    unfold xA at hr'
    rw[em,Uc (by lia)]at hr'
    exact hr'
   by_cases y:i=a
   ·subst y
    rw[e]at er
    cases er
    exact js _ _ _ _ _ hc'
   ·exact XM ⟨more,em⟩ (h i r' (by lia) er c' hc')
section
variable{dfs:List Df}
theorem JB{r:Rw}(h:r∈ownR (zS dfs) dfs):r∈z9 dfs:=by
 unfold z9
 obtain⟨m,e⟩:=Z3 (st:=zS dfs) (unk (cand dfs) (ownR (zS dfs) dfs)+(ownR (zS dfs) dfs).length) 0 (ownR (zS dfs) dfs)
 rw[e]
 exact uK _ h
theorem Z4{r:Rw}(h:r∈z9 dfs){c:Str×Nat}(hc:c∈(zS dfs).C r.z r.k):c∈(z9 dfs).map Rw.key :=
 wO (Cin.of dfs) _ 0 _ (by lia) (fun i r hi=>absurd hi (tX _)) r h c hc
end
def RsB(ns:List Str)(k:Nat)(r:Str):Bd->Prop
 |.give x=>pix ns x=some k/\r="given"
 |.lt _ (.app w f xs) _=>((w="make"\/w="func"\/w="ask")/\(∃x∈xs,pix ns x=some k)/\r="put")\/(w="ask"/\pix ns f=some k/\r="asked")
 |.lt _ _ _=>False
 |.case x as=>yX x as=true/\pix ns x=some k/\r="anew"
 |.iff _ _ _=>False
def FnB(g:Str):Bd->Prop
 |.lt _ (.app w f _) _=>w="func"/\f=g
 |_=>False
def ClB(ns:List Str)(g:Str)(j k:Nat):Bd->Prop
 |.lt _ (.app w f xs) _=>w="call"/\f=g/\∃x,xs[j]?=some x/\pix ns x=some k
 |_=>False
section
variable{z:Str}{ns:List Str}{st:US}
theorem Zk{r x:Str}:(addR z ns r st x).hd=st.hd:=by unfold addR;split<;>rfl
theorem YV{r x:Str}:(addR z ns r st x).C=st.C:=by unfold addR;split<;>rfl
theorem xI{r x:Str}(z':Str)(k':Nat):(addR z ns r st x).F z' k'=if z'=z/\pix ns x=some k' then some r else st.F z' k':=by
 unfold addR
 split
 ·rename_i e
  rw[if_neg (fun h=>by rw[e]at h;cases h.2)]
 ·rename_i k e
  show(if z'=z/\k'=k then some r else st.F z' k')=_
  by_cases h:z'=z/\k'=k
  ·rw[if_pos h,if_pos ⟨h.1,by rw[e,h.2]⟩]
  ·rw[if_neg h,if_neg (fun w=>h ⟨w.1,by rw[e]at w;exact(uP.inj w.2).symm⟩)]
theorem wc(r:Str):∀(xs:List Str)(st:US),(xs.foldl (addR z ns r) st).hd=st.hd
 |[],_=>rfl
 |x::xs,st=>by rw[Uh,wc r xs,Zk]
theorem wY(r:Str):∀(xs:List Str)(st:US),(xs.foldl (addR z ns r) st).C=st.C
 |[],_=>rfl
 |x::xs,st=>by rw[Uh,wY r xs,YV]
theorem xc(r:Str)(z':Str)(k':Nat):∀(xs:List Str)(st:US),((z'=z/\∃x∈xs,pix ns x=some k')/\(xs.foldl (addR z ns r) st).F z' k'=some r)\/(¬ (z'=z/\∃x∈xs,pix ns x=some k')/\(xs.foldl (addR z ns r) st).F z' k'=st.F z' k')
 |[],st=>.inr ⟨fun⟨_,x,h,_⟩=>(by cases h),rfl⟩
 |x::xs,st=>by
  rw[Uh]
  rcases xc r z' k' xs (addR z ns r st x)with⟨⟨a,y,hy,b⟩,c⟩|⟨a,c⟩
  ·exact .inl ⟨⟨a,y,uB _ hy,b⟩,c⟩
  ·rw[xI]at c
   by_cases h:z'=z/\pix ns x=some k'
   ·rw[if_pos h]at c
    exact .inl ⟨⟨h.1,x,uJ,h.2⟩,c⟩
   ·rw[if_neg h]at c
    refine .inr ⟨fun⟨p,y,hy,q⟩=>?_,c⟩
    rcases um.mp hy with e|e
    ·subst e;exact h ⟨p,q⟩
    ·exact a ⟨p,y,e,q⟩
theorem JC{g x:Str}{j:Nat}:(addC1 z ns g j st x).hd=st.hd:=by unfold addC1;split<;>rfl
theorem zap{g x:Str}{j:Nat}:(addC1 z ns g j st x).F=st.F:=by unfold addC1;split<;>rfl
theorem zaq{g x:Str}{j:Nat}(g':Str)(j':Nat)(c:Str×Nat):c∈(addC1 z ns g j st x).C g' j'↔c∈st.C g' j'\/(g'=g/\j'=j/\∃k,pix ns x=some k/\c=(z,k)):=by
 unfold addC1
 split
 ·rename_i e
  exact⟨.inl,fun h=>by
   rcases h with h|⟨_,_,k,h,_⟩
   ·exact h
   ·rw[e]at h;cases h⟩
 ·rename_i k e
  show c∈(if g'=g/\j'=j then st.C g' j'++[(z,k)]else st.C g' j')↔_
  by_cases h:g'=g/\j'=j
  ·rw[if_pos h,uz,ui]
   exact⟨fun y=>y.imp_right fun y=>⟨h.1,h.2,k,e,y⟩,fun y=>y.imp_right fun⟨_,_,k',a,b⟩=>by rw[e]at a;cases a;exact b⟩
  ·rw[if_neg h]
   exact⟨.inl,fun y=>by
    rcases y with y|⟨a,b,_⟩
    ·exact y
    ·exact absurd ⟨a,b⟩ h⟩
theorem JD{g:Str}:∀(l:List (Str×Nat))(st:US),(l.foldl (fun st p=>addC1 z ns g p.2 st p.1) st).hd=st.hd/\(l.foldl (fun st p=>addC1 z ns g p.2 st p.1) st).F=st.F/\∀g' j' c,c∈(l.foldl (fun st p=>addC1 z ns g p.2 st p.1) st).C g' j'↔c∈st.C g' j'\/(g'=g/\∃x k,(x,j')∈l/\pix ns x=some k/\c=(z,k))
 |[],st=>⟨rfl,rfl,fun g' j' c=>⟨.inl,fun h=>by
   rcases h with h|⟨_,x,k,h,_⟩
   ·exact h
   ·cases h⟩⟩
 |p::l,st=>by
  obtain⟨a,b,c⟩:=JD (g:=g) l (addC1 z ns g p.2 st p.1)
  rw[Uh]
  refine⟨a.trans JC,b.trans zap,fun g' j' d=>(c g' j' d).trans ?_⟩
  rw[zaq]
  constructor
  ·rintro((h|⟨h1,h2,k,h3,h4⟩)|⟨h1,x,k,h2,h3,h4⟩)
   ·exact .inl h
   ·exact .inr ⟨h1,p.1,k,by rw[h2];exact uJ,h3,h4⟩
   ·exact .inr ⟨h1,x,k,uB _ h2,h3,h4⟩
  ·rintro(h|⟨h1,x,k,h2,h3,h4⟩)
   ·exact .inl (.inl h)
   ·rcases um.mp h2 with e|e
    ·refine .inl (.inr ⟨h1,congrArg (·.2) e,k,?_,h4⟩)
     rw[show p.1=x from(congrArg (·.1) e).symm]
     exact h3
    ·exact .inr ⟨h1,x,k,e,h3,h4⟩
theorem zcw{g:Str}(xs:List Str)(g':Str)(j':Nat)(c:Str×Nat):c∈(addC z ns g st xs).C g' j'↔c∈st.C g' j'\/(g'=g/\∃x k,xs[j']?=some x/\pix ns x=some k/\c=(z,k)):=by
 have h:=(JD (z:=z) (ns:=ns) (g:=g) xs.zipIdx st).2.2 g' j' c
 refine h.trans (or_congr Iff.rfl (and_congr Iff.rfl ?_))
 constructor
 ·rintro⟨x,k,h1,h2⟩
  exact⟨x,k,UU.mp h1,h2⟩
 ·rintro⟨x,k,h1,h2⟩
  exact⟨x,k,UU.mpr h1,h2⟩
structure Adds(z:Str)(ns:List Str)(b:Bd)(st st':US):Prop where
 hd:∀g,st'.hd g=true↔st.hd g=true\/FnB g b
 f1:∀z' k' r,st'.F z' k'=some r->st.F z' k'=some r\/(z'=z/\RsB ns k' r b)
 f2:∀z' k',(st.F z' k').isSome=true->(st'.F z' k').isSome=true
 f3:∀k r,RsB ns k r b->(st'.F z k).isSome=true
 c:∀g j c,c∈st'.C g j↔c∈st.C g j\/∃k,ClB ns g j k b/\c=(z,k)
theorem we{b:Bd}(h1:∀g,¬ FnB g b)(h2:∀k r,¬ RsB ns k r b)(h3:∀g j k,¬ ClB ns g j k b):Adds z ns b st st:=by
 refine⟨fun g=>⟨.inl,fun h=>h.resolve_right (h1 g)⟩,fun _ _ _ h=>.inl h,fun _ _ h=>h,fun k r h=>absurd h (h2 k r),fun g j c=>⟨.inl,fun h=>h.resolve_right fun⟨k,y,_⟩=>h3 g j k y⟩⟩
theorem JE{b:Bd}{r x:Str}(h1:∀g,¬ FnB g b)(h2:∀k r',RsB ns k r' b↔(pix ns x=some k/\r'=r))(h3:∀g j k,¬ ClB ns g j k b):Adds z ns b st (addR z ns r st x):=by
 refine⟨fun g=>?_,fun z' k' r' h=>?_,fun z' k' h=>?_,fun k r' h=>?_,fun g j c=>?_⟩
 ·rw[Zk]
  exact⟨.inl,fun h=>h.resolve_right (h1 g)⟩
 ·rw[xI]at h
  split at h
  ·rename_i y
   exact .inr ⟨y.1,(h2 _ _).mpr ⟨y.2,(uP.inj h).symm⟩⟩
  ·exact .inl h
 ·rw[xI]
  split
  ·rfl
  ·exact h
 ·rw[xI,if_pos ⟨rfl,((h2 _ _).mp h).1⟩]
  rfl
 ·rw[YV]
  exact⟨.inl,fun h=>h.resolve_right fun⟨k,y,_⟩=>h3 g j k y⟩
theorem Z5(b:Bd){w f:Str}{xs:List Str}{y:Str}{e:Bd}(eb:b=.lt y (.app w f xs) e)(hw:w="make"\/w="func"):Adds z ns b st (if w="func"then hand f (xs.foldl (addR z ns "put") st)else xs.foldl (addR z ns "put") st):=by
 subst eb
 have nask:w≠"ask":=by rcases hw with h|h<;>(rw[h];decide)
 have ncall:w≠"call":=by rcases hw with h|h<;>(rw[h];decide)
 have rs:∀k r,RsB ns k r (.lt y (.app w f xs) e)↔((∃x∈xs,pix ns x=some k)/\r="put"):=fun k r=>by
  show((w="make"\/w="func"\/w="ask")/\_)\/(w="ask"/\_)↔_
  exact⟨fun h=>h.elim (fun h=>h.2) fun h=>absurd h.1 nask,fun h=>.inl ⟨hw.imp_right .inl,h⟩⟩
 have eF:(if w="func"then hand f (xs.foldl (addR z ns "put") st)else xs.foldl (addR z ns "put") st).F=(xs.foldl (addR z ns "put") st).F:=by split<;>rfl
 have eC:(if w="func"then hand f (xs.foldl (addR z ns "put") st)else xs.foldl (addR z ns "put") st).C=st.C:=by
  split
  ·exact wY "put" xs st
  ·exact wY "put" xs st
 refine⟨fun g=>?_,fun z' k' r' h=>?_,fun z' k' h=>?_,fun k r' h=>?_,fun g j c=>?_⟩
 ·show _↔_\/(w="func"/\f=g)
  split
  ·rename_i hf
   show(if g=f then true else(xs.foldl (addR z ns "put") st).hd g)=true↔_
   rw[wc]
   by_cases hg:g=f
   ·rw[if_pos hg];exact⟨fun _=>.inr ⟨hf,hg.symm⟩,fun _=>rfl⟩
   ·rw[if_neg hg];exact⟨.inl,fun h=>h.resolve_right fun h=>hg h.2.symm⟩
  ·rename_i hf
   rw[wc]
   exact⟨.inl,fun h=>h.resolve_right fun h=>hf h.1⟩
 ·rw[eF]at h
  rcases xc (z:=z) (ns:=ns) "put" z' k' xs st with⟨a,c⟩|⟨a,c⟩
  ·rw[c]at h
   exact .inr ⟨a.1,(rs _ _).mpr ⟨a.2,(uP.inj h).symm⟩⟩
  ·rw[c]at h;exact .inl h
 ·rw[eF]
  rcases xc (z:=z) (ns:=ns) "put" z' k' xs st with⟨a,c⟩|⟨a,c⟩
  ·rw[c];rfl
  ·rw[c];exact h
 ·rw[eF]
  rcases xc (z:=z) (ns:=ns) "put" z k xs st with⟨a,c⟩|⟨a,c⟩
  ·rw[c];rfl
  ·exact absurd ⟨rfl,((rs _ _).mp h).1⟩ a
 ·rw[eC]
  exact⟨.inl,fun h=>h.resolve_right fun⟨k,y,_⟩=>ncall y.1⟩
theorem zcx(b:Bd):Adds z ns b st (noteB z ns st b):=by
 cases b with
 |give x=>exact JE (fun g h=>h) (fun k r=>Iff.rfl) (fun g j k h=>h)
 |iff x a b=>exact we (fun g h=>h) (fun k r h=>h) (fun g j k h=>h)
 |case x as =>
  show Adds z ns (.case x as) st (if yX x as=true then addR z ns "anew" st x else st)
  by_cases h:yX x as=true
  ·rw[if_pos h]
   exact JE (fun g h=>h) (fun k r=>⟨fun y=>y.2,fun y=>⟨h,y⟩⟩) (fun g j k h=>h)
  ·rw[if_neg h]
   exact we (fun g h=>h) (fun k r y=>h y.1) (fun g j k h=>h)
 |lt y d e =>
  cases d with
  |num i=>exact we (fun g h=>h) (fun k r h=>h) (fun g j k h=>h)
  |op w p q=>exact we (fun g h=>h) (fun k r h=>h) (fun g j k h=>h)
  |app w f xs =>
   show Adds z ns (.lt y (.app w f xs) e) st (if w="call"then addC z ns f st xs else if w="make"then xs.foldl (addR z ns "put") st else if w="func"then hand f (xs.foldl (addR z ns "put") st)else if w="ask"then addR z ns "asked" (xs.foldl (addR z ns "put") st) f else st)
   by_cases h1:w="call"
   ·rw[if_pos h1]
    have t:=JD (z:=z) (ns:=ns) (g:=f) xs.zipIdx st
    have n1:¬ (w="make"\/w="func"\/w="ask"):=by rw[h1];decide
    have n2:w≠"ask":=by rw[h1];decide
    have n3:w≠"func":=by rw[h1];decide
    refine⟨fun g=>?_,fun z' k' r' h=>?_,fun z' k' h=>?_,fun k r' h=>?_,fun g j c=>?_⟩
    ·rw[show(addC z ns f st xs).hd=st.hd from t.1]
     exact⟨.inl,fun h=>h.resolve_right fun h=>n3 h.1⟩
    ·rw[show(addC z ns f st xs).F=st.F from t.2.1]at h
     exact .inl h
    ·rw[show(addC z ns f st xs).F=st.F from t.2.1]
     exact h
    ·rcases h with h|h
     ·exact absurd h.1 n1
     ·exact absurd h.1 n2
    ·refine(zcw xs g j c).trans (or_congr Iff.rfl ?_)
     constructor
     ·rintro⟨rfl,x,k,a,b,c⟩
      exact⟨k,⟨h1,rfl,x,a,b⟩,c⟩
     ·rintro⟨k,⟨_,rfl,x,a,b⟩,c⟩
      exact⟨rfl,x,k,a,b,c⟩
   rw[if_neg h1]
   by_cases h2:w="make"
   ·rw[if_pos h2]
    have:=Z5 (z:=z) (ns:=ns) (st:=st) (.lt y (.app w f xs) e) rfl (.inl h2)
    rw[if_neg (by rw[h2];decide)]at this
    exact this
   rw[if_neg h2]
   by_cases h3:w="func"
   ·rw[if_pos h3]
    have:=Z5 (z:=z) (ns:=ns) (st:=st) (.lt y (.app w f xs) e) rfl (.inr h3)
    rw[if_pos h3]at this
    exact this
   rw[if_neg h3]
   by_cases h4:w="ask"
   ·rw[if_pos h4]
    have rs:∀k r,RsB ns k r (.lt y (.app w f xs) e)↔(((∃x∈xs,pix ns x=some k)/\r="put")\/(pix ns f=some k/\r="asked")):=fun k r=>by
     show((w="make"\/w="func"\/w="ask")/\_)\/(w="ask"/\_)↔_
     exact⟨fun h=>h.imp (fun h=>h.2) fun h=>h.2,fun h=>h.imp (fun h=>⟨.inr (.inr h4),h⟩) fun h=>⟨h4,h⟩⟩
    refine⟨fun g=>?_,fun z' k' r' h=>?_,fun z' k' h=>?_,fun k r' h=>?_,fun g j c=>?_⟩
    ·rw[Zk,wc]
     exact⟨.inl,fun h=>h.resolve_right fun h=>h3 h.1⟩
    ·rw[xI]at h
     split at h
     ·rename_i y'
      exact .inr ⟨y'.1,(rs _ _).mpr (.inr ⟨y'.2,(uP.inj h).symm⟩)⟩
     ·rcases xc (z:=z) (ns:=ns) "put" z' k' xs st with⟨a,c⟩|⟨a,c⟩
      ·rw[c]at h
       exact .inr ⟨a.1,(rs _ _).mpr (.inl ⟨a.2,(uP.inj h).symm⟩)⟩
      ·rw[c]at h;exact .inl h
    ·rw[xI]
     split
     ·rfl
     ·rcases xc (z:=z) (ns:=ns) "put" z' k' xs st with⟨a,c⟩|⟨a,c⟩
      ·rw[c];rfl
      ·rw[c];exact h
    ·rw[xI]
     split
     ·rfl
     ·rename_i ny
      rcases xc (z:=z) (ns:=ns) "put" z k xs st with⟨a,c⟩|⟨a,c⟩
      ·rw[c];rfl
      ·rcases(rs _ _).mp h with h|h
       ·exact absurd ⟨rfl,h.1⟩ a
       ·exact absurd ⟨rfl,h.1⟩ ny
    ·rw[YV,wY]
     exact⟨.inl,fun h=>h.resolve_right fun⟨k,y,_⟩=>h1 y.1⟩
   rw[if_neg h4]
   refine we (fun g h=>h3 h.1) (fun k r h=>?_) (fun g j k h=>h1 h.1)
   rcases h with h|h
   ·rcases h.1 with y|y|y
    ·exact h2 y
    ·exact h3 y
    ·exact h4 y
   ·exact h4 h.1
structure AddsL(z:Str)(ns:List Str)(l:List Bd)(st st':US):Prop where
 hd:∀g,st'.hd g=true↔st.hd g=true\/∃b∈l,FnB g b
 f1:∀z' k' r,st'.F z' k'=some r->st.F z' k'=some r\/(z'=z/\∃b∈l,RsB ns k' r b)
 f2:∀z' k',(st.F z' k').isSome=true->(st'.F z' k').isSome=true
 f3:∀k r,(∃b∈l,RsB ns k r b)->(st'.F z k).isSome=true
 c:∀g j c,c∈st'.C g j↔c∈st.C g j\/∃b∈l,∃k,ClB ns g j k b/\c=(z,k)
theorem JF:∀(l:List Bd)(st:US),AddsL z ns l st (l.foldl (noteB z ns) st)
 |[],st=>⟨fun g=>⟨.inl,fun h=>h.resolve_right fun⟨_,h,_⟩=>(by cases h)⟩,fun _ _ _ h=>.inl h,fun _ _ h=>h,fun k r ⟨_,h,_⟩=>(by cases h),fun g j c=>⟨.inl,fun h=>h.resolve_right fun⟨_,h,_⟩=>(by cases h)⟩⟩
 |b::l,st=>by
  have A:=zcx (z:=z) (ns:=ns) (st:=st) b
  have B:=JF l (noteB z ns st b)
  rw[Uh]
  have ex:∀{p:Bd->Prop},(∃x∈b::l,p x)↔(p b\/∃x∈l,p x):=fun{p}=>⟨fun⟨x,h,q⟩=>by
   rcases um.mp h with e|e
   ·subst e;exact .inl q
   ·exact .inr ⟨x,e,q⟩,fun h=>h.elim (fun h=>⟨b,uJ,h⟩) fun⟨x,h,q⟩=>⟨x,uB _ h,q⟩⟩
  refine⟨fun g=>?_,fun z' k' r h=>?_,fun z' k' h=>B.f2 _ _ (A.f2 _ _ h),fun k r h=>?_,fun g j c=>?_⟩
  ·rw[B.hd,A.hd,ex,or_assoc]
  ·rcases B.f1 _ _ _ h with h|⟨h1,h2⟩
   ·rcases A.f1 _ _ _ h with h|⟨h1,h2⟩
    ·exact .inl h
    ·exact .inr ⟨h1,ex.mpr (.inl h2)⟩
   ·exact .inr ⟨h1,ex.mpr (.inr h2)⟩
  ·rcases ex.mp h with h|h
   ·exact B.f2 _ _ (A.f3 _ _ h)
   ·exact B.f3 _ _ h
  ·rw[B.c,A.c,ex,or_assoc]
end
structure AddsD(dfs:List Df)(st st':US):Prop where
 hd:∀g,st'.hd g=true↔st.hd g=true\/∃d∈dfs,∃b∈d.b.all,FnB g b
 f1:∀z k r,st'.F z k=some r->st.F z k=some r\/∃d∈dfs,d.z=z/\∃b∈d.b.all,RsB d.ns k r b
 f2:∀z k,(st.F z k).isSome=true->(st'.F z k).isSome=true
 f3:∀d∈dfs,∀k r,(∃b∈d.b.all,RsB d.ns k r b)->(st'.F d.z k).isSome=true
 c:∀g j c,c∈st'.C g j↔c∈st.C g j\/∃d∈dfs,∃b∈d.b.all,∃k,ClB d.ns g j k b/\c=(d.z,k)
theorem JG:∀(l:List Df)(st:US),AddsD l st (l.foldl usesD st)
 |[],st=>⟨fun g=>⟨.inl,fun h=>h.resolve_right fun⟨_,h,_⟩=>(by cases h)⟩,fun _ _ _ h=>.inl h,fun _ _ h=>h,fun d h=>(by cases h),fun g j c=>⟨.inl,fun h=>h.resolve_right fun⟨_,h,_⟩=>(by cases h)⟩⟩
 |d::l,st=>by
  have A:=JF (z:=d.z) (ns:=d.ns) d.b.all st
  have B:=JG l (usesD st d)
  rw[Uh]
  have ex:∀{p:Df->Prop},(∃x∈d::l,p x)↔(p d\/∃x∈l,p x):=fun{p}=>⟨fun⟨x,h,q⟩=>by
   rcases um.mp h with e|e
   ·subst e;exact .inl q
   ·exact .inr ⟨x,e,q⟩,fun h=>h.elim (fun h=>⟨d,uJ,h⟩) fun⟨x,h,q⟩=>⟨x,uB _ h,q⟩⟩
  refine⟨fun g=>?_,fun z' k' r h=>?_,fun z' k' h=>B.f2 _ _ (A.f2 _ _ h),fun d' hd' k r h=>?_,fun g j c=>?_⟩
  ·rw[B.hd,show(usesD st d).hd g=true↔_ from A.hd g,ex,or_assoc]
  ·rcases B.f1 _ _ _ h with h|h
   ·rcases A.f1 _ _ _ h with h|⟨h1,h2⟩
    ·exact .inl h
    ·exact .inr (ex.mpr (.inl ⟨h1.symm,h2⟩))
   ·exact .inr (ex.mpr (.inr h))
  ·rcases um.mp hd' with e|e
   ·subst e;exact B.f2 _ _ (A.f3 _ _ h)
   ·exact B.f3 _ e _ _ h
  ·rw[B.c,show c∈(usesD st d).C g j↔_ from A.c g j c,ex,or_assoc]
theorem wf(dfs:List Df):AddsD dfs US0 (zS dfs):=JG dfs US0
def yE(n:Nat):Sp:=fun vs H Q _=>∃(p:Addr)(b:Bd),vs=[.ref p]/\IsB H b p/\b.dp<=n/\b.sz<=1000000/\∀H' r ps,Same H H'->H r=none->H' r=some (.lst (ps.map V.ref))->IsBs H' b.all ps->Q (.ref r) H'
theorem zcy:∀b:Bd,1<=b.dp
 |.give _=>by unfold Bd.dp;exact ud _
 |.lt _ _ b=>by unfold Bd.dp;lia
 |.iff _ a b=>by unfold Bd.dp;lia
 |.case _ as=>by unfold Bd.dp;lia
theorem Zl:∀{as:Arms}{i:Nat}{ns:List Str}{b:Bd},as.ways[i]?=some (ns,b)->b.dp<=as.dp
 |.nil,i,ns,b,h=>by unfold Arms.ways at h;simp at h
 |.cons t n c r,0,ns,b,h=>by
  unfold Arms.ways at h
  simp at h
  obtain⟨_,rfl⟩:=h
  rw[Arms.dp]
  lia
 |.cons t n c r,i+1,ns,b,h=>by
  unfold Arms.ways at h
  have:=Zl (as:=r) (i:=i) (by simpa using h)
  rw[Arms.dp]
  lia
section
variable{P:Program}{w:World}{K:ub}{mg:Str->Option Value}{base:Heap}{f:Addr}{fd:FuncData}
theorem scPieces:FnScope ["_law_body_here","_law_found","_law_tag","_law_names","_law_inner"] ["_law_body_here"] (zo wT):=.ok
theorem YW(F:Fun K "_law_pieces" "_law_pieces" wT f fd):FnOk P w K mg base CX0 (1+0) f fd ["_law_body_here"] (yE 0):=by
 refine F.by scPieces (fun vs H Q E h=>?_) (fun cdv A outer s H vs Q E hr h=>?_)
 ·obtain⟨p,b,rfl,_⟩:=h
  rfl
 ·obtain⟨p,b,rfl,_,hd,_⟩:=h
  have:=zcy b
  lia
theorem WB{n:Nat}(F:Fun K "_law_pieces" "_law_pieces" wT f fd)(GP:Ca P w K mg base CX0 (1+n) "_law_pieces" ["_law_body_here"] (yE n)):FnOk P w K mg base CX0 (1+(n+1)) f fd ["_law_body_here"] (yE (n+1)):=by
 rw[show 1+(n+1)=(1+n)+1 by lia]
 refine F.by scPieces (fun vs H Q E h=>?_) (fun cdv A outer s H vs Q E hr h=>?_)
 ·obtain⟨p,b,rfl,_⟩:=h
  rfl
 obtain⟨p,b,rfl,hb,hd,hz,q⟩:=h
 refine⟨_,
  (zg (sE 1 scPieces.nd (zB (jA1 (jv 0))))
  (zg (zy (tN zA (xT 0) zp)
   (zh (zu (zx yL (jv 1) (cA GP hr (jA1 (xT 0)))))) zv)
  (zg (zy (tN zA (xT 0) zp)
   (zh (zu (zx yL (zx yL (jv 1) (cA GP hr (jA1 (xT 0)))) (cA GP hr (jA1 (xT 0)))))) zv)
  (zg (zy (tN zA (xT 0) zp)
   (zh (zJ PassesOwn.never rfl (yK (xT 0)) (yi rfl (zt (gN 2 scPieces.nd) (zt (gN 3 scPieces.nd) (zt (gN 4 scPieces.nd) zL))))
    (zh (sE 1 scPieces.nd (zx yL (jv 1) (cA GP hr (jA1 (jv 4)))))))) zv)
  (zh (zu (jv 1))))))),?_⟩
 have sl:=zE
 refine⟨_,rfl,sN1,fun fo hfo=>?_⟩
 have s1:=zn (o:=.lst [.ref p]) hfo
 have hfo1:=upd_same (H:=H) (a:=fo) (o:=.lst [.ref p])
 have hb1:=hb.keep (.of s1)
 have bl:=Bd.all_len b
 show(tSeq _ _:TS) _ _ (upd H fo (.lst [.ref p]))
 generalize upd H fo (.lst [.ref p])=H1 at *
 cases id hb1 with
 |@give x _ hp =>
  refine⟨_,rfl,ixT hp aI0 ⟨rfl,_,rfl,ite2 aB (fun _=>?_)⟩⟩
  refine⟨_,rfl,ixT hp aI0 ⟨rfl,_,rfl,ite2 aB (fun _=>?_)⟩⟩
  refine⟨_,rfl,ixT hp aI0 ⟨rfl,_,rfl,ite2 aB (fun _=>?_)⟩⟩
  refine⟨_,rfl,q _ fo [p] s1 hfo hfo1 ?_⟩
  rw[Bd.all]
  exact .cons hb1 .nil
 |@lt x de b1 _ p1 p2 hp hde hb2 =>
  unfold Bd.dp at hd
  unfold Bd.sz at hz
  refine⟨_,rfl,ixT hp aI0 ⟨rfl,_,rfl,ite2 (fun _=>?_) (fun c=>absurd (by decide) c)⟩⟩
  refine⟨_,rfl,_,rfl,ixT hp aI3 ⟨p2,b1,rfl,hb2,by lia,by lia,fun H2 r ps s2 hr0 hr2 hps=>?_⟩⟩
  have al:=All2.len hps
  have al2:=Bd.all_len b1
  refine⟨fo,r,_,_,rfl,rfl,s2 _ _ hfo1,hr2,by rw[ua];show 1+_<=_;lia,fun l hl=>?_⟩
  have s3:=s1.trans s2
  refine q _ l (p::ps) (s3.new hl) (s3.free hl) (by rw[upd_same];rfl) ?_
  rw[Bd.all]
  exact .cons ((hb1.keep (.of s2)).keep (.of (zn hl _))) (IsBs.keep hps (.of (zn hl _)))
 |@iff x ba bb _ p1 p2 hp ha2 hb2 =>
  unfold Bd.dp at hd
  unfold Bd.sz at hz
  refine⟨_,rfl,ixT hp aI0 ⟨rfl,_,rfl,ite2 aB (fun _=>?_)⟩⟩
  refine⟨_,rfl,ixT hp aI0 ⟨rfl,_,rfl,ite2 (fun _=>?_) (fun c=>absurd (by decide) c)⟩⟩
  refine⟨_,rfl,_,rfl,ixT hp aI2 ⟨p1,ba,rfl,ha2,by lia,by lia,fun H2 r ps s2 hr0 hr2 hps=>?_⟩⟩
  have al:=All2.len hps
  have al2:=Bd.all_len ba
  have al3:=Bd.all_len bb
  refine⟨fo,r,_,_,rfl,rfl,s2 _ _ hfo1,hr2,by rw[ua];show 1+_<=_;lia,fun l hl=>?_⟩
  have s3:=s2.new (o:=.lst ([.ref p]++ps.map V.ref)) hl
  have hl3:=upd_same (H:=H2) (a:=l) (o:=.lst ([.ref p]++ps.map V.ref))
  have hps3:=IsBs.keep hps (.of (zn (o:=.lst ([.ref p]++ps.map V.ref)) hl))
  generalize upd H2 l (.lst ([.ref p]++ps.map V.ref))=H3 at *
  refine⟨_,rfl,ixT (s3 _ _ hp) aI3 ⟨p2,bb,rfl,hb2.keep (.of s3),by lia,by lia,fun H4 r4 ps4 s4 hr40 hr4 hps4=>?_⟩⟩
  have al4:=All2.len hps4
  refine⟨l,r4,_,_,rfl,rfl,s4 _ _ hl3,hr4,by rw[uf,ua,ua];show 1+_+_<=_;lia,fun l5 hl5=>?_⟩
  have s14:=s1.trans (s3.trans s4)
  refine q _ l5 (p::(ps++ps4)) (s14.new hl5) (s14.free hl5) (by rw[upd_same];simp) ?_
  rw[Bd.all]
  exact .cons ((hb1.keep (.of (s3.trans s4))).keep (.of (zn hl5 _))) (All2.app (IsBs.keep (IsBs.keep hps3 (.of s4)) (.of (zn hl5 _))) (IsBs.keep hps4 (.of (zn hl5 _))))
 |@case x as ps0 _ p1 hp hp1 hl0 hA =>
  unfold Bd.dp at hd
  unfold Bd.sz at hz
  refine⟨_,rfl,ixT hp aI0 ⟨rfl,_,rfl,ite2 aB (fun _=>?_)⟩⟩
  refine⟨_,rfl,ixT hp aI0 ⟨rfl,_,rfl,ite2 aB (fun _=>?_)⟩⟩
  refine⟨_,rfl,ixT hp aI0 ⟨rfl,_,rfl,ite2 (fun _=>?_) (fun c=>absurd (by decide) c)⟩⟩
  have al:=hA.len
  have pl:∀j,(pnd ((as.ways.take j).map (·.2))).length<=as.sz:=fun j=>by
   have e:as.all=pnd ((as.ways.take j).map (·.2))++pnd ((as.ways.drop j).map (·.2)):=by rw[Arms.all_ways,<- Zh,<- uq,List.take_append_drop]
   have h1:=Arms.all_len as
   rw[e,uf]at h1
   lia
  refine⟨_,rfl,ixT hp aI2 ⟨p1,rfl,⟨_,SqT.of hp1⟩,yO (xs:=ps0.map V.ref) (fun i σ H'=>∃(r:Addr)(ps:List Addr)(u v y:Option V),Same H1 H'/\H r=none/\H' r=some (.lst (ps.map V.ref))/\IsBs H' (.case x as::pnd ((as.ways.take i).map (·.2))) ps/\σ=[some (.ref p),some (.ref r),u,v,y]) ⟨fo,[p],none,none,none,fun _ _ h=>h,hfo,hfo1,.cons hb1 .nil,rfl⟩ (fun i σ H' _ h=>?_) ?_ ?_⟩⟩
  ·obtain⟨_,_,_,_,_,s,_⟩:=h
   exact SqT.of (s _ _ hp1)
  ·rintro i v σ H2 hv ⟨r,ps,u,v',y,s2,hr0,hr2,hps,rfl⟩
   rw[ue]at hv
   obtain⟨pa,hpa,rfl⟩:=uh.mp hv
   obtain⟨t,q1,r1,ns,b2,e1,e2,e3,e4⟩:=hA.get hpa
   have d2:=Zl e1
   have z2:=xZ e1
   have l2:=All2.len hps
   rw[ul]at l2
   have et:(as.ways.take (i+1)).map (·.2)=(as.ways.take i).map (·.2)++[b2]:=by rw[uv,e1,uq];rfl
   have ep:pnd ((as.ways.take (i+1)).map (·.2))=pnd ((as.ways.take i).map (·.2))++b2.all:=by rw[et,Zh];unfold pnd;simp
   have pl2:=pl (i+1)
   rw[ep,uf]at pl2
   refine⟨pa,_,rfl,SqT.of (s2 _ _ e2),rfl,_,_,rfl,_,_,rfl,_,_,rfl,rfl,?_⟩
   refine⟨_,rfl,_,rfl,r1,b2,rfl,e4.keep (.of s2),by lia,by lia,fun H3 r3 ps3 s3 hr30 hr3 hps3=>?_⟩
   have l3:=All2.len hps3
   refine⟨r,r3,_,_,rfl,rfl,s3 _ _ hr2,hr3,by rw[ua,ua];lia,fun l hl=>?_⟩
   rw[<- uq]
   have s4:=(s2.trans s3).new (o:=.lst ((ps++ps3).map V.ref)) hl
   have fl:H l=none:=s1.free ((s2.trans s3).free hl)
   refine⟨l,ps++ps3,_,_,_,s4,fl,upd_same,?_,rfl⟩
   rw[ep,<- List.cons_append]
   exact All2.app (IsBs.keep (IsBs.keep hps (.of s3)) (.of (zn hl _))) (IsBs.keep hps3 (.of (zn hl _)))
  rintro σ H2 ⟨r,ps,u,v',y,s2,hr0,hr2,hps,rfl⟩
  rw[ua,<- al,uj (ud _),<- Arms.all_ways]at hps
  refine⟨_,rfl,q _ r ps (s1.trans s2) hr0 hr2 ?_⟩
  rw[Bd.all]
  exact hps
def deB:Bd->List De
 |.lt _ d _=>[d]
 |_=>[]
def Bd.des(b:Bd):List De:=b.all.flatMap deB
def IsDs(H:Hp)(l:List De)(ps:List Addr):Prop:=All2 (IsDe H) l ps
theorem IsDs.keep{H H':Hp}{l:List De}{ps:List Addr}(h:IsDs H l ps)(t:Tups H H'):IsDs H' l ps:=All2.imp h fun _ _ e=>e.keep t
def wg(n:Nat):Sp:=fun vs H Q _=>∃(p:Addr)(b:Bd),vs=[.ref p]/\IsB H b p/\b.dp<=n/\b.sz<=1000000/\∀H' r ps,Same H H'->H r=none->H' r=some (.lst (ps.map V.ref))->IsDs H' b.des ps->Q (.ref r) H'
theorem zar:FnScope ["_law_body_here"] ["_law_body_here"] (zo YD):=.ok
theorem zas:(["_law_body_here","_law_piece"]:List Str).Nodup:=by decide +kernel
theorem Zm(l:List Bd):(l.flatMap deB).length<=l.length:=by
 induction l with
 |nil=>exact ud _
 |cons b l ih =>
  rw[Uo,uf,ul]
  have:(deB b).length<=1:=by unfold deB;split<;>simp
  lia
theorem JH{n:Nat}(F:Fun K "_law_deeds" "_law_deeds" YD f fd)(GP:Ca P w K mg base CX0 (1+n) "_law_pieces" ["_law_body_here"] (yE n)):FnOk P w K mg base CX0 ((1+n)+1) f fd ["_law_body_here"] (wg n):=by
 refine F.by zar (fun vs H Q E h=>?_) (fun cdv A outer s H vs Q E hr h=>?_)
 ·obtain⟨p,b,rfl,_⟩:=h
  rfl
 obtain⟨p,b,rfl,hb,hd,hz,q⟩:=h
 refine⟨_,(zh (zu (yk ["_law_piece"] rfl (zF (cA GP hr (jA1 (jv 0)))) (fun _ _ _ _ _=>(gN 1 zas)) (fun _ _ _ _ _=>(yG (tN zA (zT (yb K) (jv 1) zj (fun _ _=>rfl)) zp))) (fun _ _ _ _ _=>(zT (yb K) (jv 1) zj (fun _ _=>rfl)))))),?_⟩
 have sl:=zE
 have al:=Bd.all_len b
 refine⟨_,rfl,p,b,rfl,hb,hd,hz,fun H1 r ps s1 hr0 hr1 hps=>?_⟩
 have pl:=All2.len hps
 refine⟨r,rfl,⟨_,SqL.of hr1⟩,zX (xs:=ps.map V.ref) (fun j τ ys H'=>H1=H'/\(∃v,τ=[some (.ref p),v])/\∃qs:List Addr,ys=qs.map V.ref/\IsDs H1 ((b.all.take j).flatMap deB) qs) ⟨rfl,⟨none,rfl⟩,[],rfl,.nil⟩ (fun j τ ys H' _ h=>SqL.of (h.1 ▸ hr1)) ?_ ?_⟩
 ·rintro j v τ ys H2 hv ⟨rfl,⟨v',rfl⟩,qs,rfl,hq⟩
  rw[ue]at hv
  obtain⟨pw,hpw,rfl⟩:=uh.mp hv
  obtain⟨b1,e1,e2⟩:=All2.get hps hpw
  have hj:=(uc.mp e1).1
  have ql:=All2.len hq
  have fl:=Zm (b.all.take j)
  rw[uD]at fl
  have et:(b.all.take (j+1)).flatMap deB=(b.all.take j).flatMap deB++deB b1:=by rw[uv,e1,Ug];simp
  rw[et]
  cases e2 with
  |give hp=>exact⟨_,rfl,ixT hp aI0 ⟨rfl,_,rfl,ite2 aB (fun _=>⟨rfl,⟨_,rfl⟩,qs,rfl,by rw[show deB (.give _)=[]from rfl,uu];exact hq⟩)⟩⟩
  |iff hp _ _=>exact⟨_,rfl,ixT hp aI0 ⟨rfl,_,rfl,ite2 aB (fun _=>⟨rfl,⟨_,rfl⟩,qs,rfl,by rw[show deB (.iff _ _ _)=[]from rfl,uu];exact hq⟩)⟩⟩
  |case hp _ _ _=>exact⟨_,rfl,ixT hp aI0 ⟨rfl,_,rfl,ite2 aB (fun _=>⟨rfl,⟨_,rfl⟩,qs,rfl,by rw[show deB (.case _ _)=[]from rfl,uu];exact hq⟩)⟩⟩
  |@lt x de b2 _ p1 p2 hp hde hb2 =>
   refine⟨_,rfl,ixT hp aI0 ⟨rfl,_,rfl,ite2 (fun _=>?_) (fun c=>absurd (by decide) c)⟩⟩
   refine⟨_,rfl,ixT hp aI2 ⟨by rw[ua];lia,rfl,⟨_,rfl⟩,qs++[p1],by simp,?_⟩⟩
   exact All2.app hq (.cons hde .nil)
 rintro τ ys H2 ⟨rfl,_,qs,rfl,hq⟩ l hl
 rw[ua,<- pl,uj (ud _)]at hq
 exact q _ l qs (s1.new hl) (s1.free hl) upd_same (hq.keep (.of (zn hl _)))
end
def sayB(x:Str)(b:Bd):Bool:=decide (x∈b.used)
def Bd.says(x:Str)(b:Bd):Bool:=b.all.any (sayB x)
mutual
theorem Bd.fr_says{x:Str}:∀b:Bd,x∉b.binds->(b.fr x↔∃c∈b.all,x∈c.used)
 |.give y,_=>by
  unfold Bd.fr Bd.all
  simp[Bd.used]
 |.lt y d b,h=>by
  rw[Bd.binds]at h
  have ih:=Bd.fr_says b fun m=>h (uB _ m)
  have n:x≠y:=fun e=>h (by rw[e];exact uJ)
  rw[Bd.fr,Bd.all,ih]
  constructor
  ·rintro(⟨⟨c,h1,h2⟩,_⟩|h)
   ·exact⟨c,uB _ h1,h2⟩
   ·exact⟨_,uJ,h⟩
  ·rintro⟨c,h1,h2⟩
   rcases um.mp h1 with e|e
   ·subst e;exact .inr h2
   ·exact .inl ⟨⟨c,e,h2⟩,n⟩
 |.iff y a b,h=>by
  rw[Bd.binds]at h
  have ia:=Bd.fr_says a fun m=>h (uK _ m)
  have ib:=Bd.fr_says b fun m=>h (ur _ m)
  rw[Bd.fr,Bd.all,ia,ib]
  constructor
  ·rintro((⟨c,h1,h2⟩|⟨c,h1,h2⟩)|h)
   ·exact⟨c,uB _ (uK _ h1),h2⟩
   ·exact⟨c,uB _ (ur _ h1),h2⟩
   ·exact⟨_,uJ,ui.mpr h⟩
  ·rintro⟨c,h1,h2⟩
   rcases um.mp h1 with e|e
   ·subst e;exact .inr (ui.mp h2)
   ·rcases uz.mp e with e|e
    ·exact .inl (.inl ⟨c,e,h2⟩)
    ·exact .inl (.inr ⟨c,e,h2⟩)
 |.case y as,h=>by
  rw[Bd.binds]at h
  have ia:=Arms.fr_says as h
  rw[Bd.fr,Bd.all,ia]
  constructor
  ·rintro(⟨c,h1,h2⟩|h)
   ·exact⟨c,uB _ h1,h2⟩
   ·exact⟨_,uJ,ui.mpr h⟩
  ·rintro⟨c,h1,h2⟩
   rcases um.mp h1 with e|e
   ·subst e;exact .inr (ui.mp h2)
   ·exact .inl ⟨c,e,h2⟩
theorem Arms.fr_says{x:Str}:∀a:Arms,x∉a.binds->(a.fr x↔∃c∈a.all,x∈c.used)
 |.nil,_=>by
  unfold Arms.fr Arms.all
  simp
 |.cons t ns b r,h=>by
  rw[Arms.binds]at h
  have ib:=Bd.fr_says b fun m=>h (ur _ (uK _ m))
  have ir:=Arms.fr_says r fun m=>h (ur _ (ur _ m))
  have n:x∉ns:=fun m=>h (uK _ m)
  rw[Arms.fr,Arms.all,ib,ir]
  constructor
  ·rintro(⟨⟨c,h1,h2⟩,_⟩|⟨c,h1,h2⟩)
   ·exact⟨c,uK _ h1,h2⟩
   ·exact⟨c,ur _ h1,h2⟩
  ·rintro⟨c,h1,h2⟩
   rcases uz.mp h1 with e|e
   ·exact .inl ⟨⟨c,e,h2⟩,n⟩
   ·exact .inr ⟨c,e,h2⟩
end
theorem zat{x:Str}{b:Bd}(h:x∉b.binds):b.mk [x]=0↔b.says x=false:=by
 have bit:∀i,((b.mk [x]).testBit i=true)↔∃y,[x][i]?=some y/\b.fr y:=fun i=>Bd.mk_bit (by simp) i b
 have e:b.says x=false↔¬ b.fr x:=by
  rw[Bd.fr_says b h]
  unfold Bd.says
  rw[List.any_eq_false]
  constructor
  ·rintro a ⟨c,h1,h2⟩
   exact a c h1 (decide_eq_true h2)
  ·intro a c h1 h2
   exact a ⟨c,h1,of_decide_eq_true h2⟩
 rw[e]
 constructor
 ·intro z fr
  have:=(bit 0).mpr ⟨x,rfl,fr⟩
  rw[z]at this
  simp at this
 ·intro nf
  refine Nat.eq_of_testBit_eq fun i=>?_
  rw[Nat.zero_testBit]
  cases hb:(b.mk [x]).testBit i with
  |false=>rfl
  |true =>
   obtain⟨y,h1,h2⟩:=(bit i).mp hb
   cases i with
   |zero=>cases h1;exact absurd h2 nf
   |succ i=>simp at h1
def JI(n:Nat):Sp:=fun vs H Q _=>∃(p:Addr)(b:Bd)(x:Str),vs=[.ref p,.str x]/\IsB H b p/\b.dp<=n/\b.sz<=1000000/\∀H',Same H H'->Q (.bl (b.says x)) H'
theorem inV2(w0 a b:Str):inV (.str w0) [.str a,.str b]=true↔(w0=a\/w0=b):=by
 show((a == w0) || ((b == w0) || false))=true↔_
 rw[Bool.or_false,Uw,beq_iff_eq,beq_iff_eq]
 exact⟨fun h=>h.imp Eq.symm Eq.symm,fun h=>h.imp Eq.symm Eq.symm⟩
theorem inVs(x:Str):∀xs:List Str,inV (.str x) (xs.map V.str)=decide (x∈xs)
 |[]=>rfl
 |y::xs=>by
  show((y == x) || inV (.str x) (xs.map V.str))=_
  rw[inVs x xs,UF,Uw,beq_iff_eq,decide_eq_true_eq,decide_eq_true_eq,um]
  exact⟨fun h=>h.imp_left Eq.symm,fun h=>h.imp_left Eq.symm⟩
section
variable{P:Program}{w:World}{K:ub}{mg:Str->Option Value}{base:Heap}{f:Addr}{fd:FuncData}
theorem scSays:FnScope ["_law_body_here","_law_name_here","_law_piece"] lS5 (zo VH):=.ok
theorem wD(l:List Str):(l.map V.str).all yx=true:=by
 rw[List.all_map]
 exact Uq.mpr fun _ _=>rfl
theorem zau{n:Nat}(F:Fun K "_law_says" "_law_says" VH f fd)(GP:Ca P w K mg base CX0 (1+n) "_law_pieces" ["_law_body_here"] (yE n)):FnOk P w K mg base CX0 ((1+n)+1) f fd lS5 (JI n):=by
 refine F.by scSays (fun vs H Q E h=>?_) (fun cdv A outer s H vs Q E hr h=>?_)
 ·obtain⟨p,b,x,rfl,_⟩:=h
  rfl
 obtain⟨p,b,x,rfl,hb,hd,hz,q⟩:=h
 refine⟨_,
  (zg (zJ PassesOwn.never rfl (zF (cA GP hr (jA1 (jv 0)))) (gN 2 scSays.nd)
   (zg (zy (jW.pt (yd (tN Xe (xT 2) zp) (yh (tN zA (xT 2) (jv 1)))))
    (zh (zu yC)) zv)
   (zg (zy (jW.pt (yd (tN zA (xT 2) zp) (yd (tN zA (zT zY (xT 2) zj (fun _ _=>rfl)) zp) (yh (tN zA (zT zY (xT 2) zj (fun _ _=>rfl)) (jv 1))))))
    (zh (zu yC)) zv)
   (zg (zy (jW.pt (yd (tN zA (xT 2) zp) (yd (tN zA (zT zY (xT 2) zj (fun _ _=>rfl)) zp) (yh (yj yr (jv 1) (yJ wX (xT 2) (y8 zj) y0) (by with_unfolding_all rfl))))))
    (zh (zu yC)) zv)
   (zh (zy (jW.pt (yd (tN zA (xT 2) zp) (yd (yj jQ (zT zY (xT 2) zj (fun _ _=>rfl)) (zB (jA2 zp zp)) (by with_unfolding_all rfl)) (yh (yj yr (jv 1) (zT zY (xT 2) zj (fun _ _=>rfl)) (by with_unfolding_all rfl))))))
    (zh (zu yC)) zv))))))
  (zh (zu yC))),?_⟩
 have sl:=zE
 refine⟨_,rfl,p,b,rfl,hb,hd,hz,fun H1 r ps s1 hr0 hr1 hps=>?_⟩
 have pl:=All2.len hps
 refine⟨r,rfl,⟨_,SqL.of hr1⟩,yn (xs:=ps.map V.ref) (fun i σ H'=>Same H1 H'/\(b.all.take i).any (sayB x)=false/\∃v,σ=[some (.ref p),some (.str x),v]) ⟨fun _ _ h=>h,rfl,none,rfl⟩ (fun i σ H' _ h=>SqL.of (h.1 _ _ hr1)) ?_ ?_⟩
 ·rintro i v σ H2 hv ⟨s2,hany,v',rfl⟩
  rw[ue]at hv
  obtain⟨pw,hpw,rfl⟩:=uh.mp hv
  obtain⟨c,e1,e2⟩:=All2.get hps hpw
  have yes:sayB x c=true->b.says x=true:=fun h=>Ue.mpr ⟨c,uo e1,h⟩
  have no:sayB x c=false->(b.all.take (i+1)).any (sayB x)=false:=fun h=>by rw[uv,e1,tY,hany];simpa using h
  have e2:=e2.keep (.of s2)
  have qt:sayB x c=true->Q (.bl true) H2:=fun h=>by
   have:=q H2 (s1.trans s2)
   rw[yes h]at this
   exact this
  by_cases pln:∃w0 y vs,H2 pw=some (.tup (.str w0::.str y::vs))/\w0≠"let"/\c.used=[y]
  ·obtain⟨w0,y,vs,hp,n0,eu⟩:=pln
   have t1:(!decide (V.str w0=V.str "let"))=true:=by rw[decide_eq_false (fun e=>n0 (V.str.inj e))];rfl
   refine⟨_,rfl,ixT hp aI0 ⟨rfl,_,rfl,ite2 (fun _=>?_) (fun c=>absurd t1 c)⟩⟩
   refine⟨_,rfl,ixT hp aI1 ⟨_,rfl,rfl,_,rfl,ite2 (fun c=>?_) (fun c=>?_)⟩⟩
   ·have e:=V.str.inj (of_decide_eq_true c)
    exact qt (decide_eq_true (by rw[eu,e];exact ui.mpr rfl))
   ·have nx:sayB x _=false:=decide_eq_false (fun m=>by rw[eu]at m;exact c (decide_eq_true (by rw[ui.mp m])))
    refine⟨_,rfl,ixT hp aI0 ⟨rfl,_,rfl,ite2 (fun c=>absurd (V.str.inj (of_decide_eq_true c)) n0) (fun _=>?_)⟩⟩
    refine⟨_,rfl,ixT hp aI0 ⟨rfl,_,rfl,ite2 (fun c=>absurd (V.str.inj (of_decide_eq_true c)) n0) (fun _=>?_)⟩⟩
    refine⟨_,rfl,ixT hp aI0 ⟨rfl,_,rfl,ite2 (fun c=>absurd (V.str.inj (of_decide_eq_true c)) n0) (fun _=>?_)⟩⟩
    exact⟨s2,no nx,_,rfl⟩
  cases e2 with
  |give hp=>exact absurd ⟨_,_,_,hp,by decide,rfl⟩ pln
  |iff hp _ _=>exact absurd ⟨_,_,_,hp,by decide,rfl⟩ pln
  |case hp _ _ _=>exact absurd ⟨_,_,_,hp,by decide,rfl⟩ pln
  |@lt y de b2 _ p1 p2 hp hde hb2 =>
   refine⟨_,rfl,ixT hp aI0 ⟨rfl,_,rfl,ite2 aB (fun _=>?_)⟩⟩
   refine⟨_,rfl,ixT hp aI0 ⟨rfl,_,rfl,ite2 (fun _=>?_) (fun c=>absurd (by decide) c)⟩⟩
   cases hde with
   |@num k _ h1 =>
    have nx:sayB x (.lt y (.num k) b2)=false:=rfl
    refine⟨_,rfl,ixT hp aI2 (ixT h1 aI0 ⟨rfl,_,rfl,ite2 aB (fun _=>?_)⟩)⟩
    refine⟨_,rfl,ixT hp aI0 ⟨rfl,_,rfl,ite2 (fun _=>?_) (fun c=>absurd (by decide) c)⟩⟩
    refine⟨_,rfl,ixT hp aI2 (ixT h1 aI0 ⟨rfl,_,rfl,ite2 aB (fun _=>?_)⟩)⟩
    refine⟨_,rfl,ixT hp aI0 ⟨rfl,_,rfl,ite2 (fun _=>?_) (fun c=>absurd (by decide) c)⟩⟩
    refine⟨_,rfl,ixT hp aI2 (ixT h1 aI0 ⟨sN2,fun tk htk=>⟨tk,_,rfl,.inl (SqL.of upd_same),rfl,rfl,_,rfl,ite2 aB (fun _=>?_)⟩⟩)⟩
    exact⟨s2.new htk,no nx,_,rfl⟩
   |@op w0 a0 b0 _ h1 =>
    refine⟨_,rfl,ixT hp aI2 (ixT h1 aI0 ⟨rfl,_,rfl,ite2 aB (fun _=>?_)⟩)⟩
    refine⟨_,rfl,ixT hp aI0 ⟨rfl,_,rfl,ite2 (fun _=>?_) (fun c=>absurd (by decide) c)⟩⟩
    refine⟨_,rfl,ixT hp aI2 (ixT h1 aI0 ⟨rfl,_,rfl,ite2 (fun _=>?_) (fun c=>absurd (by decide) c)⟩)⟩
    refine⟨_,rfl,_,rfl,ixT hp aI2 ⟨_,rfl,p1,_,rfl,h1,fun p3 H3 s3 hp3=>?_⟩⟩
    rw[show cutV [V.str "op",V.str w0,V.str a0,V.str b0] (some 2) none=[a0,b0].map V.str from rfl]at hp3
    refine⟨p3,_,rfl,.inr (SqT.of hp3),rfl,wD _,_,rfl,?_⟩
    show if inV (V.str x) ([a0,b0].map V.str)=true then _ else _
    rw[inVs]
    have eS:sayB x (.lt y (.op w0 a0 b0) b2)=decide (x∈[a0,b0]):=rfl
    have s23:Same H1 H3:=fun b u e=>s3 _ _ (s2 _ _ e)
    by_cases cx:x∈[a0,b0]
    ·rw[decide_eq_true cx]
     refine iteT ?_
     have:=q H3 (s1.trans s23)
     rw[yes (eS.trans (decide_eq_true cx))]at this
     exact this
    rw[decide_eq_false cx]
    refine iteF ?_
    have hp':=s3 _ _ hp
    have h1':=s3 _ _ h1
    refine⟨_,rfl,ixT hp' aI0 ⟨rfl,_,rfl,ite2 (fun _=>?_) (fun c=>absurd (by decide) c)⟩⟩
    refine⟨_,rfl,ixT hp' aI2 (ixT h1' aI0 ⟨sN2,fun tk htk=>⟨tk,_,rfl,.inl (SqL.of upd_same),rfl,rfl,_,rfl,ite2 aB (fun _=>?_)⟩⟩)⟩
    exact⟨s23.new htk,no (eS.trans (decide_eq_false cx)),_,rfl⟩
   |@app w0 g xs _ pq hw h1 h2 =>
    have nop:w0≠"op":=hw.2.1
    have nnum:w0≠"num":=hw.1
    have eS:sayB x (.lt y (.app w0 g xs) b2)=decide (x∈De.uses (.app w0 g xs)):=rfl
    refine⟨_,rfl,ixT hp aI2 (ixT h1 aI0 ⟨rfl,_,rfl,?_⟩)⟩
    by_cases ask:w0="ask"/\g=x
    ·obtain⟨rfl,rfl⟩:=ask
     refine ite2 (fun _=>?_) (fun c=>absurd (by decide) c)
     refine⟨_,rfl,ixT hp aI2 (ixT h1 aI1 ⟨_,rfl,rfl,_,rfl,ite2 (fun _=>?_) (fun c=>absurd (decide_eq_true rfl) c)⟩)⟩
     exact qt (eS.trans (decide_eq_true (by rw[xR];exact uJ)))
    have eX:decide (x∈De.uses (.app w0 g xs))=decide (x∈xs):=by
     refine decide_eq_decide.mpr ?_
     by_cases ca:w0="ask"
     ·subst ca
      rw[xR,um]
      exact⟨fun h=>h.resolve_left fun e=>ask ⟨rfl,e.symm⟩,.inr⟩
     ·rw[xn ca]
    suffices rest:_ from ite2 (fun c=>⟨_,rfl,ixT hp aI2 (ixT h1 aI1 ⟨_,rfl,rfl,_,rfl,ite2 (fun c2=>absurd ⟨V.str.inj (of_decide_eq_true c),V.str.inj (of_decide_eq_true c2)⟩ ask) (fun _=>rest)⟩)⟩) (fun _=>rest)
    refine⟨_,rfl,ixT hp aI0 ⟨rfl,_,rfl,ite2 (fun _=>?_) (fun c=>absurd (by decide) c)⟩⟩
    refine⟨_,rfl,ixT hp aI2 (ixT h1 aI0 ⟨rfl,_,rfl,ite2 (fun c=>absurd (V.str.inj (of_decide_eq_true c)) nop) (fun _=>?_)⟩)⟩
    refine⟨_,rfl,ixT hp aI0 ⟨rfl,_,rfl,ite2 (fun _=>?_) (fun c=>absurd (by decide) c)⟩⟩
    refine⟨_,rfl,ixT hp aI2 (ixT h1 aI0 ⟨sN2,fun tk htk=>⟨tk,_,rfl,.inl (SqL.of upd_same),rfl,rfl,_,rfl,?_⟩⟩)⟩
    have nin:inV (V.str w0) [V.str "num",V.str "op"]=false:=by
     cases e:inV (V.str w0) [V.str "num",V.str "op"]with
     |false=>rfl
     |true=>rcases(inV2 _ _ _).mp e with y|y;exact absurd y nnum;exact absurd y nop
    show if(!inV (V.str w0) [V.str "num",V.str "op"])=true then _ else _
    rw[nin]
    refine iteT ?_
    have s3:=s2.new (o:=.lst [.str "num",.str "op"]) htk
    have x3:=zn (o:=.lst [.str "num",.str "op"]) htk
    generalize upd H2 tk (.lst [.str "num",.str "op"])=H3 at *
    refine⟨_,rfl,_,rfl,ixT (x3 _ _ hp) aI2 (ixT (x3 _ _ h1) aI2 ⟨pq,_,rfl,.inr (SqT.of (x3 _ _ h2)),rfl,wD _,_,rfl,?_⟩)⟩
    show if inV (V.str x) (xs.map V.str)=true then _ else _
    rw[inVs]
    by_cases cx:x∈xs
    ·rw[decide_eq_true cx]
     refine iteT ?_
     have:=q H3 (s1.trans s3)
     rw[yes (eS.trans (eX.trans (decide_eq_true cx)))]at this
     exact this
    rw[decide_eq_false cx]
    exact iteF ⟨s3,no (eS.trans (eX.trans (decide_eq_false cx))),_,rfl⟩
 ·rintro σ H2 ⟨s2,hany,v',rfl⟩
  rw[ua,<- pl,uj (ud _)]at hany
  have:=q H2 (s1.trans s2)
  rw[show b.says x=false from hany]at this
  exact this
end
end GN
namespace L2
open PySem PySem.Spec PyProof.Rows
def XN(K:ub)(neg:Bool):R2:=fun x y H Q=>∃p p' xs,x=.ref p/\y=.ref p'/\SqT K H p xs/\SqT K H p' []/\Q (.bl (if neg then !xs.isEmpty else xs.isEmpty)) H
section
variable{X:Cx}
theorem zav(hu:X.A.units < cLine):OpR X (compareOp .NotEq) (XN X.K true):=by
 intro pins s σ H x y v u Q I rx ry h
 obtain⟨p,p',xs,rfl,rfl,h1,h2,q⟩:=h
 cases rx
 cases ry
 obtain⟨its,r,pl,_⟩:=I.tuple h1
 obtain⟨its',r',pl',_⟩:=I.tuple h2
 cases r'
 have main:=SeqAt.RcNeAt.tuples (A:=X.A) (s:=s) (e:=fun _=>true) pl pl' hu (fun j h1 h2=>absurd h2 (tX _))
 have e:(!((uE (min its.toArray.size ([]:List Value).toArray.size)).all (fun _=>true) && its.toArray.size == ([]:List Value).toArray.size))=!xs.isEmpty:=by
  cases r with
  |nil=>rfl
  |cons a b=>rfl
 rw[e]at main
 exact main _ _ _ _ ⟨.bl _,H,I,rfl,q⟩
theorem zaw(hu:X.A.units < cLine):OpR X (compareOp .Eq) (XN X.K false):=by
 intro pins s σ H x y v u Q I rx ry h
 obtain⟨p,p',xs,rfl,rfl,h1,h2,q⟩:=h
 cases rx
 cases ry
 obtain⟨its,r,pl,_⟩:=I.tuple h1
 obtain⟨its',r',pl',_⟩:=I.tuple h2
 cases r'
 have main:=SeqAt.RcAt.tuples (A:=X.A) (s:=s) (e:=fun _=>true) pl pl' hu (fun j h1 h2=>absurd h2 (tX _))
 have e:((uE (min its.toArray.size ([]:List Value).toArray.size)).all (fun _=>true) && its.toArray.size == ([]:List Value).toArray.size)=xs.isEmpty:=by
  cases r with
  |nil=>rfl
  |cons a b=>rfl
 rw[e]at main
 exact main _ _ _ _ ⟨.bl _,H,I,rfl,q⟩
theorem zax{k:Nat}(hr:Room k X.A):jOp X (compareOp .NotEq) (XN X.K true):=⟨zav hr.units0⟩
theorem zay{k:Nat}(hr:Room k X.A):jOp X (compareOp .Eq) (XN X.K false):=⟨zaw hr.units0⟩
end
end L2
namespace GN
open PySem L2 K11
mutual
theorem Bd.all_dp:∀(b:Bd){c:Bd},c∈b.all->c.dp<=b.dp
 |.give x,c,h=>by unfold Bd.all at h;rw[ui.mp h];exact ud _
 |.lt x d b,c,h=>by
  unfold Bd.all at h
  rcases um.mp h with h|h
  ·rw[h];exact ud _
  ·have:=Bd.all_dp b h;show _<=Bd.dp (.lt x d b);rw[Bd.dp];lia
 |.iff x a b,c,h=>by
  unfold Bd.all at h
  rcases um.mp h with h|h
  ·rw[h];exact ud _
  ·show _<=Bd.dp (.iff x a b)
   rw[Bd.dp]
   rcases uz.mp h with h|h
   ·have:=Bd.all_dp a h;lia
   ·have:=Bd.all_dp b h;lia
 |.case x as,c,h=>by
  unfold Bd.all at h
  rcases um.mp h with h|h
  ·rw[h];exact ud _
  ·have:=Arms.all_dp as h;show _<=Bd.dp (.case x as);rw[Bd.dp];lia
theorem Arms.all_dp:∀(a:Arms){c:Bd},c∈a.all->c.dp<=a.dp
 |.nil,c,h=>by unfold Arms.all at h;cases h
 |.cons t ns b r,c,h=>by
  unfold Arms.all at h
  rw[Arms.dp]
  rcases uz.mp h with h|h
  ·have:=Bd.all_dp b h;lia
  ·have:=Arms.all_dp r h;lia
end
def mlen:De->List Nat
 |.app w _ xs=>if w="make"then[xs.length]else[]
 |_=>[]
def Bd.mlens(b:Bd):List Nat:=b.des.flatMap mlen
def larm(x:Str)(w:List Str×Bd):Bool:=!w.1.isEmpty && (decide (w.1.length∈w.2.mlens) && !w.2.says x)
def wE(x:Str):Bd->Bool
 |.case y as=>decide (y=x) && as.ways.any (larm x)
 |_=>false
def Bd.lanew(x:Str)(b:Bd):Bool:=b.all.any (wE x)
theorem WC(m:Nat)(b:Bd):b.all.any (mks m)=decide (m∈b.mlens):=by
 rw[UF,decide_eq_true_eq,Ue]
 unfold Bd.mlens Bd.des
 rw[Um]
 constructor
 ·rintro⟨c,h1,h2⟩
  cases c with
  |lt x d e =>
   cases d with
   |app w f xs =>
    have h2:(decide (w="make") && decide (xs.length=m))=true:=h2
    rw[u9,decide_eq_true_eq,decide_eq_true_eq]at h2
    refine⟨_,Um.mpr ⟨_,h1,ui.mpr rfl⟩,?_⟩
    show m∈(if w="make"then[xs.length]else[])
    rw[if_pos h2.1]
    exact ui.mpr h2.2.symm
   |num i=>cases h2
   |op w a b=>cases h2
  |give x=>cases h2
  |iff x a b=>cases h2
  |case x as=>cases h2
 ·rintro⟨d,h1,h2⟩
  obtain⟨c,h3,h4⟩:=Um.mp h1
  refine⟨c,h3,?_⟩
  cases c with
  |lt x d' e =>
   have h4:d=d':=ui.mp h4
   subst h4
   cases d with
   |app w f xs =>
    have h2:m∈(if w="make"then[xs.length]else[]):=h2
    split at h2
    ·rename_i e
     show(decide (w="make") && decide (xs.length=m))=true
     rw[decide_eq_true e,decide_eq_true (ui.mp h2).symm]
     rfl
    ·cases h2
   |num i=>cases h2
   |op w a b=>cases h2
  |give x=>cases h4
  |iff x a b=>cases h4
  |case x as=>cases h4
theorem jt{x:Str}{w:List Str×Bd}(h:x∉w.2.binds):armA x w=larm x w:=by
 unfold armA larm
 rw[WC]
 have e1:decide (w.1.length≠0)=!w.1.isEmpty:=by cases w.1<;>simp
 have e2:decide (w.2.mk [x]=0)=!w.2.says x:=by
  have:=zat h
  cases hs:w.2.says x with
  |true=>rw[hs]at this;rw[decide_eq_false (fun z=>by have:=this.mp z;cases this)];rfl
  |false=>rw[decide_eq_true (this.mpr hs)];rfl
 rw[e1,e2,Bool.and_comm (!w.2.says x)]
theorem xJ{x:Str}:∀{as:Arms}{w:List Str×Bd},w∈as.ways->x∉as.binds->x∉w.2.binds
 |.nil,w,h,_=>by unfold Arms.ways at h;cases h
 |.cons t ns b r,w,h,n=>by
  unfold Arms.ways at h
  rw[Arms.binds]at n
  rcases um.mp h with e|e
  ·rw[e];exact fun m=>n (ur _ (uK _ m))
  ·exact xJ e fun m=>n (ur _ (ur _ m))
theorem zaz{x:Str}{as:Arms}(h:x∉as.binds):yX x as=as.ways.any (larm x):=by
 unfold yX
 rw[UF,Ue,Ue]
 constructor
 ·rintro⟨w,h1,h2⟩
  exact⟨w,h1,by rw[<- jt (xJ h1 h)];exact h2⟩
 ·rintro⟨w,h1,h2⟩
  exact⟨w,h1,by rw[jt (xJ h1 h)];exact h2⟩
mutual
theorem Bd.all_binds{x:Str}:∀(b:Bd){c:Bd},c∈b.all->x∉b.binds->x∉c.binds
 |.give y,c,h,n=>by unfold Bd.all at h;rw[ui.mp h];exact n
 |.lt y d b,c,h,n=>by
  unfold Bd.all at h
  rcases um.mp h with h|h
  ·rw[h];exact n
  ·rw[Bd.binds]at n;exact Bd.all_binds b h fun m=>n (uB _ m)
 |.iff y a b,c,h,n=>by
  unfold Bd.all at h
  rcases um.mp h with h|h
  ·rw[h];exact n
  ·rw[Bd.binds]at n
   rcases uz.mp h with h|h
   ·exact Bd.all_binds a h fun m=>n (uK _ m)
   ·exact Bd.all_binds b h fun m=>n (ur _ m)
 |.case y as,c,h,n=>by
  unfold Bd.all at h
  rcases um.mp h with h|h
  ·rw[h];exact n
  ·rw[Bd.binds]at n;exact Arms.all_binds as h n
theorem Arms.all_binds{x:Str}:∀(a:Arms){c:Bd},c∈a.all->x∉a.binds->x∉c.binds
 |.nil,c,h,n=>by unfold Arms.all at h;cases h
 |.cons t ns b r,c,h,n=>by
  unfold Arms.all at h
  rw[Arms.binds]at n
  rcases uz.mp h with h|h
  ·exact Bd.all_binds b h fun m=>n (ur _ (uK _ m))
  ·exact Arms.all_binds r h fun m=>n (ur _ (ur _ m))
end
theorem inVn(m:Nat):∀ls:List Nat,inV (.int ((m:Nat):Int)) (ls.map fun k=>V.int ((k:Nat):Int))=decide (m∈ls)
 |[]=>rfl
 |y::ls=>by
  show((((y:Nat):Int) == ((m:Nat):Int)) || inV (.int ((m:Nat):Int)) (ls.map fun k=>V.int ((k:Nat):Int)))=_
  rw[inVn m ls,UF,Uw,beq_iff_eq,decide_eq_true_eq,decide_eq_true_eq,um]
  exact⟨fun h=>h.imp_left fun e=>by lia,fun h=>h.imp_left fun e=>by rw[e]⟩
theorem WD(l:List Nat):(l.map fun k=>V.int ((k:Nat):Int)).all yx=true:=by
 rw[List.all_map]
 exact Uq.mpr fun _ _=>rfl
def XO(n:Nat):Sp:=fun vs H Q _=>∃(p:Addr)(b:Bd)(x:Str),vs=[.ref p,.str x]/\IsB H b p/\b.dp<=n/\b.sz<=1000000/\∀H',Same H H'->Q (.bl (b.lanew x)) H'
section
variable{P:Program}{w:World}{K:ub}{mg:Str->Option Value}{base:Heap}{f:Addr}{fd:FuncData}
theorem scLAnew:FnScope ["_law_body_here","_law_name_here","_law_piece","_law_tag","_law_names","_law_inner","_law_many"] lS5 (zo YE):=.ok
theorem zaA:(["_law_body_here","_law_name_here","_law_piece","_law_tag","_law_names","_law_inner","_law_many","_law_deed_here"]:List Str).Nodup:=by decide +kernel
theorem ju:∀l:List De,(l.flatMap mlen).length<=l.length
 |[]=>ud _
 |d::l=>by
  rw[Uo,uf,ul]
  have:=ju l
  have:(mlen d).length<=1:=by
   cases d with
   |app w f xs=>show(if w="make"then[xs.length]else[]).length<=1;split<;>simp
   |num i=>exact uX _
   |op w a b=>exact uX _
  lia
theorem JJ{n:Nat}(F:Fun K "_law_anew" "_law_anew" YE f fd)(GP:Ca P w K mg base CX0 (1+n) "_law_pieces" ["_law_body_here"] (yE n))(GD:Ca P w K mg base CX0 ((1+n)+1) "_law_deeds" ["_law_body_here"] (wg n))(GS:Ca P w K mg base CX0 ((1+n)+1) "_law_says" lS5 (JI n))(m_len:mg "len"=none):FnOk P w K mg base CX0 ((1+n)+1+1) f fd lS5 (XO n):=by
 refine F.by scLAnew (fun vs H Q E h=>?_) (fun cdv A outer s H vs Q E hr h=>?_)
 ·obtain⟨p,b,x,rfl,_⟩:=h
  rfl
 obtain⟨p,b,x,rfl,hb,hd,hz,q⟩:=h
 have hrP:Room (1+n) _:=hr.mono (by lia)
 have hr1:Room 1 _:=hr.mono (by lia)
 refine⟨_,
  (zg (zJ PassesOwn.never rfl (zF (cA GP hrP (jA1 (jv 0)))) (gN 2 scLAnew.nd)
   (zh (zy (jW.pt (yd (tN zA (xT 2) zp) (yh (tN zA (xT 2) (jv 1)))))
    (zh (zJ PassesOwn.never rfl (yK (xT 2)) (yi rfl (zt (gN 3 scLAnew.nd) (zt (gN 4 scLAnew.nd) (zt (gN 5 scLAnew.nd) zL))))
     (zg (yp ["_law_deed_here"] (i:=6) scLAnew.nd rfl (Or.inl rfl) rfl (zF (cA GD hr (jA1 (jv 5)))) (fun _ _ _ _ _=>(gN 7 zaA)) (fun _ _ _ _ _=>(yG (tN zA (zT (yb K) (jv 7) zj (fun _ _=>rfl)) zp))) (fun _ _ _ _ _=>(xE (xk K) rfl m_len PySem.boot_len (jA1 (zT (yb K) (jv 7) zj (fun _ _=>rfl))))))
     (zh (zy (jW.pt (yd (tN (zax hr1) (jv 4) (zq zD)) (yd (yj yr (jL m_len (jv 4)) (jv 6) (by with_unfolding_all rfl)) (yh (zbQ (wp (cA GS hr (jA2 (jv 5) (jv 1)))))))))
      (zh (zu yC)) zv)))))
    zv)))
  (zh (zu yC))),?_⟩
 have sl:=zE
 refine⟨_,rfl,p,b,rfl,hb,hd,hz,fun H1 r ps s1 hr0 hr1' hps=>?_⟩
 have pl:=All2.len hps
 refine⟨r,rfl,⟨_,SqL.of hr1'⟩,yn (xs:=ps.map V.ref) (fun i σ H'=>Same H1 H'/\(b.all.take i).any (wE x)=false/\∃v1 v2 v3 v4 v5,σ=[some (.ref p),some (.str x),v1,v2,v3,v4,v5]) ⟨fun _ _ h=>h,rfl,none,none,none,none,none,rfl⟩ (fun i σ H' _ h=>SqL.of (h.1 _ _ hr1')) ?_ ?_⟩
 ·rintro i v σ H2 hv ⟨s2,hany,v1,v2,v3,v4,v5,rfl⟩
  rw[ue]at hv
  obtain⟨pw,hpw,rfl⟩:=uh.mp hv
  obtain⟨c,e1,e2⟩:=All2.get hps hpw
  have cm:=uo e1
  have cz:=Bd.all_sz b cm
  have cd:=Bd.all_dp b cm
  have yes:wE x c=true->b.lanew x=true:=fun h=>Ue.mpr ⟨c,cm,h⟩
  have no:wE x c=false->(b.all.take (i+1)).any (wE x)=false:=fun h=>by rw[uv,e1,tY,hany];simpa using h
  have e2:=e2.keep (.of s2)
  cases e2 with
  |give hp=>exact⟨_,rfl,ixT hp aI0 ⟨rfl,_,rfl,ite2 aB (fun _=>⟨s2,no rfl,_,_,_,_,_,rfl⟩)⟩⟩
  |iff hp _ _=>exact⟨_,rfl,ixT hp aI0 ⟨rfl,_,rfl,ite2 aB (fun _=>⟨s2,no rfl,_,_,_,_,_,rfl⟩)⟩⟩
  |lt hp _ _=>exact⟨_,rfl,ixT hp aI0 ⟨rfl,_,rfl,ite2 aB (fun _=>⟨s2,no rfl,_,_,_,_,_,rfl⟩)⟩⟩
  |@case y as ps0 _ p1 hp hp1 hl0 hA =>
   rw[show(Bd.case y as).sz=as.sz+1 by rw[Bd.sz]]at cz
   rw[show(Bd.case y as).dp=as.dp+1 by rw[Bd.dp]]at cd
   have eL:wE x (.case y as)=(decide (y=x) && as.ways.any (larm x)):=rfl
   refine⟨_,rfl,ixT hp aI0 ⟨rfl,_,rfl,ite2 (fun _=>?_) (fun c=>absurd (by decide) c)⟩⟩
   refine⟨_,rfl,ixT hp aI1 ⟨_,rfl,rfl,_,rfl,ite2 (fun c=>?_) (fun c=>?_)⟩⟩
   case refine_2 =>
    refine⟨s2,no ?_,_,_,_,_,_,rfl⟩
    rw[eL,decide_eq_false (fun e=>c (decide_eq_true (by rw[e]))),Uu]
   have eyx:y=x:=V.str.inj (of_decide_eq_true c)
   rw[decide_eq_true eyx,tJ]at eL
   have al:=hA.len
   refine⟨_,rfl,ixT hp aI2 ⟨p1,rfl,⟨_,SqT.of hp1⟩,yO (xs:=ps0.map V.ref) (fun j σ H'=>Same H2 H'/\(as.ways.take j).any (larm x)=false/\∃v2 v3 v4 v5,σ=[some (.ref p),some (.str x),some (.ref pw),v2,v3,v4,v5]) ⟨fun _ _ h=>h,rfl,_,_,_,_,rfl⟩ (fun j σ H' _ h=>SqT.of (h.1 _ _ hp1)) ?_ ?_⟩⟩
   ·rintro j v σ H3 hv ⟨s3,hany3,v2,v3,v4,v5,rfl⟩
    rw[ue]at hv
    obtain⟨pa,hpa,rfl⟩:=uh.mp hv
    obtain⟨t,q1,r1,ns,b2,g1,g2,g3,g4⟩:=hA.get hpa
    have d2:=Zl g1
    have z2:=xZ g1
    have wm:=uo g1
    have yes3:larm x (ns,b2)=true->as.ways.any (larm x)=true:=fun h=>Ue.mpr ⟨_,wm,h⟩
    have no3:larm x (ns,b2)=false->(as.ways.take (j+1)).any (larm x)=false:=fun h=>by rw[uv,g1,tY,hany3];simpa using h
    have eA:larm x (ns,b2)=(!ns.isEmpty && (decide (ns.length∈b2.mlens) && !b2.says x)):=rfl
    refine⟨pa,_,rfl,SqT.of (s3 _ _ g2),rfl,_,_,rfl,_,_,rfl,_,_,rfl,rfl,?_⟩
    refine cutR (fun D_ rt_ fin=>?_) (fun _ _ h=>h)
    refine⟨_,rfl,r1,b2,rfl,g4.keep (.of s3),by lia,by lia,fun H4 r4 qs s4 hr40 hr4 hqs=>?_⟩
    have ql:=All2.len hqs
    have dl:b2.des.length<=1000000:=by
     have h1:=Zm b2.all
     have h2:=Bd.all_len b2
     unfold Bd.des
     lia
    refine⟨r4,rfl,⟨_,SqL.of hr4⟩,zX (xs:=qs.map V.ref) (fun k τ ys H'=>H4=H'/\(∃v,τ=[some (.ref p),some (.str x),some (.ref pw),some (.str t),some (.ref q1),some (.ref r1),v5,v])/\ys=((b2.des.take k).flatMap mlen).map fun m=>V.int ((m:Nat):Int)) ⟨rfl,⟨none,rfl⟩,rfl⟩ (fun k τ ys H' _ h=>SqL.of (h.1 ▸ hr4)) ?_ ?_⟩
    ·rintro k v τ ys H5 hv ⟨rfl,⟨v',rfl⟩,rfl⟩
     rw[ue]at hv
     obtain⟨pd,hpd,rfl⟩:=uh.mp hv
     obtain⟨de,k1,k2⟩:=All2.get hqs hpd
     have hk:=(uc.mp k1).1
     have ml:=ju (b2.des.take k)
     rw[uD]at ml
     have et:(b2.des.take (k+1)).flatMap mlen=(b2.des.take k).flatMap mlen++mlen de:=by rw[uv,k1,Ug];simp
     rw[et]
     cases k2 with
     |num h1=>exact⟨_,rfl,ixT h1 aI0 ⟨rfl,_,rfl,ite2 aB (fun _=>⟨rfl,⟨_,rfl⟩,by rw[show mlen (.num _)=[]from rfl,uu]⟩)⟩⟩
     |op h1=>exact⟨_,rfl,ixT h1 aI0 ⟨rfl,_,rfl,ite2 aB (fun _=>⟨rfl,⟨_,rfl⟩,by rw[show mlen (.op _ _ _)=[]from rfl,uu]⟩)⟩⟩
     |@app w0 g xs _ pq hw h1 h2 =>
      refine⟨_,rfl,ixT h1 aI0 ⟨rfl,_,rfl,ite2 (fun c=>?_) (fun c=>?_)⟩⟩
      ·have ew:w0="make":=V.str.inj (of_decide_eq_true c)
       refine⟨_,rfl,ixT h1 aI2 ⟨pq,_,rfl,.inr (SqT.of h2),by rw[ua];lia,rfl,⟨_,rfl⟩,?_⟩⟩
       rw[show mlen (.app w0 g xs)=[xs.length]from if_pos ew,uq,ua]
       rfl
      ·have ew:¬ w0="make":=fun e=>c (decide_eq_true (by rw[e]))
       refine⟨rfl,⟨_,rfl⟩,?_⟩
       rw[show mlen (.app w0 g xs)=[]from if_neg ew,uu]
    rintro τ ys H5 ⟨rfl,_,rfl⟩ lm hlm
    rw[ua,<- ql,uj (ud _)]
    rw[show b2.des.flatMap mlen=b2.mlens from rfl]
    have s5:=(s3.trans s4).new (o:=.lst (b2.mlens.map fun m=>V.int ((m:Nat):Int))) hlm
    have hlm5:=upd_same (H:=H4) (a:=lm) (o:=.lst (b2.mlens.map fun m=>V.int ((m:Nat):Int)))
    generalize upd H4 lm (.lst (b2.mlens.map fun m=>V.int ((m:Nat):Int)))=H5 at *
    refine⟨_,rfl,sN0,fun te hte=>?_⟩
    have s6:=s5.new (o:=.tup []) hte
    have x6:=zn (o:=.tup []) hte
    have hte6:=upd_same (H:=H5) (a:=te) (o:=.tup [])
    generalize upd H5 te (.tup [])=H6 at *
    have g3':=s6 _ _ g3
    refine⟨q1,te,_,rfl,rfl,SqT.of g3',SqT.of hte6,_,rfl,?_⟩
    have eie:(ns.map V.str).isEmpty=ns.isEmpty:=by cases ns<;>rfl
    show if(!(ns.map V.str).isEmpty)=true then _ else _
    rw[eie]
    by_cases c1:ns.isEmpty=true
    ·rw[c1]
     refine iteF (fin _ _ ⟨s6,no3 ?_,_,_,_,_,rfl⟩)
     rw[eA,c1]
     rfl
    have c1:ns.isEmpty=false:=by simpa using c1
    rw[c1]at eA ⊢
    refine iteT ?_
    refine⟨_,rfl,q1,_,rfl,.inr (SqT.of g3'),_,rfl,lm,_,rfl,.inl (SqL.of (x6 _ _ hlm5)),rfl,WD _,_,rfl,?_⟩
    rw[ua]
    show if inV (V.int ((ns.length:Nat):Int)) (b2.mlens.map fun m=>V.int ((m:Nat):Int))=true then _ else _
    rw[inVn]
    by_cases c2:ns.length∈b2.mlens
    case neg =>
     rw[decide_eq_false c2]
     refine iteF (fin _ _ ⟨s6,no3 ?_,_,_,_,_,rfl⟩)
     rw[eA,decide_eq_false c2]
     rfl
    rw[decide_eq_true c2]at eA ⊢
    refine iteT ?_
    refine⟨_,rfl,_,rfl,r1,b2,x,rfl,g4.keep (.of s6),by lia,by lia,fun H7 s7=>⟨_,rfl,?_⟩⟩
    cases hs:b2.says x with
    |false =>
     refine iteT ?_
     rw[hs]at eA
     have:=q H7 (s1.trans (s2.trans (s6.trans s7)))
     rw[yes (eL.trans (yes3 eA))]at this
     show D_.rt _ _
     rw[rt_]
     exact this
    |true =>
     rw[hs]at eA
     exact iteF (fin _ _ ⟨s6.trans s7,no3 eA,_,_,_,_,rfl⟩)
   rintro σ H3 ⟨s3,hany3,v2,v3,v4,v5,rfl⟩
   rw[ua,<- al,uj (ud _)]at hany3
   exact⟨s2.trans s3,no (eL.trans hany3),_,_,_,_,_,rfl⟩
 ·rintro σ H2 ⟨s2,hany,v1,v2,v3,v4,v5,rfl⟩
  rw[ua,<- pl,uj (ud _)]at hany
  have:=q H2 (s1.trans s2)
  rw[show b.lanew x=false from hany]at this
  exact this
end
def KnAt(H:Hp)(d:Addr)(rows:List Rw):Prop:=∃kk,H d=some (.dT kk)/\kk.length<=rows.length/\∀z k,(valV kk (kz z k)).isSome=decide ((z,k)∈rows.map Rw.key)
theorem KnAt.put{H:Hp}{d:Addr}{rows:List Rw}{kk:List (List Key×V)}{r:Rw}{v:V}(h:KnAt H d rows)(e:H d=some (.dT kk)):KnAt (upd H d (.dT (putK kk (kz r.z r.k) v))) d (rows++[r]):=by
 obtain⟨kk',a,b,c⟩:=h
 rw[e]at a
 cases a
 have lk:=yc kk (kz r.z r.k) v
 refine⟨_,upd_same,by rw[uf];show _<=_+1;lia,fun z k=>?_⟩
 rw[yV,uq]
 by_cases y:z=r.z/\k=r.k
 ·rw[if_pos (kz_inj.mpr y)]
  obtain⟨rfl,rfl⟩:=y
  exact(decide_eq_true (ur _ (ui.mpr rfl))).symm
 ·rw[if_neg (fun w=>y (kz_inj.mp w)),c]
  refine decide_eq_decide.mpr ⟨fun h=>uK _ h,fun h=>?_⟩
  rcases uz.mp h with h|h
  ·exact h
  ·exact absurd (by have:=ui.mp h;exact⟨congrArg (·.1) this,congrArg (·.2) this⟩) y
structure PrOk(H:Hp)(p:Addr)(dfs:List Df):Prop where
 ex:∃pk pd ds,H p=some (.tup [.ref pk,.ref pd])/\H pd=some (.tup (ds.map V.ref))/\IsFs H dfs ds
theorem PrOk.keep{H H':Hp}{p:Addr}{dfs:List Df}(h:PrOk H p dfs)(t:Tups H H'):PrOk H' p dfs:=let ⟨pk,pd,ds,a,b,c⟩:=h.ex;⟨pk,pd,ds,t _ _ a,t _ _ b,c.keep t⟩
structure PrB(dfs:List Df):Prop where
 b:∀d∈dfs,d.b.sz<=300000/\d.ns.length<=1000
 c:90*cntB dfs+100 < 16000000
 l:(cand dfs).length<=100000
 n:dfs.length<=1000
def jw(T1 T2:Addr):Sp:=fun vs H Q _=>∃(p:Addr)(dfs:List Df),vs=[.ref p]/\PrOk H p dfs/\PrB dfs/\Tbs T1 T2 H/\∀H' r ps,KM (MT T1 T2) H H'->Tbs T1 T2 H'->H' r=some (.lst (ps.map V.ref))->RowsAt H' (z9 dfs) ps->Q (.ref r) H'
section
variable{P:Program}{w:World}{K:ub}{mg:Str->Option Value}{base:Heap}{f cU:Addr}{fd:FuncData}
theorem scReasons:FnScope ["program","uses","rows","known","row","at","held"] ["program"] (zo vA):=.ok
theorem YX{T1 T2:Addr}(F:Fun K "reasons" "reasons" vA f fd)(N:Un K cU)(GU:Ca P w K mg base CX0 11 "all_uses" ["program"] (Jx cU T1 T2))(GO:Ca P w K mg base CX0 1 "own_rows" ["program","uses"] (za7 cU T1 T2))(m_len:mg "len"=none):FnOk P w K mg base CX0 12 f fd ["program"] (jw T1 T2):=by
 refine F.by scReasons (fun vs H Q E h=>?_) (fun cdv A outer s H vs Q E hr h=>?_)
 ·obtain⟨p,dfs,rfl,_⟩:=h
  rfl
 obtain⟨p,dfs,rfl,hp,⟨hb1,hb2,hb3,-⟩,hT,q⟩:=h
 have hr11:Room 11 _:=hr.mono (by decide)
 have hr1:Room 1 _:=hr.mono (by decide)
 refine⟨_,
  (zg (sE 1 scReasons.nd (cA GU hr11 (jA1 (jv 0))))
  (zg (sE 2 scReasons.nd (cA GO hr1 (jA2 (jv 0) (jv 1))))
  (zg (sE 3 scReasons.nd vP)
  (zg (zJ PassesOwn.never rfl (zF (jv 2)) (gN 4 scReasons.nd)
   (zh (xv hr1 (jv 3) (zq (jA2 (xT 4) (xT 4))) yC)))
  (zg (sE 5 scReasons.nd zj)
  (zg (vi PassesOwn.never (tN vn (jv 5) (jL m_len (jv 2)))
   (zg (sE 6 scReasons.nd (zq (jA2 (zT zY (xX zH (jv 2) (jv 5)) zj (fun _ _=>rfl)) (zT zY (xX zH (jv 2) (jv 5)) zj (fun _ _=>rfl)))))
   (zg (zJ PassesOwn.never rfl (zF (vL hr1 (yA (jv 1)) (jv 6) (zB zD))) (gN 4 scReasons.nd)
    (zh (zy (Ww hr1 (zq (jA2 (xT 4) (xT 4))) (jv 3))
     (zg (xv hr1 (jv 3) (zq (jA2 (xT 4) (xT 4))) yC)
     (zh (zG (yy uA uN uO zK (jv 2) (jA1 (zq (jA3 (xT 4) (xT 4) (zq (jA3 zp (xT 6) (xT 6))))))))))
     zv)))
   (zh (sE 5 scReasons.nd (zx zW (jv 5) zj))))))
  (zh (zu (jv 2))))))))),?_⟩
 have sl:=zE
 obtain⟨pk,pd,ds,hp1,hpd,hF⟩:=hp.ex
 refine⟨_,rfl,p,pk,pd,ds,dfs,rfl,hp1,hpd,hF,hb1,hb2,hT,fun Hu o L k1 U1=>?_⟩
 have tp1:=hT.tups k1
 refine⟨_,rfl,_,rfl,p,pk,pd,ds,dfs,o,L,_,_,rfl,tp1 _ _ hp1,tp1 _ _ hpd,hF.keep tp1,hb3,U1,fun H2 r ps s2 hr0 hr2 hR2=>?_⟩
 obtain⟨st,est⟩:∃st,st=zS dfs:=⟨_,rfl⟩
 have hC:=Cin.of dfs
 rw[<- est]at U1 hR2 hC
 obtain⟨cs,ecs⟩:∃cs,cs=cand dfs:=⟨_,rfl⟩
 have ol:=wb st dfs
 rw[<- ecs]at hb3 hC ol
 have efin:z9 dfs=runR st (unk cs (ownR st dfs)+(ownR st dfs).length) 0 (ownR st dfs):=by rw[est,ecs];rfl
 rw[efin]at q
 clear efin
 generalize ownR st dfs=own at *
 intro kd hkd
 have fkd:Hu kd=none:=s2.free hkd
 have nrk:r≠kd:=zk hr2 hkd
 have s3:=s2.new (o:=.dT []) hkd
 have ol2:=All2.len hR2
 refine⟨_,rfl,r,rfl,⟨_,SqL.of (old hkd hr2)⟩,yn (xs:=ps.map V.ref) (fun i σ H'=>∃va,Same Hu H'/\Tups H2 H'/\H' r=some (.lst (ps.map V.ref))/\KnAt H' kd (own.take i)/\σ=[some (.ref p),some (.ref o.u),some (.ref r),some (.ref kd),va,none,none]) ⟨none,s3,.of (zn hkd _),old hkd hr2,⟨[],upd_same,ud _,fun z k=>rfl⟩,rfl⟩ (fun i σ H' _ h=>?_) ?_ ?_⟩
 ·obtain⟨_,_,_,h,_⟩:=h
  exact SqL.of h
 ·rintro i v σ H3 hv ⟨va,s3,t3,hr3,K3,rfl⟩
  rw[ue]at hv
  obtain⟨t,ht,rfl⟩:=uh.mp hv
  obtain⟨rw1,hrw,q1,ht1,-⟩:=All2.get hR2 ht
  have ht3:=t3 _ _ ht1
  have hi:=(uc.mp hrw).1
  refine⟨_,rfl,_,rfl,ixT ht3 aI0 ⟨_,rfl,ixT ht3 aI1 ⟨sN2,fun tk htk=>?_⟩⟩⟩
  have s4:=s3.new (o:=.tup [.str rw1.z,.int ((rw1.k:Nat):Int)]) htk
  have s34:=zn (o:=.tup [.str rw1.z,.int ((rw1.k:Nat):Int)]) htk
  have hk4:=upd_same (H:=H3) (a:=tk) (o:=.tup [.str rw1.z,.int ((rw1.k:Nat):Int)])
  generalize upd H3 tk (.tup [.str rw1.z,.int ((rw1.k:Nat):Int)])=H4 at *
  obtain⟨kk,kk1,kk2,kk3⟩:=K3
  have kk4:=s34 _ _ kk1
  rw[uD]at kk2
  refine⟨kd,_,rfl,DPut.t (k:=kz rw1.z rw1.k) kk4 hk4 (by lia),?_⟩
  refine⟨_,s4.put fkd,fun b xs e=>?_,by rw[zi nrk];exact s34 _ _ hr3,?_,rfl⟩
  ·have e4:=s34 _ _ (t3 _ _ e)
   rw[zi (fun y=>by rw[y,kk4]at e4;cases e4)]
   exact e4
  ·rw[uv,hrw]
   exact KnAt.put ⟨kk,kk4,by rw[uD];exact kk2,kk3⟩ kk4
 rintro σ H3 ⟨va,s3,t3,hr3,K3,rfl⟩
 rw[ua,<- ol2,uj (ud _)]at K3
 have hR3:=hR2.keep t3
 refine⟨fun m σ H'=>∃(rows:List Rw)(ps:List Addr)(a:Nat)(vr vh:Option V),unk cs rows+(rows.length-a)<=m/\a<=rows.length/\runR st m a rows=runR st (unk cs own+own.length) 0 own/\rows.length+unk cs rows<=200000/\Same Hu H'/\H' r=some (.lst (ps.map V.ref))/\RowsAt H' rows ps/\KnAt H' kd rows/\σ=[some (.ref p),some (.ref o.u),some (.ref r),some (.ref kd),vr,some (.int ((a:Nat):Int)),vh],
  ⟨_,own,ps,0,va,none,ud _,uX _,rfl,by have:=Jz cs own;lia,s3,hr3,hR3,K3,rfl⟩,?_⟩
 rintro m σ H4 ⟨rows,ps,a,vr,vh,hm,ha,hrun,hB,s4,hr4,hR4,K4,rfl⟩
 have rl:=All2.len hR4
 refine⟨_,rfl,_,rfl,r,_,rfl,.inl (SqL.of hr4),_,_,rfl,rfl,_,rfl,?_⟩
 rw[ua,<- rl]
 by_cases ca:a < rows.length
 ·rw[decide_eq_true (p:=((a:Nat):Int) < ((rows.length:Nat):Int)) (by lia)]
  refine iteT ⟨_,fun _ _ h=>h,?_⟩
  refine cutD (fun D_ fin=>?_) (fun _ _ h=>h)
  obtain⟨rw1,hrw⟩:∃x,rows[a]?=some x:=⟨_,uk ca⟩
  obtain⟨t,ht,q1,ht1,-⟩:=All2.getl hR4 hrw
  have hx:atI (ps.map V.ref) ((a:Nat):Int)=some (.ref t):=zP (by rw[ue,ht];rfl)
  refine⟨_,rfl,_,rfl,r,_,_,_,rfl,rfl,SqL.of hr4,hx,ixT ht1 aI0 ⟨_,rfl,_,rfl,r,_,_,_,rfl,rfl,SqL.of hr4,hx,ixT ht1 aI1 ⟨sN2,fun tk htk=>?_⟩⟩⟩
  have s5:=s4.new (o:=.tup [.str rw1.z,.int ((rw1.k:Nat):Int)]) htk
  have s45:=zn (o:=.tup [.str rw1.z,.int ((rw1.k:Nat):Int)]) htk
  have hk5:=upd_same (H:=H4) (a:=tk) (o:=.tup [.str rw1.z,.int ((rw1.k:Nat):Int)])
  generalize upd H4 tk (.tup [.str rw1.z,.int ((rw1.k:Nat):Int)])=H5 at *
  have U5:=U1.same s5
  obtain⟨kc,f1,f2,f3,f4⟩:=U5.c
  refine⟨_,rfl,o.u,cU,o.dx,_,.ref o.dc,rfl,U5.ob,N.cl,N.b3,rfl,o.dc,rfl,.inr ⟨kc,.of f1⟩,_,rfl,sN0,fun le hle=>⟨_,DGet.t (k:=kz rw1.z rw1.k) (old hle f1) (old hle hk5),?_⟩⟩
  have s6:=s5.new (o:=.lst []) hle
  have s56:=zn (o:=.lst []) hle
  have hle6:=upd_same (H:=H5) (a:=le) (o:=.lst [])
  generalize upd H5 le (.lst [])=H6 at *
  obtain⟨l,ts,el,hl6,hts,nl⟩:∃l ts,(valV kc (kz rw1.z rw1.k)).getD (.ref le)=.ref l/\H6 l=some (.lst (ts.map V.ref))/\PairsAt H6 (st.C rw1.z rw1.k) ts/\l≠r:=by
   rcases f4 rw1.z rw1.k with⟨y1,y2⟩|⟨l,ts,y1,y2,y3,y4⟩
   ·refine⟨le,[],by rw[y1];rfl,hle6,by rw[y2];exact .nil,fun y=>?_⟩
    have:=s45 _ _ hr4
    rw[<- y,hle]at this
    cases this
   ·refine⟨l,ts,by rw[y1];rfl,s56 _ _ y3,y4.keep (.of s56),fun y=>?_⟩
    obtain⟨_,e⟩:=U1.ll l y2
    rw[y,hr0]at e
    cases e
  rw[el]
  have hR6:=hR4.keep (.of (s45.trans s56))
  have hr6:=s56 _ _ (s45 _ _ hr4)
  have K6:KnAt H6 kd rows:=by
   obtain⟨kk,y1,y2⟩:=K4
   exact⟨kk,s56 _ _ (s45 _ _ y1),y2⟩
  have hk6:=s56 _ _ hk5
  have tl:=All2.len hts
  have hCr:=hC rw1.z rw1.k
  generalize ecc:st.C rw1.z rw1.k=cc at *
  refine⟨l,rfl,⟨_,SqL.of hl6⟩,yn (xs:=ts.map V.ref) (fun i σ H'=>∃(ps:List Addr)(va:Option V),Same Hu H'/\Tups H6 H'/\H' l=some (.lst (ts.map V.ref))/\H' r=some (.lst (ps.map V.ref))/\RowsAt H' ((cc.take i).foldl (zO rw1.z rw1.k) rows) ps/\KnAt H' kd ((cc.take i).foldl (zO rw1.z rw1.k) rows)/\σ=[some (.ref p),some (.ref o.u),some (.ref r),some (.ref kd),va,some (.int ((a:Nat):Int)),some (.ref tk)]) ⟨ps,_,s6,fun _ _ h=>h,hl6,hr6,hR6,K6,rfl⟩ (fun i σ H' _ h=>?_) ?_ ?_⟩
  ·obtain⟨_,_,_,_,h,_⟩:=h
   exact SqL.of h
  ·rintro i v σ H7 hv ⟨ps,va,s7,t7,hl7,hr7,hR7,K7,rfl⟩
   rw[ue]at hv
   obtain⟨t2,ht2,rfl⟩:=uh.mp hv
   obtain⟨c,hc,ht6⟩:=All2.get hts ht2
   have ht7:=t7 _ _ ht6
   have hk7:=t7 _ _ hk6
   have ef:(cc.take (i+1)).foldl (zO rw1.z rw1.k) rows=zO rw1.z rw1.k ((cc.take i).foldl (zO rw1.z rw1.k) rows) c:=by rw[uv,hc,UQ];rfl
   have bnd:=(yY (cs:=cs) (g:=rw1.z) (j:=rw1.k) (l:=cc.take i) (rows:=rows) fun c' h'=>hCr c' (List.mem_of_mem_take h')).1
   rw[ef]
   generalize (cc.take i).foldl (zO rw1.z rw1.k) rows=rows' at *
   have rl':=All2.len hR7
   unfold xg
   dsimp only[List.set]
   refine cutD (fun D2_ fin2=>?_) (fun _ _ h=>h)
   refine⟨_,rfl,ixT ht7 aI0 ⟨_,rfl,ixT ht7 aI1 ⟨sN2,fun tt htt=>?_⟩⟩⟩
   have s8:=s7.new (o:=.tup [.str c.1,.int ((c.2:Nat):Int)]) htt
   have s78:=zn (o:=.tup [.str c.1,.int ((c.2:Nat):Int)]) htt
   have htt8:=upd_same (H:=H7) (a:=tt) (o:=.tup [.str c.1,.int ((c.2:Nat):Int)])
   generalize upd H7 tt (.tup [.str c.1,.int ((c.2:Nat):Int)])=H8 at *
   obtain⟨kk,kk1,kk2,kk3⟩:=K7
   have kk8:=s78 _ _ kk1
   refine⟨_,rfl,kd,_,rfl,DGet.t (k:=kz c.1 c.2) kk8 htt8,_,rfl,?_⟩
   rw[kk3]
   by_cases cin:(c.1,c.2)∈rows'.map Rw.key
   ·rw[decide_eq_true cin]
    refine iteF (fin2 _ _ ⟨ps,_,s8,fun b xs e=>s78 _ _ (t7 _ _ e),s78 _ _ hl7,s78 _ _ hr7,?_,?_,rfl⟩)
    ·unfold zO
     rw[if_pos cin]
     exact hR7.keep (.of s78)
    ·unfold zO
     rw[if_pos cin]
     exact⟨kk,kk8,kk2,kk3⟩
   rw[decide_eq_false cin]
   refine iteT ?_
   have ht8:=s78 _ _ ht7
   refine⟨_,rfl,_,rfl,ixT ht8 aI0 ⟨_,rfl,ixT ht8 aI1 ⟨sN2,fun tu htu=>?_⟩⟩⟩
   have s9:=s8.new (o:=.tup [.str c.1,.int ((c.2:Nat):Int)]) htu
   have s79:=s78.new (o:=.tup [.str c.1,.int ((c.2:Nat):Int)]) htu
   have htu9:=upd_same (H:=H8) (a:=tu) (o:=.tup [.str c.1,.int ((c.2:Nat):Int)])
   generalize upd H8 tu (.tup [.str c.1,.int ((c.2:Nat):Int)])=H9 at *
   have kk9:=s79 _ _ kk1
   refine⟨kd,_,rfl,DPut.t (k:=kz c.1 c.2) kk9 htu9 (by lia),?_⟩
   have s10:=s9.put (o:=.dT (putK kk (kz c.1 c.2) (.bl true))) fkd
   have up10:∀b u,b≠kd->H7 b=some u->upd H9 kd (.dT (putK kk (kz c.1 c.2) (.bl true))) b=some u:=fun b u n e=>by rw[zi n];exact s79 _ _ e
   have t10:Tups H7 (upd H9 kd (.dT (putK kk (kz c.1 c.2) (.bl true)))):=fun b xs e=>up10 b _ (fun y=>by rw[y,kk1]at e;cases e) e
   have K10:KnAt (upd H9 kd (.dT (putK kk (kz c.1 c.2) (.bl true)))) kd (rows'++[⟨c.1,c.2,.called rw1.z rw1.k⟩]):=KnAt.put (r:=⟨c.1,c.2,.called rw1.z rw1.k⟩) ⟨kk,kk9,kk2,kk3⟩ kk9
   have hr10:=up10 _ _ nrk hr7
   have hl10:=up10 _ _ (fun y=>by rw[y,kk1]at hl7;cases hl7) hl7
   generalize upd H9 kd (.dT (putK kk (kz c.1 c.2) (.bl true)))=H10 at *
   have ht10:=t10 _ _ ht7
   have hk10:=t10 _ _ hk7
   refine⟨_,rfl,.inl ⟨rfl,_,SqL.of hr10⟩,_,rfl,ixT ht10 aI0 ⟨_,rfl,ixT ht10 aI1 ⟨_,rfl,ixT hk10 aI0 ⟨_,rfl,ixT hk10 aI1 ⟨sN3,fun q2 hq2=>⟨sN3,fun t3 ht3=>?_⟩⟩⟩⟩⟩⟩
   have s11:=s10.new (o:=.tup [.str "called",.str rw1.z,.int ((rw1.k:Nat):Int)]) hq2
   have x11:=zn (o:=.tup [.str "called",.str rw1.z,.int ((rw1.k:Nat):Int)]) hq2
   have hq11:=upd_same (H:=H10) (a:=q2) (o:=.tup [.str "called",.str rw1.z,.int ((rw1.k:Nat):Int)])
   generalize upd H10 q2 (.tup [.str "called",.str rw1.z,.int ((rw1.k:Nat):Int)])=H11 at *
   have s12:=s11.new (o:=.tup [.str c.1,.int ((c.2:Nat):Int),.ref q2]) ht3
   have x12:=x11.new (o:=.tup [.str c.1,.int ((c.2:Nat):Int),.ref q2]) ht3
   have hq12:=old (o:=.tup [.str c.1,.int ((c.2:Nat):Int),.ref q2]) ht3 hq11
   have ht12:=upd_same (H:=H11) (a:=t3) (o:=.tup [.str c.1,.int ((c.2:Nat):Int),.ref q2])
   generalize upd H11 t3 (.tup [.str c.1,.int ((c.2:Nat):Int),.ref q2])=H12 at *
   have hr12:=x12 _ _ hr10
   refine⟨r,_,_,rfl,rfl,hr12,by rw[ua];lia,?_⟩
   have tp:Tups H12 (upd H12 r (.lst (ps.map V.ref++[.ref t3]))):=fun b xs e=>by rw[zi (fun y=>by rw[y,hr12]at e;cases e)];exact e
   have t712:Tups H7 H12:=fun b xs e=>x12 _ _ (t10 _ _ e)
   refine fin2 _ _ ⟨ps++[t3],_,s12.put hr0,fun b xs e=>tp _ _ (t712 _ _ (t7 _ _ e)),by rw[zi nl];exact x12 _ _ hl10,by rw[upd_same,uq];rfl,?_,?_,rfl⟩
   ·unfold zO
    rw[if_neg cin]
    exact All2.app ((hR7.keep t712).keep tp) (.cons ⟨q2,tp _ _ ht12,tp _ _ hq12⟩ .nil)
   ·unfold zO
    rw[if_neg cin]
    obtain⟨kk',y1,y2⟩:=K10
    exact⟨kk',by rw[zi nrk.symm];exact x12 _ _ y1,y2⟩
  rintro σ H7 ⟨ps,va,s7,t7,hl7,hr7,hR7,K7,rfl⟩
  rw[ua,<- tl,uj (ud _)]at hR7 K7
  have bnd:=yY (cs:=cs) (g:=rw1.z) (j:=rw1.k) (l:=cc) (rows:=rows) hCr
  obtain⟨m',rfl⟩:∃m',m=m'+1:=⟨m-1,by lia⟩
  refine⟨_,rfl,_,_,rfl,rfl,fin _ _ ⟨m',by lia,_,ps,a+1,_,_,?_,?_,?_,?_,s7,hr7,hR7,K7,rfl⟩⟩
  ·lia
  ·lia
  ·rw[<- hrun]
   conv=>rhs;unfold runR
   rw[hrw]
   show _=runR st m' (a+1) (xA st rows rw1)
   unfold xA
   rw[ecc]
  ·lia
 ·rw[decide_eq_false (p:=((a:Nat):Int) < ((rows.length:Nat):Int)) (by lia)]
  have e:runR st m a rows=rows:=by
   have:rows[a]?=none:=List.getElem?_eq_none (by lia)
   cases m with
   |zero=>rfl
   |succ m=>unfold runR;rw[this]
  rw[e]at hrun
  rw[<- hrun]at q
  exact iteF ⟨_,rfl,q _ r ps (k1.trans (.of s4)) (U1.tb.same s4) hr4 hR4⟩
end
end GN
namespace L2
open PySem PySem.Spec PyProof.Rows
section
variable{X:Cx}
end
section
variable{X:Cx}{pins:List (Addr×Obj)}{σ:St}{H:Hp}{s:Shared}
end
def eqVs(a b:List V):Bool:=(uE (min a.length b.length)).all (fun j=>eqV (a.getD j .non) (b.getD j .non)) && a.length == b.length
theorem jx{a:List V}(h:a.all yx=true):eqVs a a=true:=by
 unfold eqVs
 rw[u9]
 refine⟨Uq.mpr fun j hj=>?_,by simp⟩
 have hj:=UJ.mp hj
 rw[Nat.min_self]at hj
 rw[uW,uk hj]
 exact Vp (Uq.mp h _ (tR hj))
def tupO(C:List V->Bool):Option HO->Bool
 |some (.tup c)=>C c
 |_=>false
def tupF(H:Hp)(C:List V->Bool):Value->Bool
 |.ref t=>tupO C (H t)
 |_=>false
theorem vR{H:Hp}{C:List V->Bool}{c:List V}{t:Addr}(h:H t=some (.tup c)):tupF H C (.ref t)=C c:=by
 show tupO C (H t)=_
 rw[h]
 rfl
def rInP:R2:=fun x y H Q=>∃(p l:Addr)(a:Str)(n:Int)(k:List (Str×Int))(ts:List Addr),x=.ref p/\y=.ref l/\H p=some (.tup [.str a,.int n])/\H l=some (.lst (ts.map V.ref))/\(∀(i:Nat)(t:Addr),ts[i]?=some t->∃c,k[i]?=some c/\H t=some (.tup [.str c.1,.int c.2]))/\k.length=ts.length/\Q (.bl (decide ((a,n)∈k))) H
def za8:R2:=fun x y H Q=>∃(p l:Addr)(a:Str)(n:Int)(k:List (Str×Int))(ts:List Addr),x=.ref p/\y=.ref l/\H p=some (.tup [.str a,.int n])/\H l=some (.lst (ts.map V.ref))/\(∀(i:Nat)(t:Addr),ts[i]?=some t->∃c,k[i]?=some c/\H t=some (.tup [.str c.1,.int c.2]))/\k.length=ts.length/\Q (.bl (!decide ((a,n)∈k))) H
def rIn2:R2:=fun x y H Q=>∃(p l:Addr)(a c:Str)(k:List (Str×Str×List V))(ts:List Addr),x=.ref p/\y=.ref l/\H p=some (.tup [.str a,.str c])/\H l=some (.lst (ts.map V.ref))/\(∀(i:Nat)(t:Addr),ts[i]?=some t->∃e,k[i]?=some e/\H t=some (.tup (.str e.1::.str e.2.1::e.2.2)))/\k.length=ts.length/\Q (.bl (k.any fun e=>decide (e.1=a) && (decide (e.2.1=c) && e.2.2.isEmpty))) H
section
variable{X:Cx}{pins:List (Addr×Obj)}{σ:L2.St}{H:Hp}{s:Shared}
theorem jy{xs:List V}{us:List Value}(r:Vals xs us){j:Nat}(h:j < us.length):RelV (xs.getD j .non) us[j]:=by
 have hl:=r.length
 obtain⟨u,e1,rx⟩:=r.get (i:=j) (x:=xs[j]'(by lia)) (uk _)
 rw[uW,uk (by lia),(uc.mp e1).2]
 exact rx
theorem jz{xs:List V}(h:xs.all yx=true){j:Nat}(hj:j < xs.length):yx (xs.getD j .non)=true:=by
 rw[uW,uk hj]
 exact Uq.mp h _ (tR hj)
theorem zaB{A:Around}(hu:A.units < cLine)(I:Inv X pins σ H s){p q:Addr}{a b:List V}(hp:H p=some (.tup a))(hq:H q=some (.tup b))(f:∀j,j < a.length->j < b.length->yx (a.getD j .non)=true/\yx (b.getD j .non)=true)(fe:p=q->eqVs a b=true):SeqAt.EqAt A s (.ref p) (.ref q) (eqVs a b):=by
 by_cases e:p=q
 ·rw[fe e,e]
  exact .same _
 ·refine .of_refs e ?_
  obtain⟨i1,v1,m1,_⟩:=I.tuple (SqT.of hp)
  obtain⟨i2,v2,m2,_⟩:=I.tuple (SqT.of hq)
  have l1:=v1.length
  have l2:=v2.length
  have main:=SeqAt.RcAt.tuples (A:=A) (s:=s) (e:=fun j=>eqV (a.getD j .non) (b.getD j .non)) m1 m2 hu (fun j h1 h2=>by
   simp at h1 h2
   obtain⟨f1,f2⟩:=f j (by lia) (by lia)
   exact W3 (by simpa using jy v1 h1) (by simpa using jy v2 h2) f1 f2)
  rw[ut,ut,<- l1,<- l2]at main
  exact main
theorem XQ{p l:Addr}{xs:List V}(I:Inv X pins σ H s)(hu:X.A.units+64 < cLine)(hp:H p=some (.tup xs)){ts:List Addr}(hl:H l=some (.lst (ts.map V.ref))){k:List (List V)}(hk:∀(i:Nat)(t:Addr),ts[i]?=some t->∃c,k[i]?=some c/\H t=some (.tup c)/\(∀j,j < c.length->j < xs.length->yx (c.getD j .non)=true/\yx (xs.getD j .non)=true)/\(c=xs->eqVs c xs=true))(hlen:k.length=ts.length):∃its:List Value,s.heap.IsList l its.toArray/\(∀w∈its.toArray,SeqAt.EqAt X.A.in1 s w (.ref p) (tupF H (fun c=>eqVs c xs) w))/\its.toArray.any (tupF H fun c=>eqVs c xs)=k.any fun c=>eqVs c xs:=by
 obtain⟨its,r,pl,hz⟩:=I.list (SqL.of hl)
 have hlr:=r.length
 rw[ua]at hlr
 have at_:∀(i:Nat)(h:i < its.length),∃(t:Addr)(c:List V),its[i]=.ref t/\ts[i]?=some t/\k[i]?=some c/\H t=some (.tup c):=fun i hi=>by
  have hi':i < ts.length:=by lia
  obtain⟨u,o1,p1⟩:=r.get (i:=i) (x:=.ref ts[i]) (by rw[ue,uk hi'];rfl)
  cases p1
  obtain⟨c,c1,c2,_⟩:=hk i ts[i] (uk hi')
  exact⟨ts[i],c,(uc.mp o1).2,uk hi',c1,c2⟩
 refine⟨its,pl.isList,fun w hw=>?_,?_⟩
 ·obtain⟨i,hi,e⟩:=List.mem_iff_getElem.mp (by simpa using hw)
  obtain⟨t,c,e1,e2,e3,e4⟩:=at_ i hi
  obtain⟨c',d1,d2,d3,d4⟩:=hk i t e2
  rw[e3]at d1
  cases d1
  rw[<- e,e1,vR e4]
  refine zaB (A:=X.A.in1) (by show X.A.units+1 < cLine;lia) I e4 hp d3 fun z=>d4 ?_
  rw[z,hp]at e4
  cases e4
  rfl
 ·rw[UF]
  simp only[List.any_toArray]
  rw[Ue,Ue]
  constructor
  ·rintro⟨w,hw,hf⟩
   obtain⟨i,hi,e⟩:=List.mem_iff_getElem.mp hw
   obtain⟨t,c,e1,e2,e3,e4⟩:=at_ i hi
   rw[<- e,e1,vR e4]at hf
   exact⟨c,uo e3,hf⟩
  ·rintro⟨c,hm,hf⟩
   obtain⟨i,hi⟩:=UD.mp hm
   have hi':=(uc.mp hi).1
   obtain⟨t,c',e1,e2,e3,e4⟩:=at_ i (by lia)
   rw[hi]at e3
   cases e3
   exact⟨_,tR _,by rw[e1,vR e4];exact hf⟩
theorem za9{a:Str}{n:Int}:∀k:List (Str×Int),((k.map fun c=>[V.str c.1,V.int c.2]).any fun c=>eqVs c [V.str a,V.int n])=decide ((a,n)∈k)
 |[]=>rfl
 |c::k=>by
  rw[uH,tD,za9 k]
  show(((c.1 == a) && ((c.2 == n) && true)) && true || _)=_
  rw[Bool.and_true,Bool.and_true,UF,Uw,u9,beq_iff_eq,beq_iff_eq,decide_eq_true_eq,decide_eq_true_eq,um]
  exact or_congr ⟨fun h=>Prod.ext h.1.symm h.2.symm,fun h=>by rw[<- h];exact⟨rfl,rfl⟩⟩ Iff.rfl
theorem preP{p l:Addr}{a:Str}{n:Int}(I:Inv X pins σ H s)(hu:X.A.units+64 < cLine)(hp:H p=some (.tup [.str a,.int n])){ts:List Addr}(hl:H l=some (.lst (ts.map V.ref))){k:List (Str×Int)}(hk:∀(i:Nat)(t:Addr),ts[i]?=some t->∃c,k[i]?=some c/\H t=some (.tup [.str c.1,.int c.2]))(hlen:k.length=ts.length):∃its:List Value,s.heap.IsList l its.toArray/\(∀w∈its.toArray,SeqAt.EqAt X.A.in1 s w (.ref p) (tupF H (fun c=>eqVs c [.str a,.int n]) w))/\its.toArray.any (tupF H fun c=>eqVs c [.str a,.int n])=decide ((a,n)∈k):=by
 obtain⟨its,a',b,c⟩:=XQ (k:=k.map fun c=>[V.str c.1,V.int c.2]) I hu hp hl (fun i t h=>by
  obtain⟨c,c1,c2⟩:=hk i t h
  exact⟨_,by rw[ue,c1];rfl,c2,fun j h1 h2=>⟨jz rfl h1,jz rfl h2⟩,fun e=>by rw[e];exact jx rfl⟩) (by rw[ua];exact hlen)
 rw[za9]at c
 exact⟨its,a',b,c⟩
theorem zcz(hu:X.A.units+64 < cLine):OpR X (compareOp .In) rInP:=by
 intro pins s σ H x y v u Q I rx ry h
 obtain⟨p,l,a,n,k,ts,rfl,rfl,hp,hl,hk,hlen,q⟩:=h
 cases rx
 cases ry
 obtain⟨its,b,c,d⟩:=preP I hu hp hl hk hlen
 exact SeqAt.in_listAt _ b c ⟨.bl _,H,I,rfl,by rw[d];exact q⟩
theorem WE(hu:X.A.units+64 < cLine):OpR X (compareOp .NotIn) za8:=by
 intro pins s σ H x y v u Q I rx ry h
 obtain⟨p,l,a,n,k,ts,rfl,rfl,hp,hl,hk,hlen,q⟩:=h
 cases rx
 cases ry
 obtain⟨its,b,c,d⟩:=preP I hu hp hl hk hlen
 exact SeqAt.notIn_listAt _ b c ⟨.bl _,H,I,rfl,by rw[d];exact q⟩
theorem zcA(a c a' c':Str)(r:List V):eqVs (.str a'::.str c'::r) [.str a,.str c]=(decide (a'=a) && (decide (c'=c) && r.isEmpty)):=by
 unfold eqVs
 rw[show min (V.str a'::V.str c'::r).length [V.str a,V.str c].length=2 by show min (r.length+1+1) 2=2;lia]
 show((a' == a) && ((c' == c) && true) && (r.length+1+1 == 2))=_
 rw[show(r.length+1+1 == 2)=r.isEmpty by cases r<;>simp,Bool.and_true,Bool.and_assoc]
 rfl
theorem zcB(hu:X.A.units+64 < cLine):OpR X (compareOp .In) rIn2:=by
 intro pins s σ H x y v u Q I rx ry h
 obtain⟨p,l,a,c,k,ts,rfl,rfl,hp,hl,hk,hlen,q⟩:=h
 cases rx
 cases ry
 obtain⟨its,b,d,e⟩:=XQ (k:=k.map fun e=>V.str e.1::V.str e.2.1::e.2.2) I hu hp hl (fun i t h=>by
  obtain⟨e,e1,e2⟩:=hk i t h
  refine⟨_,by rw[ue,e1];rfl,e2,fun j h1 h2=>?_,fun z=>by rw[z];exact jx rfl⟩
  match j,h2 with
  |0,_=>exact⟨rfl,rfl⟩
  |1,_=>exact⟨rfl,rfl⟩) (by rw[ua];exact hlen)
 refine SeqAt.in_listAt _ b d ⟨.bl _,H,I,rfl,?_⟩
 rw[e,List.any_map]
 have:((fun c_1=>eqVs c_1 [V.str a,V.str c]) ∘ fun e:Str×Str×List V=>V.str e.1::V.str e.2.1::e.2.2)=fun e=>decide (e.1=a) && (decide (e.2.1=c) && e.2.2.isEmpty):=funext fun e=>zcA ..
 rw[this]
 exact q
theorem zcC{k:Nat}(hr:Room k X.A):jOp X (compareOp .In) rInP:=⟨zcz hr.units⟩
theorem WF{k:Nat}(hr:Room k X.A):jOp X (compareOp .NotIn) za8:=⟨WE hr.units⟩
theorem zcD{k:Nat}(hr:Room k X.A):jOp X (compareOp .In) rIn2:=⟨zcB hr.units⟩
end
end L2
namespace GN
open PySem L2 K11
def isFn(g:Str):De->Bool
 |.app w f _=>decide (w="func") && decide (f=g)
 |_=>false
def byF(g:Str)(dfs:List Df):Bool:=dfs.any fun d=>d.b.des.any (isFn g)
structure DpB(n:Nat)(dfs:List Df):Prop where
 h:∀d∈dfs,d.b.dp<=n/\d.b.sz<=1000000
def zba(n:Nat):Sp:=fun vs H Q _=>∃(p:Addr)(g:Str)(dfs:List Df),vs=[.ref p,.str g]/\PrOk H p dfs/\DpB n dfs/\∀H',Same H H'->Q (.bl (byF g dfs)) H'
theorem byF_iff{g:Str}{dfs:List Df}:byF g dfs=true↔∃d∈dfs,∃b∈d.b.all,FnB g b:=by
 unfold byF
 rw[Ue]
 refine exists_congr fun d=>and_congr Iff.rfl ?_
 rw[Ue]
 constructor
 ·rintro⟨de,h1,h2⟩
  obtain⟨c,h3,h4⟩:=Um.mp h1
  refine⟨c,h3,?_⟩
  cases c with
  |lt x d' e =>
   have h4:de=d':=ui.mp h4
   subst h4
   cases de with
   |app w f xs =>
    have h2:(decide (w="func") && decide (f=g))=true:=h2
    rw[u9,decide_eq_true_eq,decide_eq_true_eq]at h2
    exact h2
   |num i=>cases h2
   |op w a b=>cases h2
  |give x=>cases h4
  |iff x a b=>cases h4
  |case x as=>cases h4
 ·rintro⟨c,h3,h4⟩
  cases c with
  |lt x d' e =>
   cases d' with
   |app w f xs =>
    refine⟨_,Um.mpr ⟨_,h3,ui.mpr rfl⟩,?_⟩
    show(decide (w="func") && decide (f=g))=true
    rw[decide_eq_true h4.1,decide_eq_true h4.2]
    rfl
   |num i=>exact h4.elim
   |op w a b=>exact h4.elim
  |give x=>exact h4.elim
  |iff x a b=>exact h4.elim
  |case x as=>exact h4.elim
section
variable{P:Program}{w:World}{K:ub}{mg:Str->Option Value}{base:Heap}{f:Addr}{fd:FuncData}
theorem scByF:FnScope ["_law_program_here","_law_def_name","_law_name_here","_law_params","_law_body_here","_law_deed_here"] lS21 (zo j6):=.ok
theorem zcE{n:Nat}(F:Fun K "_law_by_func" "_law_by_func" j6 f fd)(GD:Ca P w K mg base CX0 ((1+n)+1) "_law_deeds" ["_law_body_here"] (wg n)):FnOk P w K mg base CX0 ((1+n)+1+1) f fd lS21 (zba n):=by
 refine F.by scByF (fun vs H Q E h=>?_) (fun cdv A outer s H vs Q E hr h=>?_)
 ·obtain⟨p,g,dfs,rfl,_⟩:=h
  rfl
 obtain⟨p,g,dfs,rfl,hp,⟨hb⟩,q⟩:=h
 refine⟨_,
  (zg (zJ PassesOwn.never rfl (yK (xT 0)) (yi rfl (zt (gN 2 scByF.nd) (zt (gN 3 scByF.nd) (zt (gN 4 scByF.nd) zL))))
   (zh (zJ PassesOwn.never rfl (zF (cA GD hr (jA1 (jv 4)))) (gN 5 scByF.nd)
    (zh (zy (jW.pt (yd (tN zA (xT 5) zp) (yh (tN zA (xT 5) (jv 1)))))
     (zh (zu yC)) zv)))))
  (zh (zu yC))),?_⟩
 have sl:=zE
 obtain⟨pk,pd,ds,e1,e2,hF⟩:=hp.ex
 refine⟨_,rfl,ixT e1 aI1 ⟨pd,rfl,⟨_,SqT.of e2⟩,yO (xs:=ds.map V.ref) (fun i σ H'=>Same H H'/\byF g (dfs.take i)=false/\∃v1 v2 v3 v4,σ=[some (.ref p),some (.str g),v1,v2,v3,v4]) ⟨fun _ _ h=>h,rfl,none,none,none,none,rfl⟩ (fun i σ H' _ h=>SqT.of (h.1 _ _ e2)) ?_ ?_⟩⟩
 ·rintro i v σ H1 hv ⟨s1,hany,v1,v2,v3,v4,rfl⟩
  rw[ue]at hv
  obtain⟨t,ht,rfl⟩:=uh.mp hv
  obtain⟨d,hd,hFd⟩:=hF.get ht
  obtain⟨qn,pb,g1,g2,g3⟩:=(hFd.keep (.of s1)).ex
  have dm:=uo hd
  obtain⟨b1,b2⟩:=hb d dm
  refine⟨t,_,rfl,SqT.of g1,rfl,_,_,rfl,_,_,rfl,_,_,rfl,rfl,?_⟩
  refine⟨_,rfl,pb,d.b,rfl,g3,b1,b2,fun H2 r qs s2 hr0 hr2 hqs=>?_⟩
  have ql:=All2.len hqs
  refine⟨r,rfl,⟨_,SqL.of hr2⟩,yn (xs:=qs.map V.ref) (fun j σ H'=>H2=H'/\(d.b.des.take j).any (isFn g)=false/\∃v4,σ=[some (.ref p),some (.str g),some (.str d.z),some (.ref qn),some (.ref pb),v4]) ⟨rfl,rfl,_,rfl⟩ (fun j σ H' _ h=>SqL.of (h.1 ▸ hr2)) ?_ ?_⟩
  ·rintro j v σ H3 hv ⟨rfl,hany2,v4,rfl⟩
   rw[ue]at hv
   obtain⟨pd',hpd',rfl⟩:=uh.mp hv
   obtain⟨de,k1,k2⟩:=All2.get hqs hpd'
   have no:isFn g de=false->(d.b.des.take (j+1)).any (isFn g)=false:=fun h=>by rw[uv,k1,tY,hany2];simpa using h
   cases k2 with
   |num h1=>exact⟨_,rfl,ixT h1 aI0 ⟨rfl,_,rfl,ite2 aB (fun _=>⟨rfl,no rfl,_,rfl⟩)⟩⟩
   |op h1=>exact⟨_,rfl,ixT h1 aI0 ⟨rfl,_,rfl,ite2 aB (fun _=>⟨rfl,no rfl,_,rfl⟩)⟩⟩
   |@app w0 g0 xs _ pq hw h1 h2 =>
    have eF:isFn g (.app w0 g0 xs)=(decide (w0="func") && decide (g0=g)):=rfl
    refine⟨_,rfl,ixT h1 aI0 ⟨rfl,_,rfl,ite2 (fun c=>?_) (fun c=>?_)⟩⟩
    ·have ew:w0="func":=V.str.inj (of_decide_eq_true c)
     refine⟨_,rfl,ixT h1 aI1 ⟨_,rfl,rfl,_,rfl,ite2 (fun c2=>?_) (fun c2=>?_)⟩⟩
     ·have eg:g0=g:=V.str.inj (of_decide_eq_true c2)
      have:=q H2 (s1.trans s2)
      rw[show byF g dfs=true from Ue.mpr ⟨d,dm,Ue.mpr ⟨_,uo k1,by rw[eF,decide_eq_true ew,decide_eq_true eg];rfl⟩⟩]at this
      exact this
     ·refine⟨rfl,no ?_,_,rfl⟩
      rw[eF,decide_eq_false (p:=g0=g) (fun e=>c2 (decide_eq_true (by rw[e]))),Bool.and_false]
    ·refine⟨rfl,no ?_,_,rfl⟩
     rw[eF,decide_eq_false (fun e=>c (decide_eq_true (by rw[e]))),Uu]
  rintro σ H3 ⟨rfl,hany2,v4,rfl⟩
  rw[ua,<- ql,uj (ud _)]at hany2
  refine⟨s1.trans s2,?_,_,_,_,_,rfl⟩
  unfold byF at hany ⊢
  rw[uv,hd,tY,hany]
  simpa using hany2
 rintro σ H1 ⟨s1,hany,v1,v2,v3,v4,rfl⟩
 rw[ua,<- hF.len,uj (ud _)]at hany
 have:=q H1 s1
 rw[hany]at this
 exact this
def isGv(x:Str):Bd->Bool
 |.give y=>decide (y=x)
 |_=>false
def opt(c:Bool)(s:Str):List Str:=if c=true then[s]else[]
theorem wj(c:Bool)(s:Str):(opt c s).length<=1:=by cases c<;>simp[opt]
def dirD(x:Str):De->List Str
 |.app w f xs=>opt (decide (w="make"\/w="func"\/w="ask") && decide (x∈xs)) "put" ++ opt (decide (w="ask") && decide (f=x)) "asked"
 |_=>[]
def wF(dfs:List Df)(d:Df)(x:Str):List Str:=opt (d.b.all.any (isGv x)) "given" ++ d.b.des.flatMap (dirD x)++opt (byF d.z dfs) "handed" ++ opt (d.b.lanew x) "anew"
theorem JK(x:Str)(d:De):(dirD x d).length<=2:=by
 cases d with
 |app w f xs =>
  have h1:=wj (decide (w="make"\/w="func"\/w="ask") && decide (x∈xs)) "put"
  have h2:=wj (decide (w="ask") && decide (f=x)) "asked"
  show(opt _ _++opt _ _).length<=2
  rw[uf]
  lia
 |num i=>exact uX _
 |op w a b=>exact uX _
theorem vS(x:Str):∀l:List De,(l.flatMap (dirD x)).length<=2*l.length
 |[]=>ud _
 |d::l=>by
  rw[Uo,uf,ul]
  have:=vS x l
  have:=JK x d
  lia
def Fo(H:Hp)(r:Addr)(rs:List Str):Prop:=∃ps:List Addr,H r=some (.lst (ps.map V.ref))/\All2 (fun(s:Str) t=>H t=some (.tup [.str s])) rs ps
theorem Fo.same{H H':Hp}{r:Addr}{rs:List Str}(h:Fo H r rs)(s:Same H H'):Fo H' r rs:=let ⟨ps,a,b⟩:=h;⟨ps,s _ _ a,All2.imp b fun _ _ e=>s _ _ e⟩
theorem Fo.add{H:Hp}{r tk:Addr}{rs:List Str}{s:Str}{ps:List Addr}(hr:H r=some (.lst (ps.map V.ref)))(hps:All2 (fun(s:Str) t=>H t=some (.tup [.str s])) rs ps)(htk:H tk=none):Fo (upd (upd H tk (.tup [.str s])) r (.lst (ps.map V.ref++[.ref tk]))) r (rs++[s]):=by
 have n:tk≠r:=(zk hr htk).symm
 refine⟨ps++[tk],by rw[upd_same,uq];rfl,All2.app (All2.imp hps fun s t e=>?_) (.cons (by rw[zi n,upd_same]) .nil)⟩
 rw[zi (fun y=>by rw[y,hr]at e;cases e),zi (zk e htk)]
 exact e
theorem JL{H:Hp}{x:Str}{l:List Bd}{ps:List Addr}(h:IsBs H l ps):∃k:List (Str×Str×List V),k.length=ps.length/\(∀(i:Nat)(t:Addr),ps[i]?=some t->∃e,k[i]?=some e/\H t=some (.tup (.str e.1::.str e.2.1::e.2.2)))/\(k.any fun e=>decide (e.1="give") && (decide (e.2.1=x) && e.2.2.isEmpty))=l.any (isGv x):=by
 unfold IsBs at h
 induction h with
 |nil=>exact⟨[],rfl,fun i t h=>by simp at h,rfl⟩
 |@cons b p l ps hb h ih =>
  obtain⟨k,k1,k2,k3⟩:=ih
  have one:∃e:Str×Str×List V,H p=some (.tup (.str e.1::.str e.2.1::e.2.2))/\(decide (e.1="give") && (decide (e.2.1=x) && e.2.2.isEmpty))=isGv x b:=by
   cases hb with
   |@give y _ hp=>exact⟨("give",y,[]),hp,by show(decide _ && (decide (y=x) && true))=decide (y=x);rw[decide_eq_true rfl,tJ,Bool.and_true]⟩
   |@lt y d c _ q r hp _ _=>exact⟨("let",y,[.ref q,.ref r]),hp,by show(decide (("let":Str)="give") && _)=false;rw[decide_eq_false (p:=("let":Str)="give") (by decide),Uu]⟩
   |@iff y a c _ q r hp _ _=>exact⟨("if",y,[.ref q,.ref r]),hp,by show(decide (("if":Str)="give") && _)=false;rw[decide_eq_false (p:=("if":Str)="give") (by decide),Uu]⟩
   |@case y as ps _ q hp _ _ _=>exact⟨("case",y,[.ref q]),hp,by show(decide (("case":Str)="give") && _)=false;rw[decide_eq_false (p:=("case":Str)="give") (by decide),Uu]⟩
  obtain⟨e,e1,e2⟩:=one
  refine⟨e::k,by rw[ul,ul,k1],fun i t ht=>?_,by rw[tD,tD,e2,k3]⟩
  cases i with
  |zero =>
   have:p=t:=by simpa using ht
   subst this
   exact⟨e,rfl,e1⟩
  |succ i=>exact k2 i t (by simpa using ht)
theorem vT{c:Prop}[Decidable c]{ta:TS}{D:Ends}{σ:St}{H:Hp}{R:Hp->Prop}(a:c->∀D:Ends,(∀H',R H'->D.nx σ H')->ta D σ H)(b:¬ c->R H)(fin:∀H',R H'->D.nx σ H'):if c then ta D σ H else wI D σ H:=by
 split
 ·rename_i h;exact a h _ fin
 ·rename_i h;exact fin _ (b h)
theorem Z6(s:Str):opt true s=[s]:=rfl
theorem jB(s:Str):opt false s=[]:=rfl
def Z7(n:Nat):Sp:=fun vs H Q _=>∃(p po:Addr)(x:Str)(dfs:List Df)(d:Df),vs=[.ref p,.ref po,.str x]/\PrOk H p dfs/\DpB n dfs/\IsF H d po/\d∈dfs/\∀H' r,Same H H'->Fo H' r (wF dfs d x)->Q (.ref r) H'
theorem scDirect:FnScope ["_law_program_here","_law_one","_law_name_here","_law_found","_law_deed_here"] lS15 (zo j7):=.ok
theorem WG{n:Nat}(F:Fun K "_law_direct" "_law_direct" j7 f fd)(GP:Ca P w K mg base CX0 (1+n) "_law_pieces" ["_law_body_here"] (yE n))(GD:Ca P w K mg base CX0 ((1+n)+1) "_law_deeds" ["_law_body_here"] (wg n))(GB:Ca P w K mg base CX0 ((1+n)+1+1) "_law_by_func" lS21 (zba n))(GA:Ca P w K mg base CX0 ((1+n)+1+1) "_law_anew" lS5 (XO n)):FnOk P w K mg base CX0 ((1+n)+1+1+1) f fd lS15 (Z7 n):=by
 refine F.by scDirect (fun vs H Q E h=>?_) (fun cdv A outer s H vs Q E hr h=>?_)
 ·obtain⟨p,po,x,dfs,d,rfl,_⟩:=h
  rfl
 obtain⟨p,po,x,dfs,d,rfl,hp,hB,hFd,hdm,q⟩:=h
 have hr1:Room 1 _:=hr.mono (by lia)
 have hrP:Room (1+n) _:=hr.mono (by lia)
 have hrD:Room ((1+n)+1) _:=hr.mono (by lia)
 refine⟨_,
  (zg (sE 3 scDirect.nd (zB zD))
  (zg (zy (yj (zcD hr1) (zq (jA2 zp (jv 2))) (cA GP hrP (jA1 (xT 1))) (by with_unfolding_all rfl))
   (zh (zG (yy uA uN uO zK (jv 3) (jA1 (zq (jA1 zp)))))) zv)
  (zg (zJ PassesOwn.never rfl (zF (cA GD hrD (jA1 (xT 1)))) (gN 4 scDirect.nd)
   (zg (zy (jW.pt (yd (yj yr (xT 4) (zB (jA3 zp zp zp)) (by with_unfolding_all rfl)) (yh (yj yr (jv 2) (xT 4) (by with_unfolding_all rfl)))))
    (zh (zG (yy uA uN uO zK (jv 3) (jA1 (zq (jA1 zp)))))) zv)
   (zh (zy (jW.pt (yd (tN zA (xT 4) zp) (yh (tN zA (xT 4) (jv 2)))))
    (zh (zG (yy uA uN uO zK (jv 3) (jA1 (zq (jA1 zp)))))) zv))))
  (zg (zy (wp (cA GB hr (jA2 (jv 0) (xT 1))))
   (zh (zG (yy uA uN uO zK (jv 3) (jA1 (zq (jA1 zp)))))) zv)
  (zg (zy (wp (cA GA hr (jA2 (xT 1) (jv 2))))
   (zh (zG (yy uA uN uO zK (jv 3) (jA1 (zq (jA1 zp)))))) zv)
  (zh (zu (jv 3)))))))),?_⟩
 have sl:=zE
 refine cut2 fun r1_ hr1_=>?_
 refine⟨sN0,fun r hr0=>?_⟩
 have s1:=zn (o:=.lst []) hr0
 have F1:Fo (upd H r (.lst [])) r []:=⟨[],upd_same,.nil⟩
 show(tSeq _ _:TS) _ _ (upd H r (.lst []))
 generalize upd H r (.lst [])=H1 at *
 obtain⟨hd1,hd2⟩:=hB.h d hdm
 refine⟨_,rfl,sN2,fun tg htg=>?_⟩
 have s2:=s1.new (o:=.tup [.str "give",.str x]) htg
 have x2:=zn (o:=.tup [.str "give",.str x]) htg
 have htg2:=upd_same (H:=H1) (a:=tg) (o:=.tup [.str "give",.str x])
 generalize upd H1 tg (.tup [.str "give",.str x])=H2 at *
 obtain⟨qn,pb,g1,g2,g3⟩:=hFd.ex
 refine⟨_,rfl,ixT (s2 _ _ g1) aI2 ⟨pb,d.b,rfl,g3.keep (.of s2),hd1,hd2,fun H3 rp ps s3 hrp0 hrp3 hps=>?_⟩⟩
 obtain⟨k,k1,k2,k3⟩:=JL (x:=x) hps
 refine⟨tg,rp,"give",x,k,ps,rfl,rfl,s3 _ _ htg2,hrp3,k2,k1,_,rfl,?_⟩
 rw[k3]
 have s03:=s2.trans s3
 have F3:=F1.same (x2.trans s3)
 have bl:=Bd.all_len d.b
 refine vT (R:=fun H'=>Same H H'/\Fo H' r (opt (d.b.all.any (isGv x)) "given")) (fun c D fin=>?_) (fun c=>?_) ?_
 ·obtain⟨qs,f1,f2⟩:=F3
  cases f2
  refine⟨_,rfl,.inl ⟨rfl,_,SqL.of f1⟩,sN1,fun tk htk=>⟨r,_,_,rfl,rfl,old htk f1,by show 0 < sizeLine;decide,fin _ ⟨(s03.new htk).put hr0,?_⟩⟩⟩
  rw[c,Z6]
  exact Fo.add (rs:=[]) f1 .nil htk
 ·refine⟨s03,?_⟩
  rw[show d.b.all.any (isGv x)=false by simpa using c,jB]
  exact F3
 rintro H4 ⟨s4,F4⟩
 subst hr1_
 dsimp only
 refine cut1 fun r2_ hr2_=>?_
 have gl:=wj (d.b.all.any (isGv x)) "given"
 unfold wF at q
 generalize opt (d.b.all.any (isGv x)) "given"=gv at *
 refine⟨_,rfl,ixT (s4 _ _ g1) aI2 ⟨pb,d.b,rfl,g3.keep (.of s4),hd1,hd2,fun H5 rd qs s5 hrd0 hrd5 hqs=>?_⟩⟩
 have F5:=F4.same s5
 have nr:rd≠r:=fun y=>by
  obtain⟨_,e,_⟩:=F4
  rw[y,e]at hrd0
  cases hrd0
 have hl5:∃l,H5 r=some (.lst l):=let ⟨_,e,_⟩:=F5;⟨_,e⟩
 have ql:=All2.len hqs
 have dl:d.b.des.length<=1000000:=by
  have h1:=Zm d.b.all
  unfold Bd.des
  lia
 refine⟨rd,rfl,⟨_,SqL.of hrd5⟩,yn (xs:=qs.map V.ref) (fun i σ H'=>Same H H'/\(∀b u,b≠r->H5 b=some u->H' b=some u)/\Fo H' r (gv++(d.b.des.take i).flatMap (dirD x))/\∃v,σ=[some (.ref p),some (.ref po),some (.str x),some (.ref r),v]) ⟨s4.trans s5,fun b u _ e=>e,by rw[List.take_zero];show Fo H5 r (gv++[]);rw[uu];exact F5,_,rfl⟩ (fun i σ H' _ h=>SqL.of (h.2.1 _ _ nr hrd5)) ?_ ?_⟩
 ·rintro i v σ H6 hv ⟨s6,x6,F6,v',rfl⟩
  rw[ue]at hv
  obtain⟨pd,hpd,rfl⟩:=uh.mp hv
  obtain⟨de,e1,e2⟩:=All2.get hqs hpd
  have hi:=(uc.mp e1).1
  have dln:=vS x (d.b.des.take i)
  rw[uD]at dln
  have et:gv++(d.b.des.take (i+1)).flatMap (dirD x)=(gv++(d.b.des.take i).flatMap (dirD x))++dirD x de:=by rw[uv,e1,Ug,Ui];simp
  rw[et]
  have rl:(gv++(d.b.des.take i).flatMap (dirD x)).length<=2000001:=by rw[uf];lia
  generalize gv++(d.b.des.take i).flatMap (dirD x)=rs at *
  have tnr:∀{b:Addr}{xs:List V},H5 b=some (.tup xs)->H6 b=some (.tup xs):=fun{b xs} e=>x6 _ _ (fun y=>by obtain⟨_,z⟩:=hl5;rw[y,z]at e;cases e) e
  by_cases pln:∃w0 vs,H6 pd=some (.tup (.str w0::vs))/\¬ (w0="make"\/w0="func"\/w0="ask")/\dirD x de=[]
  ·obtain⟨w0,vs,h1,n1,ed⟩:=pln
   rw[ed,uu]
   refine⟨_,rfl,ixT h1 aI0 ⟨sN3,fun lk hlk=>⟨lk,_,rfl,.inl (SqL.of upd_same),rfl,rfl,_,rfl,ite2 (fun c=>absurd ((inV3 _ _ _ _).mp c) n1) (fun _=>?_)⟩⟩⟩
   have y7:=zn (o:=.lst [.str "make",.str "func",.str "ask"]) hlk
   refine⟨_,rfl,ixT (y7 _ _ h1) aI0 ⟨rfl,_,rfl,ite2 (fun c=>absurd (V.str.inj (of_decide_eq_true c)) (fun e=>n1 (.inr (.inr e)))) (fun _=>?_)⟩⟩
   exact⟨s6.trans y7,fun b u n e=>y7 _ _ (x6 b u n e),F6.same y7,_,rfl⟩
  cases e2 with
  |num h1=>exact absurd ⟨_,_,tnr h1,by decide,rfl⟩ pln
  |op h1=>exact absurd ⟨_,_,tnr h1,by decide,rfl⟩ pln
  |@app w0 g xs _ pq hw h1 h2 =>
   have h1:=tnr h1
   have h2:=tnr h2
   by_cases c1:w0="make"\/w0="func"\/w0="ask"
   case neg =>
    refine absurd ⟨_,_,h1,c1,?_⟩ pln
    show opt _ _++opt _ _=[]
    rw[decide_eq_false c1,decide_eq_false (fun e=>c1 (.inr (.inr e)))]
    rfl
   have ed:dirD x (.app w0 g xs)=opt (decide (x∈xs)) "put" ++ opt (decide (w0="ask") && decide (g=x)) "asked":=by
    show opt _ _++opt _ _=_
    rw[decide_eq_true c1,tJ]
   rw[ed]
   refine⟨_,rfl,ixT h1 aI0 ⟨sN3,fun lk hlk=>⟨lk,_,rfl,.inl (SqL.of upd_same),rfl,rfl,_,rfl,ite2 (fun _=>?_) (fun c=>absurd ((inV3 _ _ _ _).mpr c1) c)⟩⟩⟩
   have y7:=zn (o:=.lst [.str "make",.str "func",.str "ask"]) hlk
   have F7:=F6.same y7
   have s7:=s6.trans y7
   have h1':=y7 _ _ h1
   have h2':=y7 _ _ h2
   have x7:∀b u,b≠r->H5 b=some u->upd H6 lk (.lst [.str "make",.str "func",.str "ask"]) b=some u:=fun b u n e=>y7 _ _ (x6 b u n e)
   generalize upd H6 lk (.lst [.str "make",.str "func",.str "ask"])=H7 at *
   refine⟨_,rfl,_,rfl,ixT h1' aI2 ⟨pq,_,rfl,.inr (SqT.of h2'),rfl,wD _,_,rfl,?_⟩⟩
   show if inV (V.str x) (xs.map V.str)=true then _ else _
   rw[inVs]
   refine vT (R:=fun H'=>Same H H'/\(∀b u,b≠r->H7 b=some u->H' b=some u)/\Fo H' r (rs++opt (decide (x∈xs)) "put")) (fun c D fin=>?_) (fun c=>?_) ?_
   ·obtain⟨zs,f1,f2⟩:=F7
    have fl:=All2.len f2
    refine⟨_,rfl,.inl ⟨rfl,_,SqL.of f1⟩,sN1,fun tk htk=>⟨r,_,_,rfl,rfl,old htk f1,by rw[ua];lia,fin _ ⟨(s7.new htk).put hr0,fun b u n e=>?_,?_⟩⟩⟩
    ·rw[zi n,zi (zk e htk)]
     exact e
    ·rw[c,Z6]
     exact Fo.add f1 f2 htk
   ·refine⟨s7,fun b u _ e=>e,?_⟩
    rw[show decide (x∈xs)=false by simpa using c,jB,uu]
    exact F7
   rintro H8 ⟨s8,x8,F8⟩
   have pr:pd≠r:=fun y=>by
    obtain⟨_,e,_⟩:=F7
    rw[y,e]at h1'
    cases h1'
   have h18:=x8 _ _ pr h1'
   have x58:∀b u,b≠r->H5 b=some u->H8 b=some u:=fun b u n e=>x8 b u n (x7 b u n e)
   have ol:=wj (decide (x∈xs)) "put"
   rw[<- Ui]
   have rl8:(rs++opt (decide (x∈xs)) "put").length<=2000002:=by rw[uf];lia
   generalize rs++opt (decide (x∈xs)) "put"=rs8 at *
   refine⟨_,rfl,ixT h18 aI0 ⟨rfl,_,rfl,ite2 (fun c=>?_) (fun c=>?_)⟩⟩
   case refine_2 =>
    refine⟨s8,x58,?_,_,rfl⟩
    rw[show decide (w0="ask")=false from decide_eq_false (fun e=>c (decide_eq_true (by rw[e]))),Uu,jB,uu]
    exact F8
   have ew:w0="ask":=V.str.inj (of_decide_eq_true c)
   rw[decide_eq_true ew,tJ]
   refine⟨_,rfl,ixT h18 aI1 ⟨_,rfl,rfl,_,rfl,?_⟩⟩
   have eg:decide (V.str g=V.str x)=decide (g=x):=decide_eq_decide.mpr ⟨V.str.inj,fun e=>by rw[e]⟩
   rw[eg]
   refine vT (R:=fun H'=>Same H H'/\(∀b u,b≠r->H5 b=some u->H' b=some u)/\Fo H' r (rs8++opt (decide (g=x)) "asked")) (fun c D fin=>?_) (fun c=>?_) ?_
   ·obtain⟨zs,f1,f2⟩:=F8
    have fl:=All2.len f2
    refine⟨_,rfl,.inl ⟨rfl,_,SqL.of f1⟩,sN1,fun tk htk=>⟨r,_,_,rfl,rfl,old htk f1,by rw[ua];lia,fin _ ⟨(s8.new htk).put hr0,fun b u n e=>?_,?_⟩⟩⟩
    ·rw[zi n,zi (zk (x58 _ _ n e) htk)]
     exact x58 _ _ n e
    ·rw[c,Z6]
     exact Fo.add f1 f2 htk
   ·refine⟨s8,x58,?_⟩
    rw[show decide (g=x)=false by simpa using c,jB,uu]
    exact F8
   rintro H9 ⟨s9,x9,F9⟩
   exact⟨s9,x9,F9,_,rfl⟩
 rintro σ H6 ⟨s6,x6,F6,v',rfl⟩
 subst hr2_
 rw[ua,<- ql,uj (ud _)]at F6
 have dln:=vS x d.b.des
 have rl:(gv++d.b.des.flatMap (dirD x)).length<=2000001:=by rw[uf];lia
 generalize gv++d.b.des.flatMap (dirD x)=rs at *
 refine⟨_,rfl,_,rfl,ixT (s6 _ _ g1) aI0 ⟨p,d.z,dfs,rfl,hp.keep (.of s6),hB,fun H7 s7=>⟨_,rfl,?_⟩⟩⟩
 have F7:=F6.same s7
 have s67:=s6.trans s7
 refine vT (R:=fun H'=>Same H H'/\Fo H' r (rs++opt (byF d.z dfs) "handed")) (fun c D fin=>?_) (fun c=>?_) ?_
 ·obtain⟨zs,f1,f2⟩:=F7
  have fl:=All2.len f2
  refine⟨_,rfl,.inl ⟨rfl,_,SqL.of f1⟩,sN1,fun tk htk=>⟨r,_,_,rfl,rfl,old htk f1,by rw[ua];lia,fin _ ⟨(s67.new htk).put hr0,?_⟩⟩⟩
  rw[c,Z6]
  exact Fo.add f1 f2 htk
 ·refine⟨s67,?_⟩
  rw[show byF d.z dfs=false by simpa using c,jB,uu]
  exact F7
 rintro H8 ⟨s8,F8⟩
 have ol:=wj (byF d.z dfs) "handed"
 have rl8:(rs++opt (byF d.z dfs) "handed").length<=2000002:=by rw[uf];lia
 generalize rs++opt (byF d.z dfs) "handed"=rs8 at *
 refine⟨_,rfl,ixT (s8 _ _ g1) aI2 ⟨_,rfl,pb,d.b,x,rfl,g3.keep (.of s8),hd1,hd2,fun H9 s9=>⟨_,rfl,?_⟩⟩⟩
 have F9:=F8.same s9
 have s89:=s8.trans s9
 refine vT (R:=fun H'=>Same H H'/\Fo H' r (rs8++opt (d.b.lanew x) "anew")) (fun c D fin=>?_) (fun c=>?_) ?_
 ·obtain⟨zs,f1,f2⟩:=F9
  have fl:=All2.len f2
  refine⟨_,rfl,.inl ⟨rfl,_,SqL.of f1⟩,sN1,fun tk htk=>⟨r,_,_,rfl,rfl,old htk f1,by rw[ua];lia,fin _ ⟨(s89.new htk).put hr0,?_⟩⟩⟩
  rw[c,Z6]
  exact Fo.add f1 f2 htk
 ·refine⟨s89,?_⟩
  rw[show d.b.lanew x=false by simpa using c,jB,uu]
  exact F9
 rintro H10 ⟨s10,F10⟩
 exact⟨_,rfl,q _ r s10 F10⟩
def yQ(f x:Str)(xs:List Str)(j:Nat):List (Str×Nat):=if xs[j]?=some x then[(f,j)]else[]
def xf(x:Str):De->List (Str×Nat)
 |.app w f xs=>if w="call"then(uE xs.length).flatMap (yQ f x xs)else[]
 |_=>[]
def wZ(d:Df)(x:Str):List (Str×Nat):=d.b.des.flatMap (xf x)
def CoAt(H:Hp)(cs:List (Str×Nat))(ps:List Addr):Prop:=All2 (fun(c:Str×Nat) t=>H t=some (.tup [.str "called",.str c.1,.int ((c.2:Nat):Int)])) cs ps
theorem CoAt.keep{H H':Hp}{cs:List (Str×Nat)}{ps:List Addr}(h:CoAt H cs ps)(t:Tups H H'):CoAt H' cs ps:=All2.imp h fun _ _ e=>t _ _ e
def XR(n:Nat):Sp:=fun vs H Q _=>∃(po:Addr)(x:Str)(d:Df),vs=[.ref po,.str x]/\IsF H d po/\d.b.dp<=n/\d.b.sz<=100000/\∀H' r ps,Same H H'->H' r=some (.lst (ps.map V.ref))->CoAt H' (wZ d x) ps->Q (.ref r) H'
theorem wG(f x:Str)(xs:List Str):∀n:Nat,((uE n).flatMap (yQ f x xs)).length<=n
 |0=>ud _
 |n+1=>by
  rw[UV,Ug,uf]
  have:=wG f x xs n
  have:(yQ f x xs n).length<=1:=by unfold yQ;split<;>simp
  simp only[Uo,List.flatMap_nil,uu]
  lia
theorem scCalls:FnScope ["_law_one","_law_name_here","_law_found","_law_deed_here"] lS24 (zo YF):=.ok
theorem zaC:(["_law_one","_law_name_here","_law_found","_law_deed_here","_law_j"]:List Str).Nodup:=by decide +kernel
theorem JM{n:Nat}(F:Fun K "_law_calls" "_law_calls" YF f fd)(GD:Ca P w K mg base CX0 ((1+n)+1) "_law_deeds" ["_law_body_here"] (wg n))(m_range:mg "range"=none)(m_len:mg "len"=none):FnOk P w K mg base CX0 ((1+n)+1+1) f fd lS24 (XR n):=by
 refine F.by scCalls (fun vs H Q E h=>?_) (fun cdv A outer s H vs Q E hr h=>?_)
 ·obtain⟨po,x,d,rfl,_⟩:=h
  rfl
 obtain⟨po,x,d,rfl,hFd,hd1,hd2,q⟩:=h
 refine⟨_,
  (zg (sE 2 scCalls.nd (zB zD))
  (zg (zJ PassesOwn.never rfl (zF (cA GD hr (jA1 (xT 0)))) (gN 3 scCalls.nd)
   (zh (zy (tN zA (xT 3) zp)
    (zh (zG (yy uA PySem.F.slot_list_extend PySem.F.type_list_extend Wa (jv 2) (jA1 (yk ["_law_j"] rfl (zQ rfl m_range (jA1 (jL m_len (xT 3)))) (fun _ _ _ _ _=>(gN 4 zaC)) (fun _ _ _ _ _=>(yG (tN zA (xX (yb K) (zT (yb K) (jv 3) zj (fun _ _=>rfl)) (jv 4)) (jv 1)))) (fun _ _ _ _ _=>(zq (jA3 zp (zT (yb K) (jv 3) zj (fun _ _=>rfl)) (jv 4))))))))) zv)))
  (zh (zu (jv 2))))),?_⟩
 have sl:=zE
 refine⟨sN0,fun r hr0=>?_⟩
 have s1:=zn (o:=.lst []) hr0
 have hr1:=upd_same (H:=H) (a:=r) (o:=.lst [])
 show(tSeq _ _:TS) _ _ (upd H r (.lst []))
 generalize upd H r (.lst [])=H1 at *
 obtain⟨qn,pb,g1,g2,g3⟩:=hFd.ex
 refine⟨_,rfl,ixT (s1 _ _ g1) aI2 ⟨pb,d.b,rfl,g3.keep (.of s1),hd1,by lia,fun H2 rd qs s2 hrd0 hrd2 hqs=>?_⟩⟩
 have nr:rd≠r:=(zk hr1 hrd0).symm
 have ql:=All2.len hqs
 have dl:d.b.des.length<=100000:=by
  have h1:=Zm d.b.all
  have h2:=Bd.all_len d.b
  unfold Bd.des
  lia
 refine⟨rd,rfl,⟨_,SqL.of hrd2⟩,yn (xs:=qs.map V.ref) (fun i σ H'=>Same H H'/\(∀b u,b≠r->H2 b=some u->H' b=some u)/\(∃ps:List Addr,H' r=some (.lst (ps.map V.ref))/\CoAt H' ((d.b.des.take i).flatMap (xf x)) ps/\ps.length<=40*i)/\∃v,σ=[some (.ref po),some (.str x),some (.ref r),v]) ⟨s1.trans s2,fun b u _ e=>e,⟨[],s2 _ _ hr1,.nil,ud _⟩,_,rfl⟩ (fun i σ H' _ h=>SqL.of (h.2.1 _ _ nr hrd2)) ?_ ?_⟩
 ·rintro i v σ H3 hv ⟨s3,x3,⟨ps,hr3,hC,hpl⟩,v',rfl⟩
  rw[ue]at hv
  obtain⟨pd,hpd,rfl⟩:=uh.mp hv
  obtain⟨de,e1,e2⟩:=All2.get hqs hpd
  have hi:=(uc.mp e1).1
  have et:(d.b.des.take (i+1)).flatMap (xf x)=(d.b.des.take i).flatMap (xf x)++xf x de:=by rw[uv,e1,Ug];simp
  rw[et]
  have tnr:∀{b:Addr}{xs:List V},H2 b=some (.tup xs)->H3 b=some (.tup xs):=fun{b xs} e=>x3 _ _ (fun y=>by have:=s2 _ _ hr1;rw[y,this]at e;cases e) e
  cases e2 with
  |num h1=>exact⟨_,rfl,ixT (tnr h1) aI0 ⟨rfl,_,rfl,ite2 aB (fun _=>⟨s3,x3,⟨ps,hr3,by rw[show xf x (.num _)=[]from rfl,uu];exact hC,by lia⟩,_,rfl⟩)⟩⟩
  |op h1=>exact⟨_,rfl,ixT (tnr h1) aI0 ⟨rfl,_,rfl,ite2 aB (fun _=>⟨s3,x3,⟨ps,hr3,by rw[show xf x (.op _ _ _)=[]from rfl,uu];exact hC,by lia⟩,_,rfl⟩)⟩⟩
  |@app w0 g xs _ pq hw h1 h2 =>
   have h1:=tnr h1
   have h2:=tnr h2
   refine⟨_,rfl,ixT h1 aI0 ⟨rfl,_,rfl,ite2 (fun c=>?_) (fun c=>?_)⟩⟩
   case refine_2 =>
    refine⟨s3,x3,⟨ps,hr3,?_,by lia⟩,_,rfl⟩
    rw[show xf x (.app w0 g xs)=[]from if_neg (fun e=>c (decide_eq_true (by rw[e]))),uu]
    exact hC
   have ew:w0="call":=V.str.inj (of_decide_eq_true c)
   rw[show xf x (.app w0 g xs)=(uE xs.length).flatMap (yQ g x xs)from if_pos ew]
   have x40:=hw.2.2
   refine⟨_,rfl,.inl ⟨rfl,_,SqL.of hr3⟩,_,rfl,ixT h1 aI2 ⟨pq,_,rfl,.inr (SqT.of h2),_,rfl,by lia,by rw[ua];lia,?_⟩⟩
   rw[show(((xs.map V.str).length:Nat):Int).toNat=xs.length by rw[ua];rfl]
   refine yu (n:=xs.length) (fun j τ ys H'=>Same H3 H'/\(∃v,τ=[some (.ref po),some (.str x),some (.ref r),some (.ref pd),v])/\∃zs:List Addr,ys=zs.map V.ref/\CoAt H' ((uE j).flatMap (yQ g x xs)) zs) ⟨fun _ _ h=>h,⟨_,rfl⟩,[],rfl,.nil⟩ ?_ ?_
   ·rintro j τ ys H4 hj ⟨s4,⟨v,rfl⟩,zs,rfl,hz⟩
    rw[tH]
    have es:(uE (j+1)).flatMap (yQ g x xs)=(uE j).flatMap (yQ g x xs)++yQ g x xs j:=by rw[UV,Ug];simp
    rw[es]
    have zl:=All2.len hz
    have cl:=wG g x xs j
    obtain⟨y,hy⟩:∃y,xs[j]?=some y:=⟨_,uk hj⟩
    have hat:atI (xs.map V.str) ((j:Nat):Int)=some (.str y):=zP (by rw[ue,hy];rfl)
    refine⟨_,rfl,ixT (s4 _ _ h1) aI2 ⟨_,rfl,pq,_,_,_,rfl,rfl,SqT.of (s4 _ _ h2),hat,_,rfl,rfl,_,rfl,ite2 (fun c=>?_) (fun c=>?_)⟩⟩
    ·have ey:y=x:=V.str.inj (of_decide_eq_true c)
     refine⟨_,rfl,ixT (s4 _ _ h1) aI1 ⟨_,rfl,sN3,fun tk htk=>?_⟩⟩
     refine⟨by rw[ua];lia,s4.new htk,⟨_,rfl⟩,zs++[tk],by simp,?_⟩
     rw[show yQ g x xs j=[(g,j)]from if_pos (by rw[hy,ey])]
     exact All2.app (CoAt.keep hz (.of (zn htk _))) (.cons upd_same .nil)
    ·refine⟨s4,⟨_,rfl⟩,zs,rfl,?_⟩
     rw[show yQ g x xs j=[]from if_neg (fun e=>c (decide_eq_true (by rw[hy]at e;rw[uP.inj e]))),uu]
     exact hz
   rintro τ ys H4 ⟨s4,-,zs,rfl,hz⟩ l hl
   have zl:=All2.len hz
   have cl:=wG g x xs xs.length
   have s5:=s4.new (o:=.lst (zs.map V.ref)) hl
   have hl5:=upd_same (H:=H4) (a:=l) (o:=.lst (zs.map V.ref))
   have hz5:=CoAt.keep hz (.of (zn (o:=.lst (zs.map V.ref)) hl))
   generalize upd H4 l (.lst (zs.map V.ref))=H5 at *
   have hr5:=s5 _ _ hr3
   refine⟨r,l,_,_,rfl,rfl,hr5,hl5,by rw[ua,ua];lia,?_⟩
   rw[<- uq]
   have tp:Tups H5 (upd H5 r (.lst ((ps++zs).map V.ref))):=fun b ys e=>by rw[zi (fun y=>by rw[y,hr5]at e;cases e)];exact e
   refine⟨(s3.trans s5).put hr0,fun b u n e=>by rw[zi n];exact s5 _ _ (x3 b u n e),⟨ps++zs,upd_same,All2.app ((hC.keep (.of s5)).keep tp) (CoAt.keep hz5 tp),by rw[uf];lia⟩,_,rfl⟩
 rintro σ H3 ⟨s3,x3,⟨ps,hr3,hC,hpl⟩,v',rfl⟩
 rw[ua,<- ql,uj (ud _)]at hC
 exact⟨_,rfl,q _ r ps s3 hr3 hC⟩
end
theorem Z8:∀{l:List Str}{k:Nat}{x:Str},l.Nodup->l.reverse[k]?=some x->pixR l x=some k
 |[],k,x,_,h=>by simp at h
 |y::r,k,x,n,h=>by
  obtain⟨n1,n2⟩:=Ub.mp n
  rw[U9]at h
  unfold pixR
  by_cases e:k < r.reverse.length
  ·rw[Uc e]at h
   have hx:x∈r:=List.mem_reverse.mp (uo h)
   rw[if_neg (fun z=>n1 (by rw[z];exact hx))]
   exact Z8 n2 h
  ·rw[Ul (by lia)]at h
   have hk:=(uc.mp h).1
   rw[uU]at hk
   have ek:k=r.length:=by rw[Uk]at e hk;lia
   have:k-r.reverse.length=0:=by lia
   rw[this]at h
   have:y=x:=by simpa using h
   rw[if_pos this,ek]
theorem XS{ns:List Str}{k:Nat}{x:Str}(n:ns.Nodup)(h:ns[k]?=some x):pix ns x=some k:=by
 unfold pix
 exact Z8 ((List.reverse_perm ns).nodup_iff.mpr n) (by rw[List.reverse_reverse];exact h)
theorem zcF{ns:List Str}{k:Nat}{r:Str}{b:Bd}(h:RsB ns k r b):r≠"":=by
 cases b with
 |give x=>rw[h.2];decide
 |iff x a b=>exact h.elim
 |case x as=>rw[h.2.2];decide
 |lt y d e =>
  cases d with
  |num i=>exact h.elim
  |op w a b=>exact h.elim
  |app w f xs =>
   rcases h with h|h
   ·rw[h.2.2];decide
   ·rw[h.2.2];decide
section
variable{dfs:List Df}{d:Df}{k:Nat}{x:Str}
theorem XT(hd:d∈dfs)(hk:k < d.ns.length)(h:(zS dfs).hd d.z=true\/((zS dfs).F d.z k).isSome=true):(d.z,k)∈(z9 dfs).map Rw.key:=by
 have A:=wf dfs
 have ne:rsn (zS dfs) d.z k≠"":=by
  unfold rsn
  split
  ·decide
  ·rename_i nh
   rcases h with h|h
   ·exact absurd h nh
   ·cases e:(zS dfs).F d.z k with
    |none=>rw[e]at h;cases h
    |some r =>
     rcases A.f1 _ _ _ e with h'|⟨d',_,_,b,_,hr⟩
     ·cases h'
     ·exact zcF hr
 have m:(⟨d.z,k,.own (rsn (zS dfs) d.z k)⟩:Rw)∈ownR (zS dfs) dfs:=by
  unfold ownR ownD
  refine Um.mpr ⟨d,hd,Um.mpr ⟨k,UJ.mpr hk,?_⟩⟩
  unfold own1
  rw[if_pos ne]
  exact ui.mpr rfl
 exact uC.mpr ⟨_,JB m,rfl⟩
theorem Zn(hd:d∈dfs)(hk:k < d.ns.length){b:Bd}(hb:b∈d.b.all){r:Str}(h:RsB d.ns k r b):(d.z,k)∈(z9 dfs).map Rw.key:=XT hd hk (.inr ((wf dfs).f3 d hd k r ⟨b,hb,h⟩))
theorem opt_mem{c:Bool}{s r:Str}:r∈opt c s↔c=true/\r=s:=by cases c<;>simp[opt]
theorem des_mem{b:Bd}{de:De}:de∈b.des↔∃y e,Bd.lt y de e∈b.all:=by
 unfold Bd.des
 rw[Um]
 constructor
 ·rintro⟨c,h1,h2⟩
  cases c with
  |lt y d' e =>
   have h2:de=d':=ui.mp h2
   subst h2
   exact⟨y,e,h1⟩
  |give x=>cases h2
  |iff x a b=>cases h2
  |case x as=>cases h2
 ·rintro⟨y,e,h⟩
  exact⟨_,h,ui.mpr rfl⟩
theorem YY(hd:d∈dfs)(nd:d.ns.Nodup)(hx:d.ns[k]?=some x)(nb:x∉d.b.binds){r:Str}(h:r∈wF dfs d x):(d.z,k)∈(z9 dfs).map Rw.key:=by
 have hk:=(uc.mp hx).1
 have px:=XS nd hx
 unfold wF at h
 rcases uz.mp h with h|h
 ·rcases uz.mp h with h|h
  ·rcases uz.mp h with h|h
   ·obtain⟨c,h1,h2⟩:=Ue.mp (opt_mem.mp h).1
    cases c with
    |give y =>
     have e:y=x:=of_decide_eq_true h2
     subst e
     exact Zn hd hk h1 (r:="given") ⟨px,rfl⟩
    |lt y d' e=>cases h2
    |iff y a b=>cases h2
    |case y as=>cases h2
   ·obtain⟨de,h1,h2⟩:=Um.mp h
    obtain⟨y,e,h3⟩:=des_mem.mp h1
    cases de with
    |num i=>cases h2
    |op w a b=>cases h2
    |app w f xs =>
     have h2:r∈opt (decide (w="make"\/w="func"\/w="ask") && decide (x∈xs)) "put" ++ opt (decide (w="ask") && decide (f=x)) "asked":=h2
     rcases uz.mp h2 with h2|h2
     ·obtain⟨h2,_⟩:=opt_mem.mp h2
      rw[u9,decide_eq_true_eq,decide_eq_true_eq]at h2
      exact Zn hd hk h3 (r:="put") (.inl ⟨h2.1,⟨x,h2.2,px⟩,rfl⟩)
     ·obtain⟨h2,_⟩:=opt_mem.mp h2
      rw[u9,decide_eq_true_eq,decide_eq_true_eq]at h2
      exact Zn hd hk h3 (r:="asked") (.inr ⟨h2.1,by rw[h2.2];exact px,rfl⟩)
  ·exact XT hd hk (.inl (((wf dfs).hd _).mpr (.inr (byF_iff.mp (opt_mem.mp h).1))))
 ·obtain⟨c,h1,h2⟩:=Ue.mp (opt_mem.mp h).1
  cases c with
  |give y=>cases h2
  |lt y d' e=>cases h2
  |iff y a b=>cases h2
  |case y as =>
   have h2:(decide (y=x) && as.ways.any (larm x))=true:=h2
   rw[u9,decide_eq_true_eq]at h2
   obtain⟨e,h2⟩:=h2
   subst e
   have nb':=Bd.all_binds d.b h1 nb
   rw[Bd.binds]at nb'
   exact Zn hd hk h1 (r:="anew") ⟨by rw[zaz nb'];exact h2,px,rfl⟩
theorem YZ(hd:d∈dfs)(nd:d.ns.Nodup)(hx:d.ns[k]?=some x)(nb:x∉d.b.binds)(h:(d.z,k)∉(z9 dfs).map Rw.key):wF dfs d x=[]:=by
 cases e:wF dfs d x with
 |nil=>rfl
 |cons r l=>exact absurd (YY hd nd hx nb (by rw[e];exact uJ)) h
theorem call1_mem{f:Str}{xs:List Str}{j:Nat}{c:Str×Nat}:c∈yQ f x xs j↔xs[j]?=some x/\c=(f,j):=by
 unfold yQ
 by_cases h:xs[j]?=some x
 ·rw[if_pos h,ui];exact⟨fun e=>⟨h,e⟩,fun e=>e.2⟩
 ·rw[if_neg h];exact⟨(fun e=>by cases e),(fun e=>absurd e.1 h)⟩
theorem WH{c:Str×Nat}(h:c∈wZ d x):∃y xs e,Bd.lt y (.app "call" c.1 xs) e∈d.b.all/\xs[c.2]?=some x:=by
 unfold wZ at h
 obtain⟨de,h1,h2⟩:=Um.mp h
 obtain⟨y,e,h3⟩:=des_mem.mp h1
 cases de with
 |num i=>cases h2
 |op w a b=>cases h2
 |app w f xs =>
  have h2:c∈(if w="call"then(uE xs.length).flatMap (yQ f x xs)else[]):=h2
  split at h2
  ·rename_i ew
   obtain⟨j,_,h5⟩:=Um.mp h2
   obtain⟨h6,rfl⟩:=call1_mem.mp h5
   subst ew
   exact⟨y,xs,e,h3,h6⟩
  ·cases h2
theorem WI(hd:d∈dfs)(nd:d.ns.Nodup)(hx:d.ns[k]?=some x)(h:(d.z,k)∉(z9 dfs).map Rw.key){c:Str×Nat}(hc:c∈wZ d x):c∉(z9 dfs).map Rw.key:=by
 intro m
 obtain⟨y,xs,e,h1,h2⟩:=WH hc
 obtain⟨s,hs,rfl⟩:=uC.mp m
 refine h (Z4 hs (((wf dfs).c _ _ _).mpr (.inr ⟨d,hd,_,h1,k,?_,rfl⟩)))
 exact⟨rfl,rfl,x,h2,XS nd hx⟩
end
def RkAt(H:Hp)(l:List Rw)(ts:List Addr):Prop:=All2 (fun(c:Rw) t=>H t=some (.tup [.str c.z,.int ((c.k:Nat):Int)])) l ts
theorem RkAt.keep{H H':Hp}{l:List Rw}{ts:List Addr}(h:RkAt H l ts)(t:Tups H H'):RkAt H' l ts:=All2.imp h fun _ _ e=>t _ _ e
def keyI(r:Rw):Str×Int:=(r.z,((r.k:Nat):Int))
theorem Z9{l:List Rw}{z:Str}{k:Nat}:decide ((z,((k:Nat):Int))∈l.map keyI)=decide ((z,k)∈l.map Rw.key):=by
 refine decide_eq_decide.mpr ⟨fun h=>?_,fun h=>?_⟩
 ·obtain⟨r,a,b⟩:=uC.mp h
  refine uC.mpr ⟨r,a,?_⟩
  unfold keyI at b
  unfold Rw.key
  obtain⟨b1,b2⟩:=Prod.mk.inj b
  rw[b1]
  have:r.k=k:=by lia
  rw[this]
 ·obtain⟨r,a,b⟩:=uC.mp h
  refine uC.mpr ⟨r,a,?_⟩
  unfold Rw.key at b
  unfold keyI
  obtain⟨b1,b2⟩:=Prod.mk.inj b
  rw[b1,b2]
theorem jC{cs:List (Str×Nat)}{st:US}(hC:Cin cs st):∀(f a:Nat)(rows:List Rw),(runR st f a rows).length<=rows.length+unk cs rows
 |0,a,rows=>Ux _ _
 |f+1,a,rows=>by
  unfold runR
  split
  ·exact Ux _ _
  ·rename_i r _
   have h1:=jC hC f (a+1) (xA st rows r)
   have h2:=(yY (cs:=cs) (g:=r.z) (j:=r.k) (l:=st.C r.z r.k) (rows:=rows) (hC r.z r.k)).1
   unfold xA at h1 ⊢
   lia
theorem WJ(dfs:List Df):(z9 dfs).length<=2*(cand dfs).length:=by
 have h1:=jC (Cin.of dfs) (unk (cand dfs) (ownR (zS dfs) dfs)+(ownR (zS dfs) dfs).length) 0 (ownR (zS dfs) dfs)
 have h2:=wb (zS dfs) dfs
 have h3:=Jz (cand dfs) (ownR (zS dfs) dfs)
 unfold z9
 lia
structure PrR(n:Nat)(dfs:List Df):Prop where
 b:PrB dfs
 d:∀d∈dfs,d.b.dp<=n/\d.b.sz<=100000
 n:∀d∈dfs,d.ns.Nodup/\∀x∈d.ns,x∉d.b.binds
def XU(n:Nat)(T1 T2:Addr):Sp:=fun vs H Q _=>∃(p:Addr)(dfs:List Df),vs=[.ref p]/\PrOk H p dfs/\PrR n dfs/\Tbs T1 T2 H/\∀H',KM (MT T1 T2) H H'->Tbs T1 T2 H'->Q (.bl true) H'
section
variable{P:Program}{w:World}{K:ub}{mg:Str->Option Value}{base:Heap}{f:Addr}{fd:FuncData}
theorem scRight:FnScope ["_law_program_here","_law_k","_law_reason","_law_rows","_law_one"] ["_law_program_here"] (zo j5):=.ok
theorem Zo:(["_law_program_here","_law_k","_law_reason","_law_rows","_law_one","_law_name_here"]:List Str).Nodup:=by decide +kernel
theorem JN{n k0:Nat}{T1 T2:Addr}(hk0:12<=k0/\(1+n)+1+1+1<=k0)(F:Fun K "_law_right" "_law_right" j5 f fd)(GR:Ca P w K mg base CX0 12 "reasons" ["program"] (jw T1 T2))(GD:Ca P w K mg base CX0 ((1+n)+1+1+1) "_law_direct" lS15 (Z7 n))(GC:Ca P w K mg base CX0 ((1+n)+1+1) "_law_calls" lS24 (XR n))(m_range:mg "range"=none)(m_len:mg "len"=none):FnOk P w K mg base CX0 (k0+1) f fd ["_law_program_here"] (XU n T1 T2):=by
 refine F.by scRight (fun vs H Q E h=>?_) (fun cdv A outer s H vs Q E hr h=>?_)
 ·obtain⟨p,dfs,rfl,_⟩:=h
  rfl
 obtain⟨p,dfs,rfl,hp,hR,hT,q⟩:=h
 have hr1:Room 1 _:=hr.mono (by lia)
 have hr12:Room 12 _:=hr.mono hk0.1
 have hrD:Room ((1+n)+1+1+1) _:=hr.mono hk0.2
 have hrC:Room ((1+n)+1+1) _:=hr.mono (by lia)
 refine⟨_,
  (zg (vk [1,2] ["_law_name_here"] (i:=3) scRight.nd rfl (Or.inl rfl) rfl (zF (cA GR hr12 (jA1 (jv 0)))) (fun _ _ _ _ _=>(xw K (n:=3) rfl (zt (gN 5 Zo) (zt (gN 1 Zo) (zt (gN 2 Zo) zL))))) (fun _ _ _ _ _=>zR) (fun _ _ _ _ _=>(zq (jA2 (jv 5) (jv 1)))))
  (zg (zJ PassesOwn.never rfl (yK (xT 0)) (gN 4 scRight.nd)
   (zh (zJ PassesOwn.never rfl (zQ rfl m_range (jA1 (jL m_len (xT 4)))) (gN 1 scRight.nd)
    (zh (zy (yj (WF hr1) (zq (jA2 (xT 4) (jv 1))) (jv 3) (by with_unfolding_all rfl))
     (zg (zy (tN (Yr hr1) (cA GD hrD (jA3 (jv 0) (jv 4) (xX zY (xT 4) (jv 1)))) (zB zD))
      (zh (zu yC)) zv)
     (zh (zJ PassesOwn.never rfl (zF (cA GC hrC (jA2 (jv 4) (xX zY (xT 4) (jv 1))))) (gN 2 scRight.nd)
      (zh (zy (yj (zcC hr1) (yJ wX (jv 2) (y8 zj) y0) (jv 3) (by with_unfolding_all rfl))
       (zh (zu yC)) zv)))))
     zv)))))
  (zh (zu yC)))),?_⟩
 have sl:=zE
 refine⟨_,rfl,p,dfs,rfl,hp,hR.b,hT,fun H4 r ps k4 T4 hr4 hR4=>?_⟩
 have rl:=All2.len hR4
 have rb:(z9 dfs).length<=200000:=by
  have h1:=WJ dfs
  have:=hR.b.l
  lia
 have P4:=hp.keep (hT.tups k4)
 refine⟨r,rfl,⟨_,SqL.of hr4⟩,zX (xs:=ps.map V.ref) (fun j τ ys H'=>Same H4 H'/\(∃x y z,τ=[some (.ref p),x,y,none,none,z])/\∃ts:List Addr,ys=ts.map V.ref/\RkAt H' ((z9 dfs).take j) ts) ⟨fun _ _ h=>h,⟨_,_,_,rfl⟩,[],rfl,.nil⟩ (fun j τ ys H' _ h=>SqL.of (h.1 _ _ hr4)) ?_ ?_⟩
 ·rintro j v τ ys H5 hv ⟨s5,⟨x,y,z,rfl⟩,ts,rfl,hk⟩
  rw[ue]at hv
  obtain⟨t,ht,rfl⟩:=uh.mp hv
  obtain⟨rw1,hrw,q1,ht1,-⟩:=All2.get hR4 ht
  have kl:=All2.len hk
  rw[uD]at kl
  have hj:=(uc.mp hrw).1
  refine⟨t,_,rfl,SqT.of (s5 _ _ ht1),rfl,_,_,rfl,_,_,rfl,_,_,rfl,rfl,?_⟩
  refine⟨_,rfl,_,rfl,sN2,fun tk htk=>?_⟩
  have s6:=zn (o:=.tup [.str rw1.z,.int ((rw1.k:Nat):Int)]) htk
  refine⟨by rw[ua];lia,s5.new htk,⟨_,_,_,rfl⟩,ts++[tk],by simp,?_⟩
  rw[uv,hrw]
  exact All2.app (hk.keep (.of (s6))) (.cons upd_same .nil)
 rintro τ ys H5 ⟨s5,-,ts,rfl,hk⟩ lr hlr
 rw[ua,<- rl,uj (ud _)]at hk
 have s6:=s5.new (o:=.lst (ts.map V.ref)) hlr
 have hlr6:=upd_same (H:=H5) (a:=lr) (o:=.lst (ts.map V.ref))
 have hk6:=hk.keep (.of (zn (o:=.lst (ts.map V.ref)) hlr))
 show(tSeq _ _:TS) _ _ (upd H5 lr (.lst (ts.map V.ref)))
 generalize upd H5 lr (.lst (ts.map V.ref))=H6 at *
 have T6:=T4.same s6
 have P6:=P4.keep (.of s6)
 have ekl:=All2.len hk6
 have prs:∀{H':Hp},Same H6 H'->∀(i:Nat)(t:Addr),ts[i]?=some t->∃c,((z9 dfs).map keyI)[i]?=some c/\H' t=some (.tup [.str c.1,.int c.2]):=fun{H'} s' i t h'=>by
  obtain⟨c,c1,c2⟩:=All2.get hk6 h'
  exact⟨keyI c,by rw[ue,c1];rfl,s' _ _ c2⟩
 have klen:((z9 dfs).map keyI).length=ts.length:=by rw[ua];exact ekl
 have DB:DpB n dfs:=⟨fun d hd=>⟨(hR.d d hd).1,Ua (hR.d d hd).2 (by decide)⟩⟩
 obtain⟨pk,pd,ds,e1,e2,hF⟩:=P6.ex
 refine⟨_,rfl,ixT e1 aI1 ⟨pd,rfl,⟨_,SqT.of e2⟩,yO (xs:=ds.map V.ref) (fun i σ H'=>Same H6 H'/\∃v1 v2 v4,σ=[some (.ref p),v1,v2,some (.ref lr),v4]) ⟨fun _ _ h=>h,_,_,_,rfl⟩ (fun i σ H' _ h=>SqT.of (h.1 _ _ e2)) ?_ ?_⟩⟩
 ·rintro i v σ H7 hv ⟨s7,v1,v2,v4,rfl⟩
  rw[ue]at hv
  obtain⟨t,ht,rfl⟩:=uh.mp hv
  obtain⟨d,hd,hFd⟩:=hF.get ht
  have dm:=uo hd
  obtain⟨qn,pb,g1,g2,g3⟩:=hFd.ex
  have dns:=(hR.b.b d dm).2
  obtain⟨nd,nb⟩:=hR.n d dm
  refine⟨_,rfl,ixT (s7 _ _ g1) aI1 ⟨qn,_,rfl,.inr (SqT.of (s7 _ _ g2)),_,rfl,by lia,by rw[ua];lia,?_⟩⟩
  rw[show(((d.ns.map V.str).length:Nat):Int).toNat=d.ns.length by rw[ua];rfl]
  refine yT (n:=d.ns.length) (fun j σ H'=>Same H6 H'/\∃v1 v2,σ=[some (.ref p),v1,v2,some (.ref lr),some (.ref t)]) ⟨s7,_,_,rfl⟩ ?_ ?_
  ·rintro j σ H8 hj ⟨s8,v1,v2,rfl⟩
   rw[tH]
   obtain⟨x,hx⟩:∃x,d.ns[j]?=some x:=⟨_,uk hj⟩
   have hat:atI (d.ns.map V.str) ((j:Nat):Int)=some (.str x):=zP (by rw[ue,hx];rfl)
   refine⟨_,rfl,ixT (s8 _ _ g1) aI0 ⟨_,rfl,sN2,fun tk htk=>?_⟩⟩
   have s9:=s8.new (o:=.tup [.str d.z,.int ((j:Nat):Int)]) htk
   have htk9:=upd_same (H:=H8) (a:=tk) (o:=.tup [.str d.z,.int ((j:Nat):Int)])
   generalize upd H8 tk (.tup [.str d.z,.int ((j:Nat):Int)])=H9 at *
   refine⟨_,rfl,tk,lr,d.z,_,(z9 dfs).map keyI,ts,rfl,rfl,htk9,s9 _ _ hlr6,prs s9,klen,_,rfl,?_⟩
   rw[Z9]
   by_cases cin:(d.z,j)∈(z9 dfs).map Rw.key
   ·rw[decide_eq_true cin]
    exact iteF ⟨s9,_,_,rfl⟩
   rw[decide_eq_false cin]
   refine iteT ?_
   have en:=YZ dm nd hx (nb x (uo hx)) cin
   refine⟨_,rfl,_,rfl,_,rfl,ixT (s9 _ _ g1) aI1 ⟨_,rfl,qn,_,_,_,rfl,rfl,SqT.of (s9 _ _ g2),hat,p,t,x,dfs,d,rfl,P6.keep (.of s9),DB,hFd.keep (.of s9),dm,fun H10 rd s10 hFo=>?_⟩⟩
   rw[en]at hFo
   obtain⟨zs,f1,f2⟩:=hFo
   cases f2
   refine⟨sN0,fun le hle=>?_⟩
   have s11:=(s9.trans s10).new (o:=.lst []) hle
   have f11:=old (o:=.lst []) hle f1
   have hle11:=upd_same (H:=H10) (a:=le) (o:=.lst [])
   generalize upd H10 le (.lst [])=H11 at *
   refine⟨rd,le,_,rfl,rfl,SqL.of f11,SqL.of hle11,_,rfl,iteF ?_⟩
   refine⟨_,rfl,_,rfl,ixT (s11 _ _ g1) aI1 ⟨_,rfl,qn,_,_,_,rfl,rfl,SqT.of (s11 _ _ g2),hat,t,x,d,rfl,hFd.keep (.of s11),(hR.d d dm).1,(hR.d d dm).2,fun H12 rc cps s12 hrc hCo=>?_⟩⟩
   have s612:=s11.trans s12
   refine⟨rc,rfl,⟨_,SqL.of hrc⟩,yn (xs:=cps.map V.ref) (fun m σ H'=>Same H12 H'/\∃v2,σ=[some (.ref p),some (.int ((j:Nat):Int)),v2,some (.ref lr),some (.ref t)]) ⟨fun _ _ h=>h,_,rfl⟩ (fun m σ H' _ h=>SqL.of (h.1 _ _ hrc)) ?_ ?_⟩
   ·rintro m v σ H13 hv ⟨s13,v2,rfl⟩
    rw[ue]at hv
    obtain⟨tr,htr,rfl⟩:=uh.mp hv
    obtain⟨c,c1,c2⟩:=All2.get hCo htr
    have out:=WI dm nd hx cin (uo c1)
    refine⟨_,rfl,_,rfl,tr,_,rfl,s13 _ _ c2,fun p3 H14 s14 hp3=>?_⟩
    rw[show cutV [V.str "called",V.str c.1,V.int ((c.2:Nat):Int)] (some 1) none=[V.str c.1,V.int ((c.2:Nat):Int)]from rfl]at hp3
    have s614:Same H6 H14:=fun b u e=>s14 _ _ (s13 _ _ (s612 _ _ e))
    refine⟨_,rfl,p3,lr,c.1,_,(z9 dfs).map keyI,ts,rfl,rfl,hp3,s614 _ _ hlr6,prs s614,klen,_,rfl,?_⟩
    rw[Z9,decide_eq_false out]
    exact iteF ⟨fun b u e=>s14 _ _ (s13 _ _ e),_,rfl⟩
   rintro σ H13 ⟨s13,v2,rfl⟩
   exact⟨s612.trans s13,_,_,rfl⟩
  rintro σ H8 ⟨s8,v1,v2,rfl⟩
  exact⟨s8,_,_,_,rfl⟩
 rintro σ H7 ⟨s7,v1,v2,v4,rfl⟩
 exact q _ ((k4.trans (.of s6)).trans (.of s7)) (T6.same s7)
def w4(K:ub):Sp:=fun vs H Q _=>∃(st sc:Addr)(y:Str)(B:Nat)(l:List (Str×Int)),vs=[.ref st,.ref sc,.str y]/\Sta K H st B/\B+2 < LIM/\Sc H l sc/\(∃p∈l,p.1≠y)/\∀(H':Hp)(x:Str),Kp st H H'->Sta K H' st (B+2)->x∈l.map (·.1)->Q (.str x) H'
theorem scOther:FnScope ["_law_state","_law_scope","_law_x","_law_some"] lS11 (zo YC):=.ok
theorem w5:(["_law_state","_law_scope","_law_x","_law_some","_law_name_here","_law_sort"]:List Str).Nodup:=by decide +kernel
theorem JO(F:Fun K "_law_other" "_law_other" YC f fd)(GD:Ca P w K mg base CX0 1 "_law_draw" lS2 (yq K))(m_len:mg "len"=none):FnOk P w K mg base CX0 2 f fd lS11 (w4 K):=by
 refine F.by scOther (fun vs H Q E h=>?_) (fun cdv A outer s H vs Q E hr h=>?_)
 ·obtain⟨st,sc,y,B,l,rfl,_⟩:=h
  rfl
 obtain⟨st,sc,y,B,l,rfl,S0,hB,hSc,hne,q⟩:=h
 obtain⟨⟨ts,hsc,hT⟩,hn,_⟩:=hSc
 refine⟨_,
  (zg (yp ["_law_name_here","_law_sort"] (i:=3) scOther.nd rfl (Or.inl rfl) rfl (zF (jv 1)) (fun _ _ _ _ _=>(xw K (n:=2) rfl (zt (gN 4 w5) (zt (gN 5 w5) zL)))) (fun _ _ _ _ _=>(yG (tN Xe (jv 4) (jv 2)))) (fun _ _ _ _ _=>(jv 4)))
  (zg (zy (tN zA (cA GD hr (jA2 (jv 0) zj)) zj)
   (zh (yp ["_law_name_here","_law_sort"] (i:=3) scOther.nd rfl (Or.inl rfl) rfl (zF (jv 1)) (fun _ _ _ _ _=>(xw K (n:=2) rfl (zt (gN 4 w5) (zt (gN 5 w5) zL)))) (fun _ _ _ _ _=>zR) (fun _ _ _ _ _=>(jv 4)))) zv)
  (zh (zu (xX zH (jv 3) (zx ym (zx ym (jL m_len (jv 3)) zj) (cA GD hr (jA2 (jv 0) (jL m_len (jv 3)))))))))),?_⟩
 have sl:=zE
 have LM:LIM=4611686018427387904:=rfl
 have htl:=hT.len
 have hl0:l≠[]:=fun e=>by obtain⟨p,h,_⟩:=hne;rw[e]at h;cases h
 refine(show ∀(u:TS)(D:Ends),(∀(H':Hp)(p:Addr)(xs:List Str),Kp st H H'->Sta K H' st (B+1)->H' p=some (.lst (xs.map V.str))->xs≠[]->xs.length<=1000->(∀x∈xs,x∈l.map (·.1))->u D [some (.ref st),some (.ref sc),some (.str y),some (.ref p)] H')->(tSeq _ (tSeq _ u):TS) D _ H from ?key) _ _ ?rest
 case key =>
  intro u D tail
  refine⟨_,rfl,_,rfl,⟨_,SqL.of hsc⟩,zX (xs:=ts.map V.ref) (fun j τ ys H'=>H=H'/\(∃u v,τ=[some (.ref st),some (.ref sc),some (.str y),none,u,v])/\ys=((l.take j).filter fun a=>!decide (V.str a.1=V.str y)).map fun a=>V.str a.1) ⟨rfl,⟨none,none,rfl⟩,rfl⟩ (fun j τ ys H' _ h=>by rw[<- h.1];exact SqL.of hsc) ?_ ?_⟩
  ·rintro j v τ ys H3 hv ⟨rfl,⟨u,v',rfl⟩,rfl⟩
   rw[ue]at hv
   obtain⟨tq,htq,rfl⟩:=uh.mp hv
   obtain⟨a,n,e1,e2⟩:=hT.get htq
   have hj:j < l.length:=(uc.mp e1).1
   have tf:=xm (fun a:Str×Int=>!decide (V.str a.1=V.str y)) e1
   refine⟨_,_,rfl,SqT.of e2,rfl,_,_,rfl,_,_,rfl,rfl,_,rfl,_,rfl,rfl,_,rfl,?_⟩
   refine ite2 (fun c=>?_) (fun c=>?_)
   ·refine⟨_,rfl,?_,rfl,⟨_,_,rfl⟩,?_⟩
    ·rw[ua]
     have:=U0 (fun a:Str×Int=>!decide (V.str a.1=V.str y)) (l.take j)
     rw[uD]at this
     lia
    ·rw[tf,if_pos c,uq]
     rfl
   ·refine⟨rfl,⟨_,_,rfl⟩,?_⟩
    rw[tf,if_neg c,uu]
  rintro τ ys H3 ⟨rfl,_,rfl⟩ p1 hp1
  rw[ua,<- htl,uj (ud _)]
  have hfe:l.filter (fun a:Str×Int=>!decide (V.str a.1=V.str y))≠[]:=fun e=>by
   obtain⟨p,h1,h2⟩:=hne
   have:p∈l.filter (fun a:Str×Int=>!decide (V.str a.1=V.str y)):=UT.mpr ⟨h1,by rw[decide_eq_false (fun z=>h2 (V.str.inj z))];rfl⟩
   rw[e]at this
   cases this
  have hfl:(l.filter (fun a:Str×Int=>!decide (V.str a.1=V.str y))).length<=l.length:=U0 ..
  generalize hf:l.filter (fun a:Str×Int=>!decide (V.str a.1=V.str y))=fl at *
  have hfm:∀x∈fl.map (·.1),x∈l.map (·.1):=fun x hx=>by
   obtain⟨a,h1,h2⟩:=uC.mp hx
   rw[<- hf]at h1
   exact uC.mpr ⟨a,(UT.mp h1).1,h2⟩
  have em:(fl.map fun a=>V.str a.1)=(fl.map (·.1)).map V.str:=by rw[tQ];rfl
  rw[em]
  have k1:Kp st H (upd H p1 (.lst ((fl.map (·.1)).map V.str))):=Kp.refl.new hp1
  have S1:=S0.new hp1 (.lst ((fl.map (·.1)).map V.str))
  have h1:=upd_same (H:=H) (a:=p1) (o:=.lst ((fl.map (·.1)).map V.str))
  show(tSeq _ _:TS) _ _ (upd H p1 (.lst ((fl.map (·.1)).map V.str)))
  generalize upd H p1 (.lst ((fl.map (·.1)).map V.str))=H4 at *
  refine⟨_,rfl,st,8,B,rfl,S1,by lia,by decide,fun H6 r k6 S6 _ _=>?_⟩
  have k26:=k1.trans k6
  refine⟨rfl,_,rfl,?_⟩
  refine ite2 (fun _=>?_) (fun _=>?_)
  ·obtain⟨hsc2,hT2⟩:H6 sc=some (.lst (ts.map V.ref))/\Tps H6 l ts:=⟨(k26).k _ _ (S0.neR hsc) hsc,hT.keep ((k26).tups S0)⟩
   refine⟨_,rfl,_,rfl,⟨_,SqL.of hsc2⟩,zX (xs:=ts.map V.ref) (fun j τ ys H'=>H6=H'/\(∃u v,τ=[some (.ref st),some (.ref sc),some (.str y),some (.ref p1),u,v])/\ys=(l.take j).map fun a=>V.str a.1) ⟨rfl,⟨none,none,rfl⟩,rfl⟩ (fun j τ ys H' _ h=>by rw[<- h.1];exact SqL.of hsc2) ?_ ?_⟩
   ·rintro j v τ ys H3 hv ⟨rfl,⟨u,v',rfl⟩,rfl⟩
    rw[ue]at hv
    obtain⟨tq,htq,rfl⟩:=uh.mp hv
    obtain⟨a,n,e1,e2⟩:=hT2.get htq
    have hj:j < l.length:=(uc.mp e1).1
    refine⟨_,_,rfl,SqT.of e2,rfl,_,_,rfl,_,_,rfl,rfl,_,rfl,?_,rfl,⟨_,_,rfl⟩,vG (fun a:Str×Int=>V.str a.1) e1⟩
    rw[ua,uD]
    lia
   ·rintro τ ys H3 ⟨rfl,_,rfl⟩ p2 hp2
    rw[ua,<- htl,uj (ud _)]
    have em:(l.map fun a=>V.str a.1)=(l.map (·.1)).map V.str:=by rw[tQ];rfl
    rw[em]
    exact tail _ p2 (l.map (·.1)) ((k26).new hp2) (((S6).mono (by lia)).new hp2 _) upd_same (by simpa using hl0) (by rw[ua];exact hn) (fun x hx=>hx)
  ·exact tail _ p1 (fl.map (·.1)) k26 S6 (k6.k _ _ (S1.neS h1) h1) (by simpa using hfe) (by rw[ua];lia) hfm
 case rest =>
  intro H' p xs kp S1 hp hx hxl hm
  have h0:0 < xs.length:=UM.mpr hx
  refine⟨_,rfl,_,rfl,_,_,rfl,.inl (SqL.of hp),_,_,rfl,rfl,_,rfl,_,rfl,_,_,rfl,.inl (SqL.of hp),st,_,_,rfl,S1,by lia,(by rw[ua];lia),fun H2 r k2 S2 r0 r1=>?_⟩
  rw[ua]at r1
  have hi:xs.length-1-r.toNat < xs.length:=by lia
  have e:atI (xs.map V.str) ((((xs.map V.str).length:Nat):Int)-1-r)=some (.str xs[xs.length-1-r.toNat]):=by
   have g:(xs.map V.str)[xs.length-1-r.toNat]?=some (.str xs[xs.length-1-r.toNat]):=by rw[ue,uk hi];rfl
   have g2:=zP g
   rw[show(((xs.length-1-r.toNat:Nat)):Int)=(((xs.map V.str).length:Nat):Int)-1-r by rw[ua];lia]at g2
   exact g2
  refine⟨_,_,rfl,rfl,p,_,_,_,rfl,rfl,SqL.of (k2.k _ _ (S1.neS hp) hp),e,q _ _ (kp.trans k2) S2 (hm _ (tR hi))⟩
def vU(K:ub):Sp:=fun vs H Q _=>∃(st w sc:Addr)(k:Nat)(y:Str)(size:Int)(B:Nat)(l:List (Str×Int))(o:Wo),vs=[.ref st,.ref w,.ref sc,.int (k:Nat),.str y,.int size]/\Sta K H st B/\B+25 < LIM/\IsW H o w/\Sc H l sc/\(∃p∈l,p.1≠y)/\k < 900/\∀(H':Hp)(p:Addr)(b:Bd),Kp st H H'->Sta K H' st (B+25)->IsB H' b p->b.sz<=2->b.dp<=2->Bnm o k 900 b.binds->Q (.ref p) H'
theorem scLM:FnScope ["_law_state","_law_world_here","_law_scope","_law_k","_law_x","_law_size","_law_want","_law_some","_law_tag","_law_sorts_here","_law_kind","_law_names"] lS4 (zo wy):=.ok
theorem ndLM:(["_law_state","_law_world_here","_law_scope","_law_k","_law_x","_law_size","_law_want","_law_some","_law_tag","_law_sorts_here","_law_kind","_law_names","_law_one"]:List Str).Nodup:=by decide +kernel
theorem Ya(F:Fun K "_law_last_make" "_law_last_make" wy f fd)(GD:Ca P w K mg base CX0 1 "_law_draw" lS2 (yq K))(GN':Ca P w K mg base CX0 1 "_law_name" lS3 spNm)(GO:Ca P w K mg base CX0 2 "_law_other" lS11 (w4 K))(m_len:mg "len"=none)(m_tuple:mg "tuple"=none):FnOk P w K mg base CX0 3 f fd lS4 (vU K):=by
 refine F.by scLM (fun vs H Q E h=>?_) (fun cdv A outer s H vs Q E hr h=>?_)
 ·obtain⟨st,w,sc,k,y,size,B,l,o,rfl,_⟩:=h
  rfl
 obtain⟨st,w0,sc,k,y,size,B,l,o,rfl,S0,hB,hW,hSc,hne,hk,q⟩:=h
 have hr1:Room 1 _:=hr.mono (by decide)
 refine⟨_,
  (zg (sE 6 scLM.nd (zx zW (jv 5) (xX zH (zB (jA5 zj zj zj zj (xC zj))) (cA GD hr1 (jA2 (jv 0) zj)))))
  (zg (yp ["_law_one"] (i:=7) scLM.nd rfl (Or.inl rfl) rfl (zF (xL 1)) (fun _ _ _ _ _=>(gN 12 ndLM)) (fun _ _ _ _ _=>(yG (tN zA (xE (xk K) rfl m_len PySem.boot_len (jA1 (zT (yb K) (jv 12) zj (fun _ _=>rfl)))) (jv 6)))) (fun _ _ _ _ _=>(jv 12)))
  (zg (zy (tN (jV hr1) (jv 7) (zB zD)) (zh (sE 7 scLM.nd (xL 1))) zv)
  (zg (yR (xX zH (jv 7) (cA GD hr1 (jA2 (jv 0) (jL m_len (jv 7))))) (yi rfl (zt (gN 8 scLM.nd) (zt (gN 9 scLM.nd) (zt (gN 10 scLM.nd) zL)))))
  (zg (sE 11 scLM.nd (yv zN rfl m_tuple u0 (jA1 (yk ["_law_one"] rfl (zF (jv 9)) (fun _ _ _ _ _=>(gN 12 ndLM)) (fun _ _ _ _ _=>zR) (fun _ _ _ _ _=>(cA GO hr (jA3 (jv 0) (jv 2) (jv 4))))))))
  (zh (zu (zq (jA4 zp (cA GN' hr1 (jA2 (jv 1) (jv 3))) (zq (jA3 zp (jv 8) (jv 11))) (zq (jA2 zp (cA GN' hr1 (jA2 (jv 1) (jv 3)))))))))))))),?_⟩
 have sl:=zE
 have LM:LIM=4611686018427387904:=rfl
 refine(show ∀(u:TS)(D:Ends),(∀(H':Hp)(want:Int)(p:Addr)(fs:List Addr)(fl:TS3),Kp st H H'->Sta K H' st (B+1)->H' p=some (.lst (fs.map V.ref))->Tri H' fl fs->fl≠[]->fl.length<=4->(∀p∈fl,p.2.1.length<=9)->u D [some (.ref st),some (.ref w0),some (.ref sc),some (.int (k:Nat)),some (.str y),some (.int size),some (.int want),some (.ref p),none,none,none,none] H')->(tSeq _ (tSeq _ (tSeq _ u)):TS) D _ H from ?key) _ _ ?rest
 case key =>
  intro u D tail
  refine⟨_,rfl,_,rfl,sN5,fun ll hll=>?_⟩
  have k1:Kp st H (upd H ll (.lst ([0,0,0,1,-1].map V.int))):=Kp.refl.new hll
  have S1:=S0.new hll (.lst ([0,0,0,1,-1].map V.int))
  have hll1:=upd_same (H:=H) (a:=ll) (o:=.lst ([0,0,0,1,-1].map V.int))
  refine⟨_,rfl,st,5,B,rfl,S1,by lia,by decide,fun H2 r k2 S2 r0 r1=>?_⟩
  have hi:r.toNat < ([0,0,0,1,-1]:List Int).length:=by show r.toNat < 5;lia
  have hat:atI (([0,0,0,1,-1]:List Int).map V.int) r=some (.int ([0,0,0,1,-1]:List Int)[r.toNat]):=by
   have g:(([0,0,0,1,-1]:List Int).map V.int)[r.toNat]?=some (.int ([0,0,0,1,-1]:List Int)[r.toNat]):=by rw[ue,uk hi];rfl
   have g2:=zP g
   rw[UX r0]at g2
   exact g2
  have hll2:=k2.k _ _ (S1.neI hll1) hll1
  refine⟨ll,_,_,_,rfl,rfl,SqL.of hll2,hat,_,_,rfl,rfl,?_⟩
  obtain⟨want,hwant⟩:∃want:Int,size+([0,0,0,1,-1]:List Int)[r.toNat]=want:=⟨_,rfl⟩
  show xg 6 (V.int (size+([0,0,0,1,-1]:List Int)[r.toNat])) _ _ _
  rw[hwant]
  have k02:=k1.trans k2
  clear hll1 hll2 hat hwant hi
  have W2:=hW.kp S0 k02
  have Sc2:=hSc.kp S0 k02
  obtain⟨⟨tl,dl,tt,ds,hw,htl1,hdl,hTt,hTd⟩,wok⟩:=id W2
  have tlen:=wok.tlen
  have htt:=hTt.len
  refine⟨_,rfl,ixL hw aI2 ⟨tl,rfl,⟨_,SqL.of htl1⟩,zX (xs:=tt.map V.ref) (fun j τ ys H'=>H2=H'/\(∃v,τ=[some (.ref st),some (.ref w0),some (.ref sc),some (.int (k:Nat)),some (.str y),some (.int size),some (.int want),none,none,none,none,none,v])/\∃fs:List Addr,ys=fs.map V.ref/\fs.length<=j/\Tri H2 ((o.tags.take j).filter fun p=>decide (V.int ((p.2.1.length:Nat):Int)=V.int want)) fs) ⟨rfl,⟨none,rfl⟩,[],rfl,ud _,.nil⟩ (fun j τ ys H' _ h=>by rw[<- h.1];exact SqL.of htl1) ?_ ?_⟩⟩
  ·rintro j v τ ys H4 hv ⟨rfl,⟨v',rfl⟩,fs,rfl,hj,hf⟩
   rw[ue]at hv
   obtain⟨t,ht,rfl⟩:=uh.mp hv
   obtain⟨z,ss,g,sq,e1,e2,e3⟩:=hTt.get ht
   have hjl:j < o.tags.length:=(uc.mp e1).1
   have tf:=xm (fun p:Str×List Int×Int=>decide (V.int ((p.2.1.length:Nat):Int)=V.int want)) e1
   refine⟨_,rfl,ixT e2 aI1 ⟨sq,_,rfl,.inl (SqL.of e3),_,rfl,rfl,_,rfl,?_⟩⟩
   have tf:(o.tags.take (j+1)).filter (fun p=>decide (V.int ((p.2.1.length:Nat):Int)=V.int want))=(o.tags.take j).filter (fun p=>decide (V.int ((p.2.1.length:Nat):Int)=V.int want))++(if decide (V.int ((ss.length:Nat):Int)=V.int want)=true then[(z,ss,g)]else[]):=tf
   refine ite2 (fun c=>?_) (fun c=>?_)
   ·rw[ua]at c
    refine⟨_,rfl,by rw[ua];lia,rfl,⟨_,rfl⟩,fs++[t],by simp,by simp;lia,?_⟩
    rw[tf,if_pos c]
    exact hf.app (.cons e2 e3 .nil)
   ·rw[ua]at c
    refine⟨rfl,⟨_,rfl⟩,fs,rfl,by lia,?_⟩
    rw[tf,if_neg c,uu]
    exact hf
  rintro τ ys H4 ⟨rfl,_,fs,rfl,_,hf⟩ p7 h7
  rw[ua,<- htt,uj (ud _)]at hf
  have ftl:∀p∈o.tags.filter (fun p=>decide (V.int ((p.2.1.length:Nat):Int)=V.int want)),p.2.1.length<=9:=fun p hp=>(wok.ts p (UT.mp hp).1).1
  have fll:(o.tags.filter (fun p=>decide (V.int ((p.2.1.length:Nat):Int)=V.int want))).length<=4:=by
   have:=U0 (fun p:Str×List Int×Int=>decide (V.int ((p.2.1.length:Nat):Int)=V.int want)) o.tags
   lia
  generalize o.tags.filter (fun p=>decide (V.int ((p.2.1.length:Nat):Int)=V.int want))=fl at *
  have hfl:=hf.len
  have k3:=k02.new (o:=.lst (fs.map V.ref)) h7
  have S3:=S2.new h7 (.lst (fs.map V.ref))
  have s3:=zn (o:=.lst (fs.map V.ref)) h7
  have h73:=upd_same (H:=H2) (a:=p7) (o:=.lst (fs.map V.ref))
  show(tSeq _ _:TS) _ _ (upd H2 p7 (.lst (fs.map V.ref)))
  generalize upd H2 p7 (.lst (fs.map V.ref))=H3 at *
  refine⟨_,rfl,sN0,fun le hle=>?_⟩
  have k4:=k3.new (o:=.lst []) hle
  have S4:=S3.new hle (.lst [])
  have s4:=s3.new (o:=.lst []) hle
  have h74:=old (o:=.lst []) hle h73
  have hle4:=upd_same (H:=H3) (a:=le) (o:=.lst [])
  generalize upd H3 le (.lst [])=H4 at *
  refine⟨p7,le,_,rfl,rfl,SqL.of h74,SqL.of hle4,_,rfl,?_⟩
  show if(fs.map V.ref).isEmpty=true then _ else _
  by_cases he:fs=[]
  ·rw[he]
   refine iteT ?_
   refine⟨_,rfl,ixL (s4 _ _ hw) aI2 ?_⟩
   exact tail _ want tl tt o.tags k4 S4 (s4 _ _ htl1) (hTt.keep (.of s4) fun _ _ e=>s4 _ _ e) (fun e=>by rw[e]at tlen;cases tlen) (by lia) (fun p hp=>(wok.ts p hp).1)
  ·have e0:(fs.map V.ref).isEmpty=false:=by
    cases fs with
    |nil=>exact absurd rfl he
    |cons _ _=>rfl
   rw[e0]
   exact iteF (tail _ want p7 fs fl k4 S4 h74 (hf.keep (.of s4) fun _ _ e=>s4 _ _ e) (fun e=>he (by rw[e]at hfl;exact Ut.mp hfl.symm)) fll ftl)
 case rest =>
  intro H3 want p7 fs fl k3 S3 h7 hf hne' fll ftl
  have hfl:=hf.len
  have h0:0 < fs.length:=by
   rw[<- hfl]
   exact UM.mpr hne'
  refine⟨_,rfl,_,rfl,_,rfl,p7,_,rfl,.inl (SqL.of h7),st,_,_,rfl,S3,by lia,(by rw[ua];lia),fun H4 r k4 S4 r0 r1=>?_⟩
  rw[ua]at r1
  have hi:r.toNat < fs.length:=by lia
  have hat:atI (fs.map V.ref) r=some (.ref fs[r.toNat]):=by
   have g:(fs.map V.ref)[r.toNat]?=some (.ref fs[r.toNat]):=by rw[ue,uk hi];rfl
   have g2:=zP g
   rw[UX r0]at g2
   exact g2
  obtain⟨z,ss,g,sq,e1,e2,e3⟩:=(hf.kp S3 k4).get (uk hi)
  have ss9:ss.length<=9:=ftl _ (uo e1)
  refine⟨p7,_,_,_,rfl,rfl,SqL.of (k4.k _ _ (S3.neR h7) h7),hat,_,_,rfl,SqT.of e2,rfl,_,_,rfl,_,_,rfl,_,_,rfl,rfl,?_⟩
  have k04:=k3.trans k4
  refine⟨_,rfl,_,rfl,⟨_,SqL.of e3⟩,zX (xs:=ss.map V.int) (fun i τ ys H'=>Kp st H4 H'/\Sta K H' st (B+2+2*i)/\(∃v,τ=[some (.ref st),some (.ref w0),some (.ref sc),some (.int (k:Nat)),some (.str y),some (.int size),some (.int want),some (.ref p7),some (.str z),some (.ref sq),some (.int g),none,v])/\∃xs:List Str,ys=xs.map V.str/\xs.length=i) ⟨Kp.refl,S4,⟨none,rfl⟩,[],rfl,rfl⟩ (fun i τ ys H' _ h=>SqL.of (h.1.k _ _ (S4.neI e3) e3)) ?_ ?_⟩
  ·rintro i v τ ys H5 hv ⟨k5,S5,⟨v',rfl⟩,xs,rfl,hxl⟩
   rw[ue]at hv
   obtain⟨m,hm,rfl⟩:=uh.mp hv
   have him:=(uc.mp hm).1
   exact⟨_,rfl,_,rfl,_,rfl,st,sc,y,_,l,rfl,S5,by lia,hSc.kp S0 (k04.trans k5),hne,fun H6 x k6 S6 hx=>⟨by rw[ua];lia,k5.trans k6,S6,⟨_,rfl⟩,xs++[x],by simp,by simp[hxl]⟩⟩
  rintro τ ys H5 ⟨k5,S5,-,xs,rfl,hxl⟩ lx hlx
  rw[ua]at S5 hxl
  refine⟨lx,_,rfl,.inl ⟨SqL.of upd_same,fun pu hpu=>?_⟩⟩
  have s7:Same H5 (upd (upd H5 lx (.lst (xs.map V.str))) pu (.tup (xs.map V.str))):=(zn hlx _).new hpu
  have hpu7:=upd_same (H:=upd H5 lx (.lst (xs.map V.str))) (a:=pu) (o:=.tup (xs.map V.str))
  have S7:=S5.same s7
  have k07:=(k04.trans k5).trans (.of s7)
  generalize upd (upd H5 lx (.lst (xs.map V.str))) pu (.tup (xs.map V.str))=H7 at *
  obtain⟨⟨tl,dl,tt,ds,hw,-⟩,wok⟩:=hW.kp S0 k07
  refine⟨_,rfl,_,rfl,w0,o.z,o.b,_,k,rfl,hw,wok.z,_,rfl,_,rfl,sN3,fun tm htm=>?_⟩
  have s8:=zn (o:=.tup [.str "make",.str z,.ref pu]) htm
  have htm8:=upd_same (H:=H7) (a:=tm) (o:=.tup [.str "make",.str z,.ref pu])
  generalize upd H7 tm (.tup [.str "make",.str z,.ref pu])=H8 at *
  refine⟨_,rfl,_,rfl,w0,o.z,o.b,_,k,rfl,s8 _ _ hw,wok.z,sN2,fun tg htg=>⟨sN4,fun tb htb=>?_⟩⟩
  have s10:Same H7 _:=(s8.new (o:=.tup [.str "give",.str (nm o.z o.b k)]) htg).new (o:=.tup [.str "let",.str (nm o.z o.b k),.ref tm,.ref tg]) htb
  have d10:IsDe _ (.app "make" z xs) tm:=.app ⟨by decide,by decide,by lia⟩ (old (o:=.tup [.str "let",.str (nm o.z o.b k),.ref tm,.ref tg]) htb (old (o:=.tup [.str "give",.str (nm o.z o.b k)]) htg htm8)) (s10 _ _ hpu7)
  refine q _ tb (.lt (nm o.z o.b k) (.app "make" z xs) (.give (nm o.z o.b k))) (k07.trans (.of s10)) ((S7.same s10).mono (by lia)) (.lt upd_same d10 (.give (old (o:=.tup [.str "let",.str (nm o.z o.b k),.ref tm,.ref tg]) htb upd_same))) (by rw[Bd.sz,Bd.sz];lia) (by rw[Bd.dp,Bd.dp];lia) (by rw[Bd.binds,Bd.binds];exact fun x hx=>⟨k,ud _,hk,ui.mp hx⟩)
end
end GN
namespace L2
open PySem
theorem JP{K:ub}{a:Addr}{xs:List V}{g:TG}{tb:TS}{D:Ends}{σ:St}{H:Hp}(Pv:Nat->St->Hp->Prop)(h0:Pv 0 σ H)(hl:∀i σ H,i<=xs.length->Pv i σ H->SqL K H a xs)
  (hs:∀i x T σ H,xs[i]?=some x->H T=none->Pv i σ H->g (.ref T) σ (upd H T (.tup [.int (i:Nat),x])) fun σ2 H2=>tb { D with nx:=Pv (i+1),ct:=Pv (i+1),bk:=D.nx } σ2 H2) (hd:∀σ H,Pv xs.length σ H->D.nx σ H) :
  ∃W:Nat->Nat->St->Hp->Prop,(∃m,W 0 m σ H)/\∀i m σ H,W i m σ H ->
   ((Ite K a).stop i H/\D.nx σ H)\/((Ite K a).go i H/\∃N:St->Hp->Prop,(∀σ' H',N σ' H'->∃m',m' < m/\W (i+1) m' σ' H')/\∀x H',(Ite K a).yld i H x H'->g x σ H' fun σ2 H2=>tb { D with nx:=N,ct:=N,bk:=D.nx } σ2 H2):=by
 refine⟨fun i m σ H=>m=xs.length-i/\i<=xs.length/\Pv i σ H,⟨xs.length,by simp,uX _,h0⟩,?_⟩
 rintro i m σ H ⟨rfl,hi,p⟩
 have q:=hl i σ H hi p
 by_cases hlt:i < xs.length
 ·refine .inr ⟨⟨xs,xs[i],q,by simp[hlt]⟩,Pv (i+1),fun σ' H' p'=>⟨xs.length-(i+1),by lia,rfl,hlt,p'⟩,fun x H' y=>?_⟩
  obtain⟨T,v,rfl,hT,rfl,e⟩:=y
  exact hs i v T σ H (e xs q) hT p
 ·have e:i=xs.length:=by lia
  subst e
  exact .inl ⟨⟨xs,q,ud _⟩,hd σ H p⟩
section
variable{X:Cx}
theorem JQ{i j:Nat}{x y:Str}{a b:Expr}{ta:TA}{px py pt pos:Pos}{kt k2 pt2}(hc:X.calm=true)(hN:X.N.Nodup)(hi:X.N[i]?=some x)(hj:X.N[j]?=some y)(hij:i≠j)(ha:jA X [a,b] ta)
  (hx:X.env.scope.names.lookup x=some .local:=by rfl) (hy:X.env.scope.names.lookup y=some .local:=by rfl) (hw:swappedStores [.Tuple [.Name x px,.Name y py] kt pt] (.Tuple [a,b] k2 pt2) X.env=pure (some [x,y]):=by rfl)
  (hs:swapsWithSole [.Tuple [.Name x px,.Name y py] kt pt] (.Tuple [a,b] k2 pt2) pos.line X.env=pure false:=by rfl):jS X (.Assign [.Tuple [.Name x px,.Name y py] kt pt] (.Tuple [a,b] k2 pt2) pos) (tPar i j ta):=⟨zbr hc hN hi hj hij hx hy ha.out hw hs⟩
end
end L2
namespace GN
open PySem L2 K11
def rk(steps size:Int):Nat:=steps.toNat+(if size < 0 then 5 else 1)
theorem zcG{a b:Int}:1<=rk a b:=by unfold rk;split<;>lia
def wH(K:ub)(n:Nat):Sp:=fun vs H Q _=>∃(st w sc:Addr)(k:Nat)(steps:Int)(y:Str)(size:Int)(B:Nat)(l:List (Str×Int))(o:Wo),vs=[.ref st,.ref w,.ref sc,.int (k:Nat),.int steps,.str y,.int size]/\Sta K H st B/\B+60*n < LIM/\IsW H o w/\Sc H l sc/\(∃p∈l,p.1≠y)/\0<=steps/\rk steps size<=n/\l.length+10*n<=900/\k+10*n<=900/\∀(H':Hp)(p:Addr)(b:Bd),Kp st H H'->Sta K H' st (B+60*n)->IsB H' b p->b.sz<=45*n->b.dp<=n+2->Bnm o k 900 b.binds->Q (.ref p) H'
def JR(K:ub)(n:Nat):Sp:=fun vs H Q _=>∃(st w sc:Addr)(k:Nat)(steps:Int)(y:Str)(size:Int)(B:Nat)(l:List (Str×Int))(o:Wo),vs=[.ref st,.ref w,.ref sc,.int (k:Nat),.int steps,.str y,.int size]/\Sta K H st B/\B+(60*n+40) < LIM/\IsW H o w/\Sc H l sc/\(∃p∈l,p.1≠y)/\0<=steps/\(steps=0->size < 0)/\rk steps size<=n+1/\l.length+10*(n+1)<=900/\k+10*(n+1)<=900/\∀(H':Hp)(p:Addr)(b:Bd),Kp st H H'->Sta K H' st (B+(60*n+40))->IsB H' b p->b.sz<=45*n+41->b.dp<=n+3->Bnm o k 900 b.binds->Q (.ref p) H'
section
variable{P:Program}{w:World}{K:ub}{mg:Str->Option Value}{base:Heap}{f:Addr}{fd:FuncData}
theorem scLaid:FnScope ["_law_state","_law_world_here","_law_scope","_law_k","_law_steps","_law_x","_law_size","_law_way","_law_name_here","_law_inner","_law_both","_law_at"] lS0 (zo Xo):=.ok
theorem JS(F:Fun K "_law_laid" "_law_laid" Xo f fd):FnOk P w K mg base CX0 (3+2*0) f fd lS0 (wH K 0):=by
 refine F.by scLaid (fun vs H Q E h=>?_) (fun cdv A outer s H vs Q E hr h=>?_)
 ·obtain⟨st,w,sc,k,steps,y,size,B,l,o,rfl,_⟩:=h
  rfl
 ·obtain⟨st,w,sc,k,steps,y,size,B,l,o,rfl,_,_,_,_,_,_,hme,_⟩:=h
  have:=zcG (a:=steps) (b:=size)
  lia
theorem zaD{n:Nat}(F:Fun K "_law_laid" "_law_laid" Xo f fd)(GD:Ca P w K mg base CX0 1 "_law_draw" lS2 (yq K))(GN':Ca P w K mg base CX0 1 "_law_name" lS3 spNm)(GO:Ca P w K mg base CX0 2 "_law_other" lS11 (w4 K))(GM:Ca P w K mg base CX0 3 "_law_last_make" lS4 (vU K))(GF:Ca P w K mg base CX0 (4+2*n) "_law_fork" lS0 (JR K n))(GL:Ca P w K mg base CX0 (3+2*n) "_law_laid" lS0 (wH K n))(m_len:mg "len"=none):FnOk P w K mg base CX0 (3+2*(n+1)) f fd lS0 (wH K (n+1)):=by
 rw[show 3+2*(n+1)=(4+2*n)+1 by lia]
 refine F.by scLaid (fun vs H Q E h=>?_) (fun cdv A outer s H vs Q E hr h=>?_)
 ·obtain⟨st,w,sc,k,steps,y,size,B,l,o,rfl,_⟩:=h
  rfl
 obtain⟨st,w0,sc,k,steps,y,size,B,l,o,rfl,S0,hB,hW,hSc,hne,hs0,hrk,hln,hkn,q⟩:=h
 have hr1:Room 1 _:=hr.mono (by lia)
 have hr2:Room 2 _:=hr.mono (by lia)
 have hr3:Room 3 _:=hr.mono (by lia)
 have hrL:Room (3+2*n) _:=hr.mono (by lia)
 refine⟨_,
  (zg (sE 7 scLaid.nd (cA GD hr1 (jA2 (jv 0) zj)))
  (zg (zy (jW.pt (yd (tN zA (jv 4) zj) (yh (tN zaU (jv 6) zj))))
   (zh (zu (cA GM hr3 (jA6 (jv 0) (jv 1) (jv 2) (jv 3) (jv 5) (jv 6)))))  zv)
  (zg (zy (jW.pt (wM (tN zA (jv 4) zj) (xD (tN zA (jv 7) zj))))
   (zh (zu (cA GF hr (jA7 (jv 0) (jv 1) (jv 2) (jv 3) (jv 4) (jv 5) (jv 6)))))  zv)
  (zg (sE 8 scLaid.nd (cA GN' hr1 (jA2 (jv 1) (jv 3))))
  (zg (zy (tN zA (jv 7) zj)
   (zg (sE 9 scLaid.nd (cA GL hrL (jA7 (jv 0) (jv 1) (zx yL (jv 2) (zB (jA1 (zq (jA2 (jv 8) zj))))) (zx zW (jv 3) zj) (zx ym (jv 4) zj) (jv 5) (jv 6))))
   (zh (zu (zq (jA4 zp (jv 8) (zq (jA2 zp (cA GD hr1 (jA2 (jv 0) zj)))) (jv 9))))))  zv)
  (zg (sE 9 scLaid.nd (cA GL hrL (jA7 (jv 0) (jv 1) (jv 2) (jv 3) (zx ym (jv 4) zj) (jv 5) (jv 6))))
  (zg (sE 10 scLaid.nd (zB (jA2 (jv 9) (zq (jA2 zp (cA GO hr2 (jA3 (jv 0) (jv 2) (jv 5))))))))
  (zg (sE 11 scLaid.nd (cA GD hr1 (jA2 (jv 0) zj)))
  (zh (zu (zq (jA4 zp (zT zY (xX zH (jv 2) (cA GD hr1 (jA2 (jv 0) (jL m_len (jv 2))))) zj (fun _ _=>rfl)) (xX zH (jv 10) (jv 11)) (xX zH (jv 10) (zx ym zj (jv 11))))))))))))))),?_⟩
 have sl:=zE
 have LM:LIM=4611686018427387904:=rfl
 have hl0:l≠[]:=fun e=>by obtain⟨p,h,_⟩:=hne;rw[e]at h;cases h
 obtain⟨⟨ts,hsc,hT⟩,scn,scs⟩:=id hSc
 have htl:=hT.len
 have hn0:0 < ts.length:=by rw[<- htl];exact UM.mpr hl0
 refine(show ∀(uM uF u:TS)(D:Ends),D.rt=Q->(∀(D':Ends)(H1:Hp)(r:Int),D'.rt=Q->Kp st H H1->Sta K H1 st (B+1)->0<=size->uM D' [some (.ref st),some (.ref w0),some (.ref sc),some (.int (k:Nat)),some (.int steps),some (.str y),some (.int size),some (.int r),none,none,none,none] H1)->(∀(D':Ends)(H1:Hp)(r:Int),D'.rt=Q->Kp st H H1->Sta K H1 st (B+1)->(steps=0->size < 0)->uF D' [some (.ref st),some (.ref w0),some (.ref sc),some (.int (k:Nat)),some (.int steps),some (.str y),some (.int size),some (.int r),none,none,none,none] H1)->(∀(H1:Hp)(r:Int),Kp st H H1->Sta K H1 st (B+1)->1<=steps->u D [some (.ref st),some (.ref w0),some (.ref sc),some (.int (k:Nat)),some (.int steps),some (.str y),some (.int size),some (.int r),none,none,none,none] H1)->(tSeq _ (tSeq (tIfS _ uM wI) (tSeq (tIfS _ uF wI) u)):TS) D _ H from ?key) _ _ _ _ rfl ?m ?f ?r
 case key =>
  intro uM uF u D hD hM hF hR
  refine⟨_,rfl,st,3,B,rfl,S0,by lia,by decide,fun H1 r k1 S1 r0 r1=>?_⟩
  refine⟨_,rfl,rfl,_,rfl,?_⟩
  refine ite2 (fun c=>?_) (fun c=>?_)
  ·refine⟨_,rfl,_,_,rfl,rfl,_,rfl,?_⟩
   refine ite2 (fun c2=>hM _ _ r hD k1 S1 (by simpa using c2)) (fun c2=>?_)
   have h0:steps=0->size < 0:=fun _=>by
    have:¬ (size ≥ 0):=by simpa using c2
    lia
   refine⟨_,rfl,rfl,_,rfl,?_⟩
   refine ite2 (fun _=>hF _ _ r hD k1 S1 h0) (fun c=>?_)
   have hs:1<=steps:=by
    have:¬ (V.int steps=V.int 0):=of_decide_eq_false (by simpa using c)
    have:steps≠0:=fun e=>this (by rw[e])
    lia
   refine⟨_,rfl,rfl,_,rfl,?_⟩
   exact ite2 (fun _=>hF _ _ r hD k1 S1 h0) (fun _=>hR _ r k1 S1 hs)
  ·have h0:steps=0->size < 0:=fun e=>by
    have:¬ (V.int steps=V.int 0):=of_decide_eq_false (by simpa using c)
    exact absurd (by rw[e]) this
   refine⟨_,rfl,rfl,_,rfl,?_⟩
   refine ite2 (fun _=>hF _ _ r hD k1 S1 h0) (fun c=>?_)
   have hs:1<=steps:=by
    have:¬ (V.int steps=V.int 0):=of_decide_eq_false (by simpa using c)
    have:steps≠0:=fun e=>this (by rw[e])
    lia
   refine⟨_,rfl,rfl,_,rfl,?_⟩
   exact ite2 (fun _=>hF _ _ r hD k1 S1 h0) (fun _=>hR _ r k1 S1 hs)
 case m =>
  intro D' H1 r hD k1 S1 hz
  refine⟨_,rfl,_,rfl,_,rfl,_,rfl,_,rfl,_,rfl,st,w0,sc,k,y,size,_,l,o,rfl,S1,by lia,hW.kp S0 k1,hSc.kp S0 k1,hne,by lia,fun H2 p b k2 S2 hb hz hd hbb=>?_⟩
  rw[hD]
  exact q _ p b (k1.trans k2) (S2.mono (by lia)) hb (by lia) (by lia) hbb
 case f =>
  intro D' H1 r hD k1 S1 hz
  refine⟨_,rfl,_,rfl,_,rfl,_,rfl,_,rfl,_,rfl,_,rfl,st,w0,sc,k,steps,y,size,_,l,o,rfl,S1,by lia,hW.kp S0 k1,hSc.kp S0 k1,hne,hs0,hz,hrk,hln,hkn,fun H2 p b k2 S2 hb hz hd hbb=>?_⟩
  rw[hD]
  exact q _ p b (k1.trans k2) (S2.mono (by lia)) hb (by lia) (by lia) hbb
 case r =>
  intro H1 r k1 S1 hs
  have rk1:rk (steps-1) size<=n:=by
   unfold rk at hrk ⊢
   lia
  obtain⟨⟨tl,dl,tt,ds,hw,htl1,hdl,hTt,hTd⟩,wok⟩:=hW.kp S0 k1
  refine⟨_,rfl,_,rfl,w0,o.z,o.b,_,k,rfl,hw,wok.z,?_⟩
  generalize hy:nm o.z o.b k=x
  refine⟨_,rfl,rfl,_,rfl,?_⟩
  refine ite2 (fun _=>?_) (fun _=>?_)
  ·refine⟨_,rfl,_,rfl,_,rfl,_,rfl,sN2,fun t1 h3=>⟨sN1,fun pl h4=>?_⟩⟩
   have k3:=k1.new (o:=.tup [.str x,.int 0]) h3
   have k4:=k3.new (o:=.lst [.ref t1]) h4
   refine⟨sc,pl,_,_,rfl,rfl,k4.k _ _ (S0.neR hsc) hsc,upd_same,by rw[ua];show _+1<=_;lia,fun pm h5=>?_⟩
   have em:ts.map V.ref++[V.ref t1]=(ts++[t1]).map V.ref:=by rw[uq];rfl
   rw[em]
   have k5:=k4.new (o:=.lst ((ts++[t1]).map V.ref)) h5
   have S5:=((S1.new h3 (.tup [.str x,.int 0])).new h4 (.lst [.ref t1])).new h5 (.lst ((ts++[t1]).map V.ref))
   have ht1:=old (o:=.lst ((ts++[t1]).map V.ref)) h5 (old (o:=.lst [.ref t1]) h4 (upd_same (H:=H1) (a:=t1) (o:=.tup [.str x,.int 0])))
   have hpm:=upd_same (H:=upd (upd H1 t1 (.tup [.str x,.int 0])) pl (.lst [.ref t1])) (a:=pm) (o:=.lst ((ts++[t1]).map V.ref))
   generalize upd (upd (upd H1 t1 (.tup [.str x,.int 0])) pl (.lst [.ref t1])) pm (.lst ((ts++[t1]).map V.ref))=H5 at *
   have sc5:Sc H5 (l++[(x,0)]) pm:=by
    refine⟨⟨ts++[t1],hpm,(hT.keep (k5.tups S0)).app (.cons ht1 .nil)⟩,?_,fun x hx=>?_⟩
    ·rw[uf,uU]
     lia
    ·rcases uz.mp hx with hx|hx
     ·exact scs x hx
     ·rw[ui.mp hx]
      exact⟨Int.le_refl _,by show(0:Int)<=13;decide⟩
   refine⟨_,rfl,_,_,rfl,rfl,_,rfl,_,_,rfl,rfl,_,rfl,_,rfl,st,w0,pm,k+1,steps-1,y,size,_,l++[(x,0)],o,rfl,S5,by lia,hW.kp S0 k5,sc5,?_,by lia,rk1,?_,by lia,fun H6 pb b k6 S6 hb hbz hbd hbb=>?_⟩
   ·obtain⟨p,a,b⟩:=hne
    exact⟨p,uK _ a,b⟩
   ·rw[uf,uU]
    lia
   refine⟨_,rfl,_,rfl,st,9,_,rfl,S6,by lia,by decide,fun H7 r7 k7 S7 r70 r71=>⟨sN2,fun t2 h7=>⟨_,rfl,sN4,fun t3 h8=>?_⟩⟩⟩
   exact q _ t3 (.lt x (.num r7) b) (((k5.trans k6).trans k7).new h7 |>.new h8) (((S7.mono (by lia)).new h7 _).new h8 _) (.lt upd_same (.num (old h8 upd_same)) (((hb.keep (k7.tups S6)).keep (.of (zn h7 _))).keep (.of (zn h8 _)))) (by rw[Bd.sz];lia) (by rw[Bd.dp];lia) (by rw[Bd.binds];exact fun z hz=>(um.mp hz).elim (fun e=>⟨k,ud _,by lia,by rw[e,hy]⟩) (hbb.mono (U8 _) z))
  ·refine⟨_,rfl,_,rfl,_,rfl,_,rfl,_,rfl,_,_,rfl,rfl,_,rfl,_,rfl,st,w0,sc,k,steps-1,y,size,_,l,o,rfl,S1,by lia,hW.kp S0 k1,hSc.kp S0 k1,hne,by lia,rk1,by lia,by lia,fun H2 pb b k2 S2 hb hbz hbd hbb=>?_⟩
   have k02:=k1.trans k2
   refine⟨_,rfl,_,rfl,_,rfl,_,rfl,st,sc,y,_,l,rfl,S2,by lia,hSc.kp S0 k02,hne,fun H3 z k3 S3 hz=>⟨sN2,fun tg htg=>⟨sN2,fun pl hpl=>?_⟩⟩⟩
   have s4:Same H3 (upd (upd H3 tg (.tup [.str "give",.str z])) pl (.lst [.ref pb,.ref tg])):=(zn htg _).new hpl
   have htg4:=old (o:=.lst [.ref pb,.ref tg]) hpl (upd_same (H:=H3) (a:=tg) (o:=.tup [.str "give",.str z]))
   have hpl4:=upd_same (H:=upd H3 tg (.tup [.str "give",.str z])) (a:=pl) (o:=.lst [.ref pb,.ref tg])
   have S4:=S3.same s4
   have k04:=(k02.trans k3).trans (.of s4)
   have hb4:=(hb.keep (k3.tups S2)).keep (.of s4)
   generalize upd (upd H3 tg (.tup [.str "give",.str z])) pl (.lst [.ref pb,.ref tg])=H4 at *
   refine⟨_,rfl,st,2,_,rfl,S4,by lia,by decide,fun H5 r5 k5 S5 r50 r51=>?_⟩
   have k05:=k04.trans k5
   have hsc5:=k05.k _ _ (S0.neR hsc) hsc
   refine⟨_,rfl,_,rfl,_,rfl,_,_,rfl,.inl (SqL.of hsc5),st,_,_,rfl,S5,by lia,(by rw[ua];lia),fun H6 r6 k6 S6 r60 r61=>?_⟩
   rw[ua]at r61
   have k06:=k05.trans k6
   obtain⟨t,ht⟩:∃t,ts[r6.toNat]?=some t:=⟨_,uk (by lia)⟩
   obtain⟨a,g,e1,e2⟩:=(hT.keep (k06.tups S0)).get ht
   have npl:pl≠st:=S4.neR (ts:=[pb,tg]) hpl4
   have hpl6:=k6.k _ _ npl (k5.k _ _ npl hpl4)
   have htg6:=k6.tups S5 _ _ (k5.tups S4 _ _ htg4)
   have hb6:=(hb4.keep (k5.tups S4)).keep (k6.tups S5)
   refine⟨sc,_,_,_,rfl,rfl,SqL.of (k06.k _ _ (S0.neR hsc) hsc),xp r60 ht,t,_,_,_,rfl,rfl,SqT.of e2,aI0,?_⟩
   have r5c:r5=0\/r5=1:=by lia
   rcases r5c with rfl|rfl
   ·refine⟨_,rfl,_,rfl,pl,_,_,_,rfl,rfl,SqL.of hpl6,aI0,_,rfl,_,rfl,_,_,rfl,rfl,pl,_,_,_,rfl,rfl,SqL.of hpl6,aI1,sN4,fun t3 h8=>?_⟩
    exact q _ t3 (.iff a b (.give z)) (k06.new h8) ((S6.mono (by lia)).new h8 _) (.iff upd_same (hb6.keep (.of (zn h8 _))) (.give (old h8 htg6))) (by rw[Bd.sz,Bd.sz];lia) (by rw[Bd.dp,Bd.dp];lia) (by rw[Bd.binds,Bd.binds,uu];exact hbb)
   ·refine⟨_,rfl,_,rfl,pl,_,_,_,rfl,rfl,SqL.of hpl6,aI1,_,rfl,_,rfl,_,_,rfl,rfl,pl,_,_,_,rfl,rfl,SqL.of hpl6,aI0,sN4,fun t3 h8=>?_⟩
    exact q _ t3 (.iff a (.give z) b) (k06.new h8) ((S6.mono (by lia)).new h8 _) (.iff upd_same (.give (old h8 htg6)) (hb6.keep (.of (zn h8 _)))) (by rw[Bd.sz,Bd.sz];lia) (by rw[Bd.dp,Bd.dp];lia) (by rw[Bd.binds,Bd.binds,List.nil_append];exact hbb)
theorem scFork:FnScope ["_law_state","_law_world_here","_law_scope","_law_k","_law_steps","_law_x","_law_size","_law_name_here","_law_sort","_law_tags","_law_at","_law_arms","_law_j","_law_one","_law_names","_law_inner","_law_left","_law_now"] lS0 (zo VG):=.ok
theorem zcH:(["_law_state","_law_world_here","_law_scope","_law_k","_law_steps","_law_x","_law_size","_law_name_here","_law_sort","_law_tags","_law_at","_law_arms","_law_j","_law_one","_law_names","_law_inner","_law_left","_law_now","_law_i"]:List Str).Nodup:=by decide +kernel
theorem zaE{n:Nat}(F:Fun K "_law_fork" "_law_fork" VG f fd)(GD:Ca P w K mg base CX0 1 "_law_draw" lS2 (yq K))(GN':Ca P w K mg base CX0 1 "_law_name" lS3 spNm)(GO:Ca P w K mg base CX0 2 "_law_other" lS11 (w4 K))(GL:Ca P w K mg base CX0 (3+2*n) "_law_laid" lS0 (wH K n))(m_len:mg "len"=none)(m_range:mg "range"=none)(m_zip:mg "zip"=none)(m_list:mg "list"=none)(m_tuple:mg "tuple"=none)(m_enumerate:mg "enumerate"=none):FnOk P w K mg base CX0 (4+2*n) f fd lS0 (JR K n):=by
 rw[show 4+2*n=(3+2*n)+1 by lia]
 refine F.by scFork (fun vs H Q E h=>?_) (fun cdv A outer s H vs Q E hr h=>?_)
 ·obtain⟨st,w,sc,k,steps,y,size,B,l,o,rfl,_⟩:=h
  rfl
 obtain⟨st,w0,sc,k,steps,y,size,B,l,o,rfl,S0,hB,hW,hSc,hne,hs0,hsz,hrk,hln,hkn,q⟩:=h
 have hr1:Room 1 _:=hr.mono (by lia)
 have hr2:Room 2 _:=hr.mono (by lia)
 refine⟨_,
  (zg (sE 7 scFork.nd (jv 5))
  (zg (zy (tN jg (jv 4) zj)
   (zh (sE 7 scFork.nd (zT zY (xX zH (jv 2) (cA GD hr1 (jA2 (jv 0) (jL m_len (jv 2))))) zj (fun _ _=>rfl))))  zv)
  (zg (sE 8 scFork.nd (zx zW zj (zx yP (cA GD hr1 (jA2 (jv 0) zj)) zj)))
  (zg (vk [13] [] (i:=9) scFork.nd rfl (Or.inl rfl) rfl (zF (xL 1)) (fun _ _ _ _ _=>(gN 13 scFork.nd)) (fun _ _ _ _ _=>(yG (tN zA (zT (yb K) (jv 13) zj (fun _ _=>rfl)) (jv 8)))) (fun _ _ _ _ _=>(jv 13)))
  (zg (sE 10 scFork.nd (cA GD hr1 (jA2 (jv 0) (jL m_len (jv 9)))))
  (zg (sE 11 scFork.nd (zB zD))
  (zg (zJ PassesOwn.never rfl (Qu rfl m_enumerate (jA1 (jv 9))) (yi rfl (zt (gN 12 scFork.nd) (zt (gN 13 scFork.nd) zL)))
   (zg (yp ["_law_i"] (i:=14) scFork.nd rfl (Or.inl rfl) rfl (zQ rfl m_range (jA1 (jL m_len (xT 13)))) (fun _ _ _ _ _=>(gN 18 zcH)) (fun _ _ _ _ _=>zR) (fun _ _ _ _ _=>(cA GN' hr1 (jA2 (jv 1) (zx zW (jv 3) (jv 18))))))
   (zg (sE 15 scFork.nd (zq (jA2 zp (cA GO hr2 (jA3 (jv 0) (jv 2) (jv 5))))))
   (zg (zy (tN zA (jv 12) (jv 10))
    (zg (JQ (i:=16) (j:=17) rfl scFork.nd rfl rfl (by decide) (jA2 (zx ym (jv 4) zj) (jv 6)))
    (zg (zy (tN zA (jv 4) zj)
     (zh (JQ (i:=16) (j:=17) rfl scFork.nd rfl rfl (by decide) (jA2 (cA GD hr1 (jA2 (jv 0) zj)) (jL m_len (jv 14)))))  zv)
    (zh (sE 15 scFork.nd (cA GL hr (jA7 (jv 0) (jv 1) (zx yL (jv 2) (wS rfl rfl m_list rfl m_zip (jA2 (jv 14) (xT 13)))) (zx zW (jv 3) (jL m_len (jv 14))) (jv 16) (jv 5) (jv 17)))))))  zv)
   (zh (zG (yy uA uN uO zK (jv 11) (jA1 (zq (jA3 (xT 13) (yv zN rfl m_tuple u0 (jA1 (jv 14))) (jv 15)))))))))))
  (zh (zu (zq (jA3 zp (jv 7) (yv zN rfl m_tuple u0 (jA1 (jv 11)))))))))))))),?_⟩
 have sl:=zE
 have LM:LIM=4611686018427387904:=rfl
 have hl0:l≠[]:=fun e=>by obtain⟨p,h,_⟩:=hne;rw[e]at h;cases h
 obtain⟨⟨ts,hsc,hTs⟩,scn,scs⟩:=id hSc
 have htl2:=hTs.len
 have hn0:0 < ts.length:=by rw[<- htl2];exact UM.mpr hl0
 refine(show ∀(u:TS)(D:Ends),(∀(H1:Hp)(x:Str),Kp st H H1->Sta K H1 st (B+1)->u D [some (.ref st),some (.ref w0),some (.ref sc),some (.int (k:Nat)),some (.int steps),some (.str y),some (.int size),some (.str x),none,none,none,none,none,none,none,none,none,none] H1)->(tSeq _ (tSeq _ u):TS) D _ H from ?key) _ _ ?rest
 case key =>
  intro u D tail
  refine⟨_,rfl,?_⟩
  refine⟨_,rfl,_,_,rfl,rfl,_,rfl,?_⟩
  refine ite2 (fun _=>?_) (fun _=>tail _ _ Kp.refl (S0.mono (by lia)))
  refine⟨_,rfl,_,rfl,_,rfl,_,_,rfl,.inl (SqL.of hsc),st,_,_,rfl,S0,by lia,(by rw[ua];lia),fun H6 r6 k6 S6 r60 r61=>?_⟩
  rw[ua]at r61
  obtain⟨t,ht⟩:∃t,ts[r6.toNat]?=some t:=⟨_,uk (by lia)⟩
  obtain⟨a,g,e1,e2⟩:=(hTs.keep (k6.tups S0)).get ht
  exact⟨sc,_,_,_,rfl,rfl,SqL.of (k6.k _ _ (S0.neR hsc) hsc),xp r60 ht,ixT e2 aI0 (tail _ _ k6 S6)⟩
 case rest =>
 intro H0 x k0 SS
 refine cut4 fun r1_ hr1_=>?_
 refine⟨_,rfl,st,3,_,rfl,SS,by lia,by decide,fun H1 r k1 S1 r0 r1=>⟨_,_,rfl,rfl,⟨by decide,by decide⟩,_,_,rfl,rfl,?_⟩⟩
 have hsort:1+r / 2=1\/1+r / 2=2:=by lia
 show(tSeq _ _:TS) _ [some (.ref st),some (.ref w0),some (.ref sc),some (.int (k:Nat)),some (.int steps),some (.str y),some (.int size),some (.str x),some (.int (1+r / 2)),none,none,none,none,none,none,none,none,none] H1
 generalize 1+r / 2=so at *
 replace k1:=k0.trans k1
 obtain⟨⟨tl,dl,tt,ds,hw0,htl0,hdl0,hTt,hTd⟩,wok⟩:=id hW
 have hw:=k1.k _ _ (S0.neW hw0) hw0
 have htl:=k1.k _ _ (S0.neR htl0) htl0
 have tlen:=wok.tlen
 have htt:=hTt.len
 refine⟨_,rfl,ixL hw aI2 ⟨tl,rfl,⟨_,SqL.of htl⟩,zX (xs:=tt.map V.ref) (fun j τ ys H'=>H1=H'/\(∃v,τ=[some (.ref st),some (.ref w0),some (.ref sc),some (.int (k:Nat)),some (.int steps),some (.str y),some (.int size),some (.str x),some (.int so),none,none,none,none,v,none,none,none,none])/\∃fs:List Addr,ys=fs.map V.ref/\fs.length<=j/\Tri H ((o.tags.take j).filter fun p=>decide (V.int p.2.2=V.int so)) fs) ⟨rfl,⟨none,rfl⟩,[],rfl,uX _,.nil⟩ (fun j τ ys H' _ h=>by rw[<- h.1];exact SqL.of htl) ?_ ?_⟩⟩
 ·rintro j v τ ys H4 hv ⟨rfl,⟨v',rfl⟩,fs,rfl,hj,hf⟩
  rw[ue]at hv
  obtain⟨t,ht,rfl⟩:=uh.mp hv
  obtain⟨z,ss,g,sq,e1,e2,e3⟩:=hTt.get ht
  have hjl:j < o.tags.length:=(uc.mp e1).1
  have tf:=xm (fun p:Str×List Int×Int=>decide (V.int p.2.2=V.int so)) e1
  refine⟨_,rfl,ixT (k1.tups S0 _ _ e2) aI2 ⟨_,rfl,rfl,_,rfl,?_⟩⟩
  refine ite2 (fun c=>?_) (fun c=>?_)
  ·refine⟨_,rfl,by rw[ua];lia,rfl,⟨_,rfl⟩,fs++[t],by simp,by simp;lia,?_⟩
   rw[tf,if_pos c]
   exact hf.app (.cons e2 e3 .nil)
  ·refine⟨rfl,⟨_,rfl⟩,fs,rfl,by lia,?_⟩
   rw[tf,if_neg c,uu]
   exact hf
 rintro τ ys H4 ⟨rfl,_,fs,rfl,_,hf⟩ pt h4
 rw[ua,<- htt,uj (ud _)]at hf
 obtain⟨fl1,fl2⟩:=jl wok hsort
 have ftl:∀p∈o.tags.filter (fun p=>decide (V.int p.2.2=V.int so)),p.2.1.length<=9/\So p.2.1:=fun p hp=>wok.ts p (UT.mp hp).1
 generalize o.tags.filter (fun p=>decide (V.int p.2.2=V.int so))=fl at *
 have hfl:=hf.len
 have S4:=S1.new h4 (.lst (fs.map V.ref))
 have k4:=k1.new (o:=.lst (fs.map V.ref)) h4
 have hpt:=upd_same (H:=H1) (a:=pt) (o:=.lst (fs.map V.ref))
 generalize upd H1 pt (.lst (fs.map V.ref))=H4 at *
 refine⟨_,rfl,_,rfl,_,_,rfl,.inl (SqL.of hpt),st,_,_,rfl,S4,by lia,(by rw[ua];lia),fun H5 at' k5 S5 at0 at1=>?_⟩
 refine⟨sN0,fun pa h3=>?_⟩
 have npt':=S4.neR hpt
 replace hpt:=k5.k _ _ npt' hpt
 replace k5:=k4.trans k5
 have k3:=k5.new (o:=.lst []) h3
 have S3:=S5.new h3 (.lst [])
 have npa:=S5.ne h3
 have fpa:H pa=none:=k5.free npa h3
 have hpa:=upd_same (H:=H5) (a:=pa) (o:=.lst [])
 have npt:pt≠pa:=zk hpt h3
 replace hpt:=old (o:=.lst []) h3 hpt
 generalize upd H5 pa (.lst [])=H6 at *
 clear hw htl k4 S4 S5 k5
 let Fx:Hp->Prop:=fun H'=>(∀b u,b≠st->b≠pa->H6 b=some u->H' b=some u)
 have Fx.kp:∀{H1 H2:Hp},Fx H1->Kp st H1 H2->Fx H2:=fun f k b u n1 n2 h=>k.k _ _ n1 (f b u n1 n2 h)
 have Fx.pa:∀{H1:Hp}{o:HO},Fx H1->Fx (upd H1 pa o):=fun f b u n1 n2 h=>by rw[zi n2];exact f b u n1 n2 h
 subst hr1_
 refine⟨_,rfl,_,rfl,⟨_,SqL.of hpt⟩,JP (xs:=fs.map V.ref) (fun i σ H'=>Fx H'/\Kp st H H'/\Sta K H' st (B+3+i*2+(if at' < i then 60*n+1 else 0))/\(∃(as:List Addr)(ar:Arms),H' pa=some (.lst (as.map V.ref))/\as.length=i/\IsA H' ar as/\ar.sz<=i*11+(if at' < i then 45*n else 0)/\ar.dp<=n+2/\Bnm o k 900 ar.binds)/\∃v1 v2 v3 v4 v5 v6,σ=[some (.ref st),some (.ref w0),some (.ref sc),some (.int (k:Nat)),some (.int steps),some (.str y),some (.int size),some (.str x),some (.int so),some (.ref pt),some (.int at'),some (.ref pa),v1,v2,v3,v4,v5,v6])
  ⟨fun b u _ _ h=>h,k3,(S3.mono (by lia)),⟨[],.nil,hpa,rfl,.nil,by rw[Arms.sz];lia,by rw[Arms.dp];lia,by rw[Arms.binds];exact Bnm.nil⟩,none,none,none,none,none,none,rfl⟩ (fun i σ H' _ h=>SqL.of (h.1 _ _ npt' npt hpt)) ?_ ?_⟩
 ·rintro i v T σ H1 hv hT ⟨fx,kp,S1,⟨as,ar,hpa1,hal,hA,hz,hdp,hbn⟩,v1,v2,v3,v4,v5,v6,rfl⟩
  rw[ue]at hv
  obtain⟨t,ht,rfl⟩:=uh.mp hv
  have hi:i < fs.length:=(uc.mp ht).1
  refine⟨_,_,rfl,SqT.of upd_same,rfl,_,_,rfl,_,_,rfl,rfl,?_⟩
  refine cutD (fun D' fin=>?_) (fun _ _ h=>h)
  refine cut2 fun rest hrest=>?_
  replace fx:=Fx.kp fx (Kp.refl.new (o:=.tup [.int (i:Nat),.ref t]) hT)
  replace kp:=kp.new (o:=.tup [.int (i:Nat),.ref t]) hT
  replace S1:=S1.new hT (.tup [.int (i:Nat),.ref t])
  replace hpa1:=old (o:=.tup [.int (i:Nat),.ref t]) hT hpa1
  replace hA:=hA.keep (.of (zn hT (.tup [.int (i:Nat),.ref t])))
  generalize upd H1 T (.tup [.int (i:Nat),.ref t])=H6 at *
  obtain⟨z,ss,g,sq,e1,e2,e3⟩:=(hf.kp S0 kp).get ht
  have hss:ss.length<=9/\So ss:=ftl _ (uo e1)
  have hw6:=kp.k _ _ (S0.neW hw0) hw0
  refine⟨_,rfl,ixT e2 aI1 ⟨_,_,rfl,.inl (SqL.of e3),_,rfl,by rw[ua];lia,by rw[ua];lia,yu (n:=(ss.map V.int).length) (fun j τ ys H'=>H6=H'/\(∃v,τ=[some (.ref st),some (.ref w0),some (.ref sc),some (.int (k:Nat)),some (.int steps),some (.str y),some (.int size),some (.str x),some (.int so),some (.ref pt),some (.int at'),some (.ref pa),some (.int (i:Nat)),some (.ref t),v3,v4,v5,v6,v])/\ys=((uE j).map fun i=>nm o.z o.b (k+i)).map V.str) ⟨rfl,⟨none,rfl⟩,rfl⟩ ?_ ?_⟩⟩
  ·rintro j τ ys H7 hj ⟨rfl,⟨v,rfl⟩,rfl⟩
   rw[ua]at hj
   have ek:((k:Nat):Int)+(0+(j:Nat))=((k+j:Nat):Int):=by lia
   refine⟨_,rfl,_,rfl,_,rfl,_,_,rfl,rfl,w0,o.z,o.b,_,k+j,(by show[V.ref w0,V.int (((k:Nat):Int)+(0+(j:Nat)))]=_;rw[ek]),hw6,wok.z,by rw[ua,ua,Us];lia,rfl,⟨_,rfl⟩,?_⟩
   rw[UV,uq,uq]
   rfl
  rintro τ ys H7 ⟨rfl,_,rfl⟩ pn hpn
  rw[ua]
  have nl:((uE ss.length).map fun i=>nm o.z o.b (k+i)).length=ss.length:=by rw[ua,Us]
  have nb:Bnm o k 900 ((uE ss.length).map fun i=>nm o.z o.b (k+i)):=fun x hx=>by
   obtain⟨j,hj,rfl⟩:=uC.mp hx
   have:=UJ.mp hj
   exact⟨k+j,Ux _ _,by lia,rfl⟩
  generalize (uE ss.length).map (fun i=>nm o.z o.b (k+i))=NS at *
  replace fx:=Fx.kp fx (Kp.refl.new (o:=.lst (NS.map V.str)) hpn)
  have kp7:=kp.new (o:=.lst (NS.map V.str)) hpn
  replace S1:=S1.new hpn (.lst (NS.map V.str))
  replace hpa1:=old (o:=.lst (NS.map V.str)) hpn hpa1
  replace hA:=hA.keep (.of (zn hpn (.lst (NS.map V.str))))
  replace e2:=old (o:=.lst (NS.map V.str)) hpn e2
  replace e3:=old (o:=.lst (NS.map V.str)) hpn e3
  have hpn7:=upd_same (H:=H6) (a:=pn) (o:=.lst (NS.map V.str))
  generalize upd H6 pn (.lst (NS.map V.str))=H7 at *
  have npn:=S1.neS hpn7
  dsimp only[List.set,L2.start]
  have hB1:B+3+i*2+(if at' < (i:Int)then 60*n+1 else 0)+2<=B+3+3*2+(60*n+1):=by split<;>lia
  refine⟨_,rfl,_,rfl,_,rfl,st,sc,y,_,l,rfl,S1,by lia,hSc.kp S0 kp7,hne,fun H8 xo k8 S8 hxo=>⟨sN2,fun tg htg=>?_⟩⟩
  have k9:=k8.new (o:=.tup [.str "give",.str xo]) htg
  have S9:=S8.new htg (.tup [.str "give",.str xo])
  have htg9:=upd_same (H:=H8) (a:=tg) (o:=.tup [.str "give",.str xo])
  generalize upd H8 tg (.tup [.str "give",.str xo])=H9 at *
  replace fx:=Fx.kp fx k9
  have kp9:=kp7.trans k9
  replace hpa1:=k9.k _ _ npa hpa1
  replace hA:=hA.keep (k9.tups S1)
  replace e2:=k9.tups S1 _ _ e2
  replace e3:=k9.k _ _ (S1.neI e3) e3
  replace hpn7:=k9.k _ _ npn hpn7
  clear S1 S8 k8 k9
  unfold xg
  dsimp only[List.set]
  subst hrest
  refine(show ∀(u:TS)(D:Ends),(∀(H':Hp)(pb:Addr)(b:Bd)(va vb:Option V),Kp st H9 H'->Sta K H' st (B+3+(i+1)*2+(if at' < ((i+1:Nat):Int)then 60*n+1 else 0))->IsB H' b pb->b.sz<=1+(if(i:Int)=at' then 45*n else 0)->b.dp<=n+2->Bnm o k 900 b.binds->u D [some (.ref st),some (.ref w0),some (.ref sc),some (.int (k:Nat)),some (.int steps),some (.str y),some (.int size),some (.str x),some (.int so),some (.ref pt),some (.int at'),some (.ref pa),some (.int (i:Nat)),some (.ref t),some (.ref pn),some (.ref pb),va,vb] H')->(tSeq _ u:TS) D [some (.ref st),some (.ref w0),some (.ref sc),some (.int (k:Nat)),some (.int steps),some (.str y),some (.int size),some (.str x),some (.int so),some (.ref pt),some (.int at'),some (.ref pa),some (.int (i:Nat)),some (.ref t),some (.ref pn),some (.ref tg),v5,v6] H9 from ?key2) _ _ ?rest2
  case key2 =>
   intro u D tail
   refine⟨_,rfl,_,rfl,rfl,_,rfl,?_⟩
   refine ite2 (fun c=>?_) (fun c=>?_)
   ·have hia:(i:Int)=at':=by
     have:=of_decide_eq_true c
     exact V.int.inj this
    have eb:B+3+(i+1)*2+(if at' < ((i+1:Nat):Int)then 60*n+1 else 0)=B+3+i*2+2+60*n+1:=by
     rw[if_pos (by lia)]
     lia
    have eb0:B+3+i*2+(if at' < (i:Int)then 60*n+1 else 0)+2=B+3+i*2+2:=by rw[if_neg (by lia)]
    rw[eb0]at S9
    rw[eb]at tail
    rw[if_pos hia]at tail
    refine⟨_,rfl,_,_,rfl,rfl,_,rfl,_,_,rfl,?_⟩
    dsimp only[List.set]
    refine(show ∀(u:TS)(D:Ends),(∀(H':Hp)(left now:Int),Kp st H9 H'->Sta K H' st (B+3+i*2+2+1)->0<=left->rk left now<=n->u D [some (.ref st),some (.ref w0),some (.ref sc),some (.int (k:Nat)),some (.int steps),some (.str y),some (.int size),some (.str x),some (.int so),some (.ref pt),some (.int at'),some (.ref pa),some (.int (i:Nat)),some (.ref t),some (.ref pn),some (.ref tg),some (.int left),some (.int now)] H')->(tSeq _ u:TS) D [some (.ref st),some (.ref w0),some (.ref sc),some (.int (k:Nat)),some (.int steps),some (.str y),some (.int size),some (.str x),some (.int so),some (.ref pt),some (.int at'),some (.ref pa),some (.int (i:Nat)),some (.ref t),some (.ref pn),some (.ref tg),some (.int (steps-1)),some (.int size)] H9 from ?key3) _ _ ?rest3
    case key3 =>
     intro u D tail
     refine⟨_,rfl,rfl,_,rfl,?_⟩
     refine ite2 (fun c=>?_) (fun c=>?_)
     ·have hs:steps=0:=V.int.inj (of_decide_eq_true c)
      refine⟨_,rfl,st,4,_,rfl,S9,by lia,by decide,fun H10 r k10 S10 r0 r1=>⟨_,rfl,_,_,rfl,.inl (SqL.of (k10.k _ _ (S9.neS hpn7) hpn7)),_,_,rfl,tail _ _ _ k10 S10 r0 ?_⟩⟩
      have h5:=hsz hs
      unfold rk at hrk ⊢
      rw[if_pos h5]at hrk
      rw[if_neg (by lia)]
      lia
     ·have hs:steps≠0:=fun e=>c (decide_eq_true (by rw[e]))
      refine tail _ _ _ Kp.refl (S9.mono (by lia)) (by lia) ?_
      unfold rk at hrk ⊢
      lia
    case rest3 =>
     intro H10 left now k10 S10 hl1 hrk1
     have kp10:=kp9.trans k10
     have e210:=k10.tups S9 _ _ e2
     have e310:=k10.k _ _ (S9.neI e3) e3
     have hpn10:=k10.k _ _ (S9.neS hpn7) hpn7
     refine⟨_,rfl,_,rfl,_,rfl,_,rfl,_,rfl,ixT e210 aI1 ⟨pn,sq,_,_,rfl,.inl (SqL.of hpn10),.inl (SqL.of e310),fun H11 pz zs s8 f8 hpz hzl _ _ hpair=>?_⟩⟩
     have tz:=xS hzl hpair
     have hzl2:zs.length=ss.length:=by rw[hzl,ua,ua];lia
     have kp11:=kp10.trans (.of s8)
     refine⟨sc,pz,_,_,rfl,rfl,kp11.k _ _ (S0.neR hsc) hsc,hpz,by rw[ua,ua];lia,fun pm h12=>?_⟩
     rw[<- uq]
     have kp12:=kp11.new (o:=.lst ((ts++zs).map V.ref)) h12
     have s12:Same H10 (upd H11 pm (.lst ((ts++zs).map V.ref))):=s8.new h12
     have hpm:=upd_same (H:=H11) (a:=pm) (o:=.lst ((ts++zs).map V.ref))
     have tz9:=tz.keep (.of (zn h12 (.lst ((ts++zs).map V.ref))))
     have sc9:Sc (upd H11 pm (.lst ((ts++zs).map V.ref))) (l++NS.zip ss) pm:=by
      refine⟨⟨ts++zs,hpm,(hTs.keep (kp12.tups S0)).app tz9⟩,?_,fun p hp=>?_⟩
      ·rw[uf,UW]
       lia
      ·rcases uz.mp hp with hp|hp
       ·exact scs p hp
       ·have:=hss.2 p.2 (UG hp).2
        lia
     have S12:=S10.same s12
     have hpn12:=s12 _ _ hpn10
     generalize upd H11 pm (.lst ((ts++zs).map V.ref))=H12 at *
     refine⟨_,rfl,_,rfl,_,_,rfl,.inl (SqL.of hpn12),_,_,rfl,rfl,_,rfl,_,rfl,_,rfl,st,w0,pm,k+(NS.map V.str).length,left,y,now,_,l++NS.zip ss,o,rfl,S12,by lia,hW.kp S0 kp12,sc9,?_,hl1,hrk1,?_,by rw[ua];lia,fun H13 pb b k13 S13 hb hbz hbd hbb=>?_⟩
     ·obtain⟨p,a,b⟩:=hne
      exact⟨p,uK _ a,b⟩
     ·rw[uf,UW]
      lia
     exact tail _ pb b _ _ ((k10.trans (.of s12)).trans k13) (S13.mono (by lia)) hb (by lia) hbd (hbb.mono (Ux _ _))
   ·have hia:¬ (i:Int)=at':=fun e=>c (decide_eq_true (by rw[e]))
    refine tail _ tg (.give xo) _ _ Kp.refl (S9.mono ?_) (.give htg9) (by rw[Bd.sz];lia) (by rw[Bd.dp];lia) (by rw[Bd.binds];exact Bnm.nil)
    by_cases h:at' < (i:Int)
    ·rw[if_pos h,if_pos (by lia)]
     lia
    ·rw[if_neg h,if_neg (by lia)]
     lia
  case rest2 =>
   intro H10 pb b va vb k10 S10 hb hbz hbd hbb
   have fx10:=Fx.kp fx k10
   have kp10:=kp9.trans k10
   have hpa10:=k10.k _ _ npa hpa1
   have hA10:=hA.keep (k10.tups S9)
   have e210:=k10.tups S9 _ _ e2
   have hpn10:=k10.k _ _ (S9.neS hpn7) hpn7
   refine⟨_,rfl,.inl ⟨rfl,_,SqL.of hpa10⟩,_,rfl,ixT e210 aI0 ⟨_,rfl,pn,_,rfl,.inl ⟨SqL.of hpn10,fun pu h11=>⟨_,rfl,sN3,fun tt h12=>?_⟩⟩⟩⟩
   have hpu:=upd_same (H:=H10) (a:=pu) (o:=.tup (NS.map V.str))
   have hpa11:=old (o:=.tup (NS.map V.str)) h11 hpa10
   have k11:=kp10.new (o:=.tup (NS.map V.str)) h11
   have S11:=S10.new h11 (.tup (NS.map V.str))
   have tu11:Tups H10 (upd H10 pu (.tup (NS.map V.str))):=.of (zn h11 _)
   replace fx10:=Fx.kp fx10 (Kp.refl.new (o:=.tup (NS.map V.str)) h11)
   generalize upd H10 pu (.tup (NS.map V.str))=H11 at *
   have tp:Tups H11 (upd (upd H11 tt (.tup [.str z,.ref pu,.ref pb])) pa (.lst (as.map V.ref++[.ref tt]))):=fun p xs g=>by
    rw[zi (yN g hpa11 (by intro e;cases e))]
    exact old h12 g
   have kp12:=k11.new (o:=.tup [.str z,.ref pu,.ref pb]) h12
   refine⟨pa,_,_,rfl,rfl,old h12 hpa11,by rw[ua];lia,fin _ _ ⟨Fx.pa (Fx.kp fx10 (Kp.refl.new h12)),kp12.put fpa,Sta.put S0 fpa kp12 (S11.new h12 _),⟨as++[tt],Arms.app ar (.cons z NS b .nil),by rw[upd_same];simp,by simp[hal],?_,?_,by rw[Arms.dp_app,Arms.dp,Arms.dp];lia,by rw[Arms.binds_app,Arms.binds,Arms.binds,uu];exact hbn.app (nb.app hbb)⟩,_,_,_,_,_,_,rfl⟩⟩
   ·refine IsA.app (.cons ?_ (tp _ _ hpu) ((hb.keep tu11).keep tp) .nil) ((hA10.keep tu11).keep tp)
    rw[zi (zk hpa11 h12).symm]
    exact upd_same
   ·rw[Arms.sz_app,Arms.sz,Arms.sz]
    by_cases h:at' < (i:Int)
    ·rw[if_pos h]at hz
     rw[if_neg (by lia)]at hbz
     rw[if_pos (by lia)]
     lia
    ·rw[if_neg h]at hz
     by_cases h2:(i:Int)=at'
     ·rw[if_pos h2]at hbz
      rw[if_pos (by lia)]
      lia
     ·rw[if_neg h2]at hbz
      rw[if_neg (by lia)]
      lia
 rintro σ H7 ⟨fx,kp,S7,⟨as,ar,hpa7,hal,hA,hz,hdp,hbn⟩,v1,v2,v3,v4,v5,v6,rfl⟩
 rw[ua]at hal S7 hz
 refine⟨_,rfl,_,rfl,pa,_,rfl,.inl ⟨SqL.of hpa7,fun p9 h9=>⟨sN3,fun t h10=>?_⟩⟩⟩
 refine q _ t (.case x ar) ((kp.new h9).new h10) (((S7.mono ?_).new h9 _).new h10 _) (.case upd_same (old h10 upd_same) (by lia) ((hA.keep (.of (zn h9 _))).keep (.of (zn h10 _)))) ?_ ?_ (by rw[Bd.binds];exact hbn)
 ·split<;>lia
 ·rw[Bd.sz]
  split at hz<;>lia
 ·rw[Bd.dp]
  lia
structure PrN(o:Wo)(z n:Nat)(dfs:List Df):Prop where
 len:dfs.length=3
 nms:dfs.map (·.z)=(uE 3).map (fun k=>nm o.z o.b (2-k))
 dd:∀d∈dfs,d.ns.length<=3/\d.b.sz<=z/\d.b.dp<=n/\FNm o d
theorem Y0{α:Type}(f:α->Nat)(c:Nat):∀l:List α,(∀x∈l,f x<=c)->(l.map f).sum<=l.length*c
 |[],_=>uX _
 |x::l,h=>by
  have a:=h x uJ
  have b:=Y0 f c l fun y hy=>h y (uB _ hy)
  rw[uH,Ur,ul,Nat.succ_mul]
  lia
theorem JT(dfs:List Df)(c:Nat)(h:∀d∈dfs,d.ns.length<=c):(cand dfs).length<=dfs.length*c:=by
 unfold cand
 rw[List.length_flatMap]
 refine Y0 _ c dfs fun d hd=>?_
 rw[ua,Us]
 exact h d hd
theorem PrN.prb{o:Wo}{z n:Nat}{dfs:List Df}(h:PrN o z n dfs)(hz:z<=20000):PrB dfs:=by
 have l:=h.len
 refine⟨fun d hd=>?_,?_,?_,by lia⟩
 ·obtain⟨a,b,c,_⟩:=h.dd d hd
  exact⟨by lia,by lia⟩
 ·have:=Y0 (fun d:Df=>d.b.all.length) 20000 dfs fun d hd=>by
   obtain⟨a,b,c,_⟩:=h.dd d hd
   have:=Bd.all_len d.b
   lia
  unfold cntB
  rw[l]at this
  lia
 ·have:=JT dfs 3 fun d hd=>(h.dd d hd).1
  rw[l]at this
  lia
theorem FNm.nd{o:Wo}{d:Df}(h:FNm o d)(l:d.ns.length<=3):d.ns.Nodup/\∀x∈d.ns,x∉d.b.binds:=by
 refine⟨?_,fun x hx hb=>?_⟩
 ·rw[h.n]
  unfold List.Nodup
  rw[List.pairwise_map]
  refine List.Pairwise.imp_of_mem (fun{a c} ha hc h' e=>h' ?_) (List.nodup_range (n:=d.ns.length))
  have h1:=UJ.mp ha
  have h2:=UJ.mp hc
  exact wV (by lia) (by lia) e
 ·rw[h.n]at hx
  obtain⟨i,hi,rfl⟩:=uC.mp hx
  have:=UJ.mp hi
  obtain⟨j,a,b,c⟩:=h.b _ hb
  have:=wV (by lia) (by lia) c
  lia
theorem PrN.prr{o:Wo}{z n:Nat}{dfs:List Df}(h:PrN o z n dfs)(hz:z<=20000):PrR n dfs :=
 ⟨h.prb hz,fun d hd=>by obtain⟨a,b,c,_⟩:=h.dd d hd;exact⟨c,by lia⟩,fun d hd=>by obtain⟨a,b,c,e⟩:=h.dd d hd;exact e.nd a⟩
def JU(K:ub):Sp:=fun vs H Q _=>∃(st w p pk pd:Addr)(ds:List Addr)(B:Nat)(o:Wo)(dfs:List Df),vs=[.ref st,.ref w,.ref p]/\Sta K H st B/\B+500 < LIM/\IsW H o w/\H p=some (.tup [.ref pk,.ref pd])/\H pd=some (.tup (ds.map V.ref))/\IsFs H dfs ds/\PrN o 14560 11 dfs/\∀(H':Hp)(p':Addr)(dfs':List Df),Kp st H H'->Sta K H' st (B+500)->PrOk H' p' dfs'->PrN o 14560 11 dfs'->Q (.ref p') H'
theorem scWith:FnScope ["_law_state","_law_world_here","_law_program_here","_law_name_here","_law_params","_law_body_here","_law_number","_law_scope","_law_x"] lS13 (zo wz):=.ok
theorem zaF(F:Fun K "_law_with_laid" "_law_with_laid" wz f fd)(GD:Ca P w K mg base CX0 1 "_law_draw" lS2 (yq K))(GN':Ca P w K mg base CX0 1 "_law_name" lS3 spNm)(GL:Ca P w K mg base CX0 (3+2*8) "_law_laid" lS0 (wH K 8))(m_len:mg "len"=none)(m_zip:mg "zip"=none)(m_list:mg "list"=none):FnOk P w K mg base CX0 20 f fd lS13 (JU K):=by
 refine F.by scWith (fun vs H Q E h=>?_) (fun cdv A outer s H vs Q E hr h=>?_)
 ·obtain⟨st,w,p,pk,pd,ds,B,o,dfs,rfl,_⟩:=h
  rfl
 obtain⟨st,w0,p,pk,pd,ds,B,o,dfs,rfl,S0,hB,hW,hp,hpd,hF,hN,q⟩:=h
 have hr1:Room 1 _:=hr.mono (by decide)
 refine⟨_,
  (zg (yR (zT zY (xT 2) zj (fun _ _=>rfl)) (yi rfl (zt (gN 3 scWith.nd) (zt (gN 4 scWith.nd) (zt (gN 5 scWith.nd) zL)))))
  (zg (zy (jW.pt (wM (tN (zay hr1) (jv 4) (zq zD)) (xD (tN zA (cA GD hr1 (jA2 (jv 0) zj)) zj))))
   (zh (zu (jv 2)))  zv)
  (zg (sE 6 scWith.nd (cA GN' hr1 (jA2 (jv 1) (jL m_len (jv 4)))))
  (zg (sE 7 scWith.nd (zx yL (wS rfl rfl m_list rfl m_zip (jA2 (jv 4) (zT zY (zT zH (xL 1) zj (fun _ _=>rfl)) zj (fun _ _=>rfl)))) (zB (jA1 (zq (jA2 (jv 6) zj))))))
  (zg (sE 8 scWith.nd (xX zY (jv 4) (cA GD hr1 (jA2 (jv 0) (jL m_len (jv 4))))))
  (zg (sE 5 scWith.nd (cA GL hr (jA7 (jv 0) (jv 1) (jv 7) (jL m_len (jv 7)) (cA GD hr1 (jA2 (jv 0) zj)) (jv 8) (xC zj))))
  (zh (zu (zq (jA2 (xT 2) (zx Xf (zq (jA1 (zq (jA3 (jv 3) (jv 4) (zq (jA4 zp (jv 6) (zq (jA2 zp zj)) (jv 5))))))) (yJ wX (xT 2) (y8 zj) y0)))))))))))),?_⟩
 have sl:=zE
 have LM:LIM=4611686018427387904:=rfl
 have dl3:=hN.len
 have dsl:=hF.len
 obtain⟨d,dr,rfl⟩:∃d dr,dfs=d::dr:=by
  cases dfs with
  |nil=>cases dl3
  |cons d dr=>exact⟨d,dr,rfl⟩
 obtain⟨t0,tr,rfl⟩:∃t tr,ds=t::tr:=by
  cases ds with
  |nil=>cases hF
  |cons d dr=>exact⟨d,dr,rfl⟩
 obtain⟨hFd,hFr⟩:IsF H d t0/\IsFs H dr tr:=by
  cases hF with
  |cons a b=>exact⟨a,b⟩
 obtain⟨qn,pb,g1,g2,g3⟩:=hFd.ex
 obtain⟨nl,dz,ddp,hfn⟩:=hN.dd d uJ
 have trl:tr.length=2:=by rw[ul,ul]at dsl;rw[ul]at dl3;lia
 refine cut5 fun r1_ hr1_=>?_
 refine⟨_,rfl,ixT hp aI1 (ixT hpd aI0 ⟨_,_,rfl,SqT.of g1,rfl,_,_,rfl,_,_,rfl,_,_,rfl,rfl,?_⟩)⟩
 refine⟨_,rfl,sN0,fun te hte=>?_⟩
 have s1:=zn (o:=.tup []) hte
 have hte1:=upd_same (H:=H) (a:=te) (o:=.tup [])
 generalize upd H te (.tup [])=H1 at *
 have give:∀{H':Hp}{C:Nat},Kp st H H'->Sta K H' st C->C<=B+500->Q (.ref p) H':=fun{H' C} k S c=>q _ p (d::dr) k (S.mono c) ⟨pk,pd,t0::tr,k.tups S0 _ _ hp,k.tups S0 _ _ hpd,hF.keep (k.tups S0)⟩ hN
 refine⟨qn,te,_,rfl,rfl,SqT.of (s1 _ _ g2),SqT.of hte1,_,rfl,?_⟩
 show if(d.ns.map V.str).isEmpty=true then _ else _
 have S1:=S0.same s1
 have k1:Kp st H H1:=.of s1
 by_cases he:d.ns=[]
 ·rw[he]
  exact iteT ⟨_,rfl,give k1 S1 (by lia)⟩
 have h0:0 < d.ns.length:=UM.mpr he
 have e0:(d.ns.map V.str).isEmpty=false:=by
  cases hh:d.ns with
  |nil=>exact absurd hh he
  |cons _ _=>rfl
 rw[e0]
 refine iteF ?_
 refine⟨_,rfl,st,2,_,rfl,S1,by lia,by decide,fun H2 r2 k2 S2 r20 r21=>⟨rfl,_,rfl,?_⟩⟩
 have k02:=k1.trans k2
 refine ite2 (fun _=>⟨_,rfl,give k02 S2 (by lia)⟩) (fun _=>?_)
 obtain⟨⟨tl,dl,tt,dss,hw,htl1,hdl,hTt,hTd⟩,wok⟩:=hW.kp S0 k02
 have dlen:=wok.dlen
 have hdl2:=hTd.len
 obtain⟨t,ht⟩:∃t,dss[0]?=some t:=⟨_,uk (by lia)⟩
 obtain⟨z,ss,g,sq,e1,e2,e3⟩:=hTd.get ht
 have wd:ss.length<=3/\So ss/\0<=g/\g<=2:=wok.ds _ (uo e1)
 have htr:(dss.map V.ref)[0]?=some (.ref t):=by rw[ue,ht];rfl
 have ssl:ss.length=d.ns.length:=by
  obtain⟨s',hs',hz',hl'⟩:=hfn.s
  obtain⟨i,hi⟩:=UD.mp hs'
  have il:i < 3:=by
   have:=(uc.mp hi).1
   lia
  have h1:(o.defs.map (·.1))[i]?=some s'.1:=by rw[ue,hi];rfl
  rw[wok.dn,ue,tE il]at h1
  have h2:((d::dr).map (·.z))[0]?=some d.z:=rfl
  rw[hN.nms]at h2
  have h3:nm o.z o.b (2-i)=nm o.z o.b 2:=(uP.inj h1).trans (hz'.trans (uP.inj h2).symm)
  have h4:=wV (by lia) (by lia) h3
  have:i=0:=by lia
  subst this
  rw[e1]at hi
  cases hi
  exact hl'
 have g12:=k02.tups S0 _ _ g1
 have g22:=k02.tups S0 _ _ g2
 refine⟨_,rfl,_,rfl,_,_,rfl,.inr (SqT.of g22),w0,o.z,o.b,_,(d.ns.map V.str).length,rfl,hw,wok.z,?_⟩
 rw[ua]
 generalize hy:nm o.z o.b d.ns.length=num
 refine⟨_,rfl,_,rfl,ixL hw aI3 ⟨dl,_,_,_,rfl,rfl,SqL.of hdl,zP (j:=0) htr,ixT e2 aI1 ⟨qn,sq,_,_,rfl,.inr (SqT.of g22),.inl (SqL.of e3),fun H3 pz zs s3 f3 hpz hzl _ _ hpair=>?_⟩⟩⟩
 have tz:=xS hzl hpair
 have hzl2:zs.length=ss.length:=by rw[hzl,ua,ua];lia
 refine⟨_,rfl,sN2,fun t1 h4=>⟨sN1,fun pl h5=>?_⟩⟩
 have s5:=(s3.new (o:=.tup [.str num,.int 0]) h4).new (o:=.lst [.ref t1]) h5
 have z5:Same H3 _:=(zn (o:=.tup [.str num,.int 0]) h4).new (o:=.lst [.ref t1]) h5
 have ht1:=old (o:=.lst [.ref t1]) h5 (upd_same (H:=H3) (a:=t1) (o:=.tup [.str num,.int 0]))
 have hpl:=upd_same (H:=upd H3 t1 (.tup [.str num,.int 0])) (a:=pl) (o:=.lst [.ref t1])
 generalize upd (upd H3 t1 (.tup [.str num,.int 0])) pl (.lst [.ref t1])=H5 at *
 refine⟨pz,pl,_,_,rfl,rfl,z5 _ _ hpz,hpl,by rw[ua];show _+1<=_;lia,fun pm h6=>?_⟩
 have em:zs.map V.ref++[V.ref t1]=(zs++[t1]).map V.ref:=by rw[uq];rfl
 rw[em]
 have s6:=s5.new (o:=.lst ((zs++[t1]).map V.ref)) h6
 have x6:=zn (o:=.lst ((zs++[t1]).map V.ref)) h6
 have hpm:=upd_same (H:=H5) (a:=pm) (o:=.lst ((zs++[t1]).map V.ref))
 generalize upd H5 pm (.lst ((zs++[t1]).map V.ref))=H6 at *
 have sc6:Sc H6 (d.ns.zip ss++[(num,0)]) pm:=by
  refine⟨⟨zs++[t1],hpm,((tz.keep (.of z5)).keep (.of x6)).app (.cons (x6 _ _ ht1) .nil)⟩,?_,fun x hx=>?_⟩
  ·rw[uf,UW,uU]
   lia
  ·rcases uz.mp hx with hx|hx
   ·have:=wd.2.1 x.2 (UG hx).2
    lia
   ·rw[ui.mp hx]
    exact⟨Int.le_refl _,by show(0:Int)<=13;decide⟩
 have k06:=k02.trans (.of s6)
 have S6:=S2.same s6
 have g26:=s6 _ _ g22
 refine⟨_,rfl,_,rfl,_,rfl,_,_,rfl,.inr (SqT.of g26),st,_,_,rfl,S6,by lia,(by rw[ua];lia),fun H7 r7 k7 S7 r70 r71=>?_⟩
 rw[ua]at r71
 have k07:=k06.trans k7
 obtain⟨x,hx⟩:∃x,d.ns[r7.toNat]?=some x:=⟨_,uk (by lia)⟩
 refine⟨qn,_,_,_,rfl,rfl,SqT.of (k7.tups S6 _ _ g26),xp r70 hx,?_⟩
 have hpm7:=k7.k _ _ (S6.neR hpm) hpm
 subst hr1_
 refine⟨_,rfl,_,rfl,_,rfl,_,rfl,_,_,rfl,.inl (SqL.of hpm7),_,rfl,st,4,_,rfl,S7,by lia,by decide,fun H8 r8 k8 S8 r80 r81=>?_⟩
 have k08:=k07.trans k8
 have hxn:x≠num:=fun e=>by
  have hxm:=uo hx
  rw[hfn.n]at hxm
  obtain⟨i,hi,hix⟩:=uC.mp hxm
  have:=UJ.mp hi
  have:=wV (by lia) (by lia) (hix.trans (e.trans hy.symm))
  lia
 have rk8:rk r8 (-1)<=8:=by
  unfold rk
  rw[if_pos (by decide)]
  lia
 have sll:(d.ns.zip ss++[(num,(0:Int))]).length=d.ns.length+1:=by
  rw[uf,UW,uU]
  lia
 have zsl:(zs++[t1]).length=d.ns.length+1:=by rw[uf,uU];lia
 refine⟨_,rfl,_,rfl,st,w0,pm,((zs++[t1]).map V.ref).length,r8,x,-1,_,d.ns.zip ss++[(num,0)],o,rfl,S8,by lia,hW.kp S0 k08,sc6.kp S6 (k7.trans k8),⟨(num,0),ur _ (ui.mpr rfl),hxn.symm⟩,r80,rk8,by lia,by rw[ua];lia,fun H9 pb' b k9 S9 hb hbz hbd hbb=>?_⟩
 rw[ua,zsl]at hbb
 have k09:=k08.trans k9
 have hp9:=k09.tups S0 _ _ hp
 have hpd9:=k09.tups S0 _ _ hpd
 have g29:=k09.tups S0 _ _ g2
 have hFr9:=hFr.keep (k09.tups S0)
 refine⟨_,rfl,ixT hp9 aI0 ⟨_,rfl,_,rfl,_,rfl,sN2,fun tn htn=>⟨_,rfl,sN4,fun tb htb=>⟨sN3,fun tf htf=>⟨sN1,fun tw htw=>?_⟩⟩⟩⟩⟩
 have s10:Same H9 _:=(((zn htn (.tup [.str "num",.int 3])).new (o:=.tup [.str "let",.str num,.ref tn,.ref pb']) htb).new (o:=.tup [.str d.z,.ref qn,.ref tb]) htf).new (o:=.tup [.ref tf]) htw
 have hd10:IsF (upd (upd (upd (upd H9 tn (.tup [.str "num",.int 3])) tb (.tup [.str "let",.str num,.ref tn,.ref pb'])) tf (.tup [.str d.z,.ref qn,.ref tb])) tw (.tup [.ref tf])) ⟨d.z,d.ns,.lt num (.num 3) b⟩ tf:=⟨qn,tb,old htw upd_same,s10 _ _ g29,.lt (old htw (old htf upd_same)) (.num (old htw (old htf (old htb upd_same)))) (hb.keep (.of s10))⟩
 have htw10:=upd_same (H:=upd (upd (upd H9 tn (.tup [.str "num",.int 3])) tb (.tup [.str "let",.str num,.ref tn,.ref pb'])) tf (.tup [.str d.z,.ref qn,.ref tb])) (a:=tw) (o:=.tup [.ref tf])
 generalize upd (upd (upd (upd H9 tn (.tup [.str "num",.int 3])) tb (.tup [.str "let",.str num,.ref tn,.ref pb'])) tf (.tup [.str d.z,.ref qn,.ref tb])) tw (.tup [.ref tf])=H10 at *
 refine⟨_,rfl,ixT (s10 _ _ hp9) aI1 ⟨_,rfl,pd,_,rfl,s10 _ _ hpd9,fun pc H11 s11 hpc=>?_⟩⟩
 rw[ZO (by decide)]at hpc
 have s911:Same H9 H11:=fun b u e=>s11 b u (s10 b u e)
 refine⟨tw,pc,_,_,rfl,rfl,SqT.of (s11 _ _ htw10),SqT.of hpc,by simp,?_,fun e=>?_,fun _ pm2 h12=>?_⟩
 ·rw[ua]
  show 1+tr.length<=_
  lia
 ·have e:tr.map V.ref=[]:=e
  have:=congrArg tZ e
  rw[ua,trl]at this
  cases this
 ·refine⟨sN2,fun pp h13=>?_⟩
  have s13:Same H11 _:=(zn h12 (.tup ([V.ref tf]++tr.map V.ref))).new (o:=.tup [.ref pk,.ref pm2]) h13
  have s913:=s911.trans s13
  refine q _ pp (⟨d.z,d.ns,.lt num (.num 3) b⟩ :: dr) (k09.trans (.of s913)) ((S9.same s913).mono (by lia)) ⟨pk,pm2,tf::tr,upd_same,old h13 upd_same,.cons ((hd10.keep (.of s11)).keep (.of s13)) (hFr9.keep (.of s913))⟩ ⟨dl3,hN.nms,fun d' hd'=>?_⟩
  rcases um.mp hd' with e|e
  ·subst e
   refine⟨nl,?_,?_,hfn.n,?_,hfn.s⟩
   ·show(Bd.lt num (.num 3) b).sz<=_
    rw[Bd.sz]
    lia
   ·show(Bd.lt num (.num 3) b).dp<=_
    rw[Bd.dp]
    lia
   ·show Bnm o d.ns.length 900 (Bd.lt num (.num 3) b).binds
    rw[Bd.binds]
    exact fun x hx=>(um.mp hx).elim (fun e=>⟨d.ns.length,ud _,by lia,by rw[e,hy]⟩) (hbb.mono (U8 _) x)
  ·exact hN.dd d' (uB _ e)
end
end GN
namespace L2
open PySem PySem.Spec PyProof.Rows
theorem Y1{P:Program}{w:World}{K:ub}{mg mb:Str->Option Value}{CX:CXT}{k:Nat}{fa a:Addr}{Ts:List Addr}{fd:FuncData}{x:Str}{sp:Sp}{s₁:Shared}{vs:List Value}{ns:List Int}
  (KX:K.In s₁.heap) (hT:∀T∈Ts,s₁.heap.get? T=some { cls:=.none,data:=.fields #[] }) (hTK:∀T∈Ts,K.lookup T=none) (hTc:∀T∈Ts,isCodeTable s₁.heap T) (hns:s₁.heap.Ns mainGlobals mg) (hb:s₁.heap.Ns builtinsNs mb) (hbb:∀x:Str,x≠"__name__"->mb x=bootBuiltins x) (hlim:s₁.heap.NoLimit) (hBM:BMn mg s₁.heap) (hg:s₁.gens=#[])
  (ha:s₁.heap.get? a=some { cls:=.type "list",data:=.seq vs.toArray }) (hi:IntsAre vs ns) (hl:ns.length<=sizeLine) (hr:Room k callerA)
  (F:∀base:Heap,K.In base->base.Ns mainGlobals mg->BMn mg base->FnOk P w K mg base CX k fa fd [x] sp) (hbind:∀(s:Shared)(u:Value),BindsTo s fd ⟨[u],[]⟩ [(x,u)])
  (hsp:∀H:Hp,(∀T∈Ts,H T=some (.tbl #[]))->SqL K H a (ns.map V.int)->sp [.ref a] H (fun v _=>v=.bl true) fun _ _ _=>False)
  (hCX:∀H e s',CX [] H s₁ (fun _ _ _=>False) e s'->False) :
  codeAny (model P w) callerA (.call (.ref fa) ⟨[.ref a],[]⟩) (fun r s'=>r=.ok (.ret (.bool true))/\OldK s₁.heap s'.heap/\s'.os=s₁.os/\AllBare s'.gens) s₁:=by
 have rv:=jd hi
 have lenV:=hi.length
 have nTa:a∉Ts:=fun e=>by rw[hT a e]at ha;cases ha
 have core:∀H:Hp,(∀b,H b=none\/(∃o xs,H b=some (.frz o (.lst xs)))\/(b∈Ts/\H b=some (.tbl #[])))->(∀T∈Ts,H T=some (.tbl #[]))->SqL K H a (ns.map V.int)->HOk P w H s₁.heap->(∀b,H b≠none->b=a\/b∈Ts)->(H a≠none->K.lookup a=none) ->
   codeAny (model P w) callerA (.call (.ref fa) ⟨[.ref a],[]⟩) (fun r s'=>r=.ok (.ret (.bool true))/\OldK s₁.heap s'.heap/\s'.os=s₁.os/\AllBare s'.gens) s₁:=by
  intro H hO hHT hS hok hA hK
  have base_of:∀{b:Addr}{o:Obj},s₁.heap.get? b=some o->H b=none->(hidT s₁.heap H).get? b=some o:=fun e n=>WK e n
  have noA:∀{b:Addr}{o:Obj}{es:Array DictEntry}{ep:Nat},s₁.heap.get? b=some o->o.data=.dict es ep->H b=none:=fun{b o es ep} e d=>by
   cases q:H b with
   |none=>rfl
   |some u =>
    rcases hA b (by rw[q];simp)with e'|e'
    ·subst e'
     rw[ha]at e;cases e
     have d':Data.seq vs.toArray _=Data.dict es ep:=d
     cases d'
    ·rw[hT b e']at e;cases e
     have d':Data.fields #[]=Data.dict es ep:=d
     cases d'
  have nsK:∀{b:Addr}{m:Str->Option Value},s₁.heap.Ns b m->(hidT s₁.heap H).Ns b m:=fun{b m}⟨o,es,ep,e,d,r⟩=>⟨o,es,ep,base_of e (noA e d),d,r⟩
  have hBb:BMn mg (hidT s₁.heap H):=by
   obtain⟨bm,ob,b1,b2,b3,b4,b5,b6⟩:=hBM
   refine⟨bm,ob,b1,b2,base_of b3 ?_,b4,b5,b6⟩
   cases q:H bm with
   |none=>rfl
   |some u =>
    rcases hA bm (by rw[q];simp)with e'|e'
    ·subst e'
     rw[ha]at b3;cases b3;cases b6
    ·rw[hT bm e']at b3;cases b3;cases b6
  have hKb:K.In (hidT s₁.heap H):=fun b o e=>base_of (KX b o e) (by
   cases q:H b with
   |none=>rfl
   |some u =>
    rcases hA b (by rw[q];simp)with e'|e'
    ·subst e'
     rw[hK (by rw[q];simp)]at e;cases e
    ·rw[hTK b e']at e;cases e)
  have hM:Mod K mg (hidT s₁.heap H):=⟨hKb,nsK hns,⟨mb,nsK hb,hbb⟩,let ⟨mc,h1,h2⟩:=hlim;⟨mc,nsK h1,h2⟩⟩
  have e0:Env0 P w K mg (hidT s₁.heap H) callerA [] s₁ H:=⟨rfl,hM,fun b o e=>JX e,Nat.le_of_eq (XX _ _),trivial,fun b hb=>absurd (show b∈([]:List Addr)from hb) (by simp),hok,.of_eq hg⟩
  refine codeAny_mono ((F _ hKb (nsK hns) hBb).run callerA [] s₁ H ⟨[.ref a],[]⟩ [.ref a] [.ref a] _ _ hr e0 (hbind s₁ (.ref a)) (.cons rfl .nil) (hsp H hHT hS)) fun r s' h=>?_
  cases r with
  |error e=>exact(hCX H e s' h).elim
  |ok fl =>
   cases fl with
   |next=>exact False.elim h
   |brk=>exact False.elim h
   |cont=>exact False.elim h
   |ret u =>
    obtain⟨v,H',os,bare,un,hok',r',q⟩:=h
    have q':v=.bl true:=q
    subst q'
    obtain rfl:u=Value.bool true:=r'
    refine⟨rfl,⟨fun b o e=>?_,fun b o e=>un.there b o e (by simp)⟩,os,bare⟩
    cases q:H b with
    |none=>exact .inl (un.keep b o e q (by intro z;exact absurd (show b∈([]:List Addr)from z) (by simp)) (by simp))
    |some u =>
     rcases hO b with z|⟨ob,xs,z⟩|⟨zm,z⟩
     ·rw[q]at z;cases z
     ·have z2:=un.frzs b ob _ z
      obtain⟨e1,_⟩:=hok b _ z
      obtain⟨e2,_⟩:=hok' b _ z2
      rw[e]at e1;cases e1
      exact .inl e2
     ·obtain⟨more,z2⟩:=un.tbls b _ z
      have e2:s'.heap.get? b=some { cls:=.none,data:=.fields (#[]++more) }:=hok' b _ z2
      rw[hT b zm]at e;cases e
      exact .inr (.inl ⟨hTc b zm,rfl,#[],more,rfl,e2⟩)
 cases hk:K.lookup a with
 |some o =>
  have e:=KX a o hk
  rw[ha]at e
  cases e
  refine core (fun b=>if b∈Ts then some (.tbl #[])else none) (fun b=>?_) (fun T hT=>if_pos hT) (.inr ⟨_,vs.toArray,_,hk,rfl,rfl,rfl,by rw[ut,lenV];exact hl,by simpa using rv⟩) (fun b u z=>?_) (fun b z=>?_) fun z=>absurd (if_neg nTa) z
  ·by_cases hb:b∈Ts
   ·exact .inr (.inr ⟨hb,if_pos hb⟩)
   ·exact .inl (if_neg hb)
  ·by_cases hb:b∈Ts
   ·have z':=(if_pos hb).symm.trans z
    cases z'
    exact hT b hb
   ·have z':=(if_neg hb).symm.trans z
    cases z'
  ·by_cases hb:b∈Ts
   ·exact .inr hb
   ·exact absurd (if_neg hb) z
 |none =>
  refine core (fun b=>if b∈Ts then some (.tbl #[])else if b=a then some (.frz { cls:=.type "list",data:=.seq vs.toArray } (.lst (ns.map V.int)))else none) (fun b=>?_) (fun T hT=>if_pos hT) (.inl (.inr ⟨{ cls:=.type "list",data:=.seq vs.toArray },(if_neg nTa).trans (if_pos rfl)⟩)) (fun b u z=>?_) (fun b z=>?_) fun _=>hk
  ·by_cases hb:b∈Ts
   ·exact .inr (.inr ⟨hb,if_pos hb⟩)
   ·by_cases hb2:b=a
    ·exact .inr (.inl ⟨_,_,(if_neg hb).trans (if_pos hb2)⟩)
    ·exact .inl ((if_neg hb).trans (if_neg hb2))
  ·by_cases hb:b∈Ts
   ·have z':=(if_pos hb).symm.trans z
    cases z'
    exact hT b hb
   ·by_cases hb2:b=a
    ·have z':some (HO.frz { cls:=.type "list",data:=.seq vs.toArray } (.lst (ns.map V.int)))=some u:=((if_neg hb).trans (if_pos hb2)).symm.trans z
     cases z'
     subst hb2
     exact⟨ha,by rw[ua];exact hl,vs,_,rv,ha⟩
    ·have z':none=some u:=((if_neg hb).trans (if_neg hb2)).symm.trans z
     cases z'
  ·by_cases hb:b∈Ts
   ·exact .inr hb
   ·by_cases hb2:b=a
    ·exact .inl hb2
    ·exact absurd ((if_neg hb).trans (if_neg hb2)) z
def wn(K:ub)(Ts:List Addr):Sp:=fun vs H Q _=>∃(a:Addr)(ns:List Int),vs=[.ref a]/\SqL K H a (ns.map V.int)/\ns.length<=63/\(∀T∈Ts,H T=some (.tbl #[]))/\∀H',Q (.bl true) H'
theorem JV{l:PySem.W.OpenLaw}{w:World}{K:ub}{h:Heap}{mg:Str->Option Value}{fa:Addr}{Ts:List Addr}{st:Stmt}{k:Nat}(d:DfIn K "law" st)(X:K.In h)(G:h.Ns mainGlobals mg)(hfa:mg "law"=some (.ref fa))
  (hb:∀(kV doc pm:Value)(an:Option Addr)(cdv ct:Value)(s:Shared)(u:Value),BindsTo s (Uf "law" "law" (z6 st) (zM st) (zo st) .none kV doc pm an cdv ct) ⟨[u],[]⟩ [("_law_script",u)])
  (ok:∀(base:Heap)(fd:FuncData),BMn mg base->Fun K "law" "law" st fa fd->FnOk l.prog w K mg base CX0 k fa fd ["_law_script"] (wn K Ts)) :
  ∃fd:FuncData,(∀(s:Shared)(u:Value),BindsTo s fd ⟨[u],[]⟩ [("_law_script",u)])/\∀base:Heap,K.In base->base.Ns mainGlobals mg->BMn mg base->FnOk l.prog w K mg base CX0 k fa fd ["_law_script"] (wn K Ts):=by
 obtain⟨fl,al,oc,od,kV,doc,pm,an,cdv,ct,osl,lk,cc,kk⟩:=d
 have e:fl=fa:=by
  have:=tV X G al
  rw[hfa]at this
  injection this with this
  injection this with this
  exact this.symm
 subst e
 exact⟨_,fun s v=>hb _ _ _ _ _ _ s v,fun base _ _ B=>ok base _ B (W7 (st:=st) lk cc kk)⟩
theorem walkTs{l:PySem.W.OpenLaw}{q:Program}{loose:List Str}{XP:(Str->Option Value)->Heap->Prop}{d:DefRec}{K:Params->ub}{as:List Addr}{e:∀p,as=(K p).map (·.1)}{Ts:List Addr}{k:Nat}(hn:l.most=some 63)(hr:Room k callerA)(hdf:d.params.defaults=[])(hnm:d.name="law")
  (hc:∀p,∀T∈Ts,∃c,UZ (K p) c T=true) (hTK:∀p,∀T∈Ts,(K p).lookup T=none)
  (F:∀(w:World)(mg:Str->Option Value)(fa:Addr)(h:Heap),(K w.params).In h->h.Ns mainGlobals mg->mg "law"=some (.ref fa)->∃fd:FuncData,(∀(s:Shared)(u:Value),BindsTo s fd ⟨[u],[]⟩ [("_law_script",u)])/\∀base:Heap,(K w.params).In base->base.Ns mainGlobals mg->BMn mg base->FnOk l.prog w (K w.params) mg base CX0 k fa fd ["_law_script"] (wn (K w.params) Ts)) :
  PySem.W.WalkO q loose XP (PySem.W.kmHook K as e Ts).says l.row.toRowW d [] (fun f vs=>PySem.call f vs):=by
 refine Att.attach_call hn hdf fun w s₀ s₁ mg mb fa o pm cd doc a vs ns G Y ho hd hcd hmg hobj hints hlen hg=>?_
 have KX:=PySem.W.km_in_of Y
 have hT:∀T∈Ts,_:=fun T hm=>PySem.W.km_tabs_of Y T hm
 obtain⟨fd,hb,hF⟩:=F w mg fa _ KX G.T.g (by rw[hnm]at hmg;exact hmg)
 have hTc:∀T∈Ts,isCodeTable s₁.heap T:=fun T hm=>by
  obtain⟨c,hc⟩:=hc w.params T hm
  obtain⟨o1,vs1,_,_,_,_,_,_,_,c1,c2,c3,c4,_⟩:=PySem.W.codeHd_of_K KX hc
  exact⟨c,o1,vs1,c1,c2,c3,c4⟩
 exact Y1 KX hT (hTK w.params) hTc G.T.g G.T.b G.T.builtins G.T.nolimit G.T.bmain hg hobj hints (Ua hlen (by decide)) hr hF hb (fun H hO hS=>⟨a,ns,rfl,hS,hlen,hO,fun _=>rfl⟩) fun _ _ _ z=>z
end L2
namespace GN
open PySem L2 K11
theorem Tbs.kp{T1 T2 st B:Addr}{K:ub}{H H':Hp}(h:Tbs T1 T2 H)(S:Sta K H st B)(k:Kp st H H'):Tbs T1 T2 H':=by
 obtain⟨a,ns,i,hst,_⟩:=S
 have n:∀{b:Addr}{u:HO},H b=some u->(∀xs,u≠.lst xs)->H' b=some u:=fun{b u} e n=>k.k b u (fun z=>by rw[z,hst]at e;exact n _ (uP.inj e).symm) e
 exact⟨h.t1.keep (fun ps e=>n e (by intro _ z;cases z)) fun c q e=>n e (by intro _ z;unfold CodO at z;cases z),h.t2.keep (fun ps e=>n e (by intro _ z;cases z)) fun c q e=>n e (by intro _ z;unfold CodO at z;cases z)⟩
def JW(K:ub):Sp:=fun vs H Q _=>∃(st w p:Addr)(B:Nat)(o:Wo)(d:Df),vs=[.ref st,.ref w,.ref p]/\Sta K H st B/\B+40 < LIM/\IsW H o w/\IsF H d p/\d.ns.length<=3/\FNm o d/\∀(H':Hp)(p':Addr)(d':Df),Kp st H H'->Sta K H' st (B+40)->IsF H' d' p'->d'.z=d.z->d'.ns=d.ns->d'.b.sz<=d.b.sz+31->d'.b.dp<=d.b.dp+31->FNm o d'->Q (.ref p') H'
section
variable{P:Program}{w:World}{K:ub}{mg:Str->Option Value}{base:Heap}{f:Addr}{fd:FuncData}
theorem scLong:FnScope ["_law_state","_law_world_here","_law_one","_law_body_here","_law_k"] lS19 (zo j4):=.ok
theorem zaG(F:Fun K "_law_longer" "_law_longer" j4 f fd)(GD:Ca P w K mg base CX0 1 "_law_draw" lS2 (yq K))(GN':Ca P w K mg base CX0 1 "_law_name" lS3 spNm)(m_range:mg "range"=none):FnOk P w K mg base CX0 2 f fd lS19 (JW K):=by
 refine F.by scLong (fun vs H Q E h=>?_) (fun cdv A outer s H vs Q E hr h=>?_)
 ·obtain⟨st,w,p,B,o,d,rfl,_⟩:=h
  rfl
 obtain⟨st,w0,p,B,o,d,rfl,S0,hB,hW,hF,nl,hN,q⟩:=h
 refine⟨_,
  (zg (sE 3 scLong.nd (xT 2))
  (zg (zJ PassesOwn.never rfl (zQ rfl m_range (jA1 (zx vm (zx yP (cA GD hr (jA2 (jv 0) zj)) zj) (zx zW zj (cA GD hr (jA2 (jv 0) zj)))))) (gN 4 scLong.nd)
   (zh (sE 3 scLong.nd (zq (jA4 zp (cA GN' hr (jA2 (jv 1) (zx ym zj (jv 4)))) (zq (jA2 zp (cA GD hr (jA2 (jv 0) (zx zbS zj zj))))) (jv 3))))))
  (zh (zu (zq (jA3 (xT 2) (xT 2) (jv 3))))))),?_⟩
 have sl:=zE
 have LM:LIM=4611686018427387904:=rfl
 obtain⟨pq,pb,hp,hpq,hpb⟩:=hF.ex
 refine⟨_,rfl,ixT hp aI2 ?_⟩
 refine⟨_,rfl,st,4,B,rfl,S0,by lia,by decide,fun H1 r1 k1 S1 r10 r11=>⟨_,_,rfl,rfl,⟨by decide,by decide⟩,?_⟩⟩
 refine⟨_,rfl,st,24,_,rfl,S1,by lia,by decide,fun H2 r2 k2 S2 q0 q1=>⟨_,_,rfl,rfl,_,_,rfl,rfl,.inl ⟨by lia,by lia⟩,?_⟩⟩
 have hm:0<=r1 / 3*(8+r2)/\r1 / 3*(8+r2)<=31:=by
  rcases(show r1 / 3=0\/r1 / 3=1 by lia)with e|e
  ·rw[e,Int.zero_mul];lia
  ·rw[e,Int.one_mul];lia
 obtain⟨n,hn⟩:∃n:Int,r1 / 3*(8+r2)=n:=⟨_,rfl⟩
 rw[hn]at hm
 refine⟨n,(by show[V.int (r1 / 3*(8+r2))]=[V.int n];rw[hn]),by lia,by lia,yT (n:=n.toNat) (fun i σ H'=>Kp st H H'/\Sta K H' st (B+2+i)/\∃(pb:Addr)(b:Bd)(x:Option V),σ=[some (.ref st),some (.ref w0),some (.ref p),some (.ref pb),x]/\IsB H' b pb/\b.sz<=d.b.sz+i/\b.dp<=d.b.dp+i/\Bnm o d.ns.length 900 b.binds) ⟨k1.trans k2,S2,pb,d.b,none,rfl,hpb.keep ((k1.trans k2).tups S0),ud _,ud _,hN.b⟩ ?_ ?_⟩
 ·rintro i σ H3 hi ⟨k3,S3,pb,b,x,rfl,hb,bz,bd,bb⟩
  have ek:(600:Int)-(0+(i:Nat))=((600-i:Nat):Int):=by lia
  obtain⟨⟨tl,dl,tt,ds,hw,htl1,hdl,hTt,hTd⟩,wok⟩:=hW.kp S0 k3
  refine⟨_,rfl,_,rfl,_,_,rfl,rfl,w0,o.z,o.b,_,600-i,(by show[V.ref w0,V.int (600-(0+(i:Nat)))]=_;rw[ek]),hw,wok.z,?_⟩
  refine⟨_,rfl,_,_,rfl,rfl,⟨by decide,by decide,by decide⟩,st,_,_,rfl,S3,by lia,(by decide),fun H4 r4 k4 S4 _ _=>⟨sN2,fun t1 h1=>⟨_,rfl,sN4,fun t2 h2=>?_⟩⟩⟩
  have s42:Same H4 _:=(zn h1 (.tup [.str "num",.int r4])).new (o:=.tup [.str "let",.str (nm o.z o.b (600-i)),.ref t1,.ref pb]) h2
  refine⟨((k3.trans k4).new h1).new h2,(S4.same s42).mono (by lia),t2,.lt (nm o.z o.b (600-i)) (.num r4) b,_,rfl,.lt upd_same (.num (old h2 upd_same)) ((hb.keep (k4.tups S3)).keep (.of s42)),by rw[Bd.sz];lia,by rw[Bd.dp];lia,?_⟩
  rw[Bd.binds]
  exact fun x hx=>(um.mp hx).elim (fun e=>⟨600-i,by lia,by lia,e⟩) (bb x)
 ·rintro σ H3 ⟨k3,S3,pb,b,x,rfl,hb,bz,bd,bb⟩
  have hp3:=k3.tups S0 _ _ hp
  refine⟨_,rfl,ixT hp3 aI0 ⟨_,rfl,ixT hp3 aI1 ⟨_,rfl,sN3,fun t h=>?_⟩⟩⟩
  refine q _ t ⟨d.z,d.ns,b⟩ (k3.new h) ((S3.mono (by lia)).new h _) ⟨pq,pb,upd_same,old h (k3.tups S0 _ _ hpq),hb.keep (.of (zn h _))⟩ rfl rfl ?_ ?_ ⟨hN.n,bb,hN.s⟩
  ·show b.sz<=_
   lia
  ·show b.dp<=_
   lia
theorem scLaw:FnScope ["_law_script","_law_state","_law_world_here","_law_first","_law_more","_law_other_here"] ["_law_script"] (zo sLaw):=.ok
theorem zc3:(["_law_script","_law_state","_law_world_here","_law_first","_law_more","_law_other_here","_law_one"]:List Str).Nodup:=by decide +kernel
theorem zcI{T1 T2:Addr}(F:Fun K "law" "law" sLaw f fd)(GW:Ca P w K mg base CX0 3 "_law_world" ["_law_state"] (Xs K))(GP:Ca P w K mg base CX0 (8+2*6) "_law_program" lS9 (jm K 6))(GI:Ca P w K mg base CX0 20 "_law_with_laid" lS13 (JU K))(GL:Ca P w K mg base CX0 2 "_law_longer" lS19 (JW K))(GR:Ca P w K mg base CX0 42 "_law_right" ["_law_program_here"] (XU 37 T1 T2))(m_tuple:mg "tuple"=none):FnOk P w K mg base CX0 43 f fd ["_law_script"] (wn K [T2,T1]):=by
 refine F.by scLaw (fun vs H Q E h=>?_) (fun cdv A outer s H vs Q E hr h=>?_)
 ·obtain⟨a,ns,rfl,_⟩:=h
  rfl
 obtain⟨a,ns,rfl,hS,h63,hTs,q⟩:=h
 have hr2:Room 2 _:=hr.mono (by decide)
 have hr3:Room 3 _:=hr.mono (by decide)
 have hr20:Room 20 _:=hr.mono (by decide)
 have hr22:Room (8+2*6) _:=hr.mono (by decide)
 refine⟨_,
  (zg (sE 1 scLaw.nd (zB (jA2 (jv 0) zj)))
  (zg (sE 2 scLaw.nd (cA GW hr3 (jA1 (jv 1))))
  (zg (sE 3 scLaw.nd (cA GI hr20 (jA3 (jv 1) (jv 2) (cA GP hr22 (jA3 (jv 1) (jv 2) zj)))))
  (zg (sE 4 scLaw.nd (cA GW hr3 (jA1 (jv 1))))
  (zg (sE 5 scLaw.nd (cA GP hr22 (jA3 (jv 1) (jv 4) zj)))
  (zg (sE 5 scLaw.nd (zq (jA2 (xT 5) (yv zN rfl m_tuple u0 (jA1 (yk ["_law_one"] rfl (yK (xT 5)) (fun _ _ _ _ _=>(gN 6 zc3)) (fun _ _ _ _ _=>zR) (fun _ _ _ _ _=>(cA GL hr2 (jA3 (jv 1) (jv 4) (jv 6))))))))))
  (zh (zu (jP (cA GR hr (jA1 (jv 3))) (jP (cA GR hr (jA1 (jv 5))) (Vc (cA GR hr (jA1 (jv 3)))))))))))))),?_⟩
 have sl:=zE
 have LM:LIM=4611686018427387904:=rfl
 have cb:CB 6=109200:=rfl
 have sz6:SZ 6=14560:=rfl
 refine⟨_,rfl,sN2,fun st h1=>?_⟩
 have S1:Sta K (upd H st (.lst [.ref a,.int ((0:Nat):Int)])) st 0:=by
  refine⟨a,ns,0,upd_same,fun e=>?_,(zn h1 _).seq hS,ud _⟩
  rcases hS with(h|⟨o,h⟩)|h
  ·exact absurd e (zk h h1)
  ·exact absurd e (zk h h1)
  ·exact fun _=>.inr h
 have T1':Tbs T1 T2 (upd H st (.lst [.ref a,.int ((0:Nat):Int)])):=⟨.empty (old h1 (hTs T1 (.tail _ (.head _)))),.empty (old h1 (hTs T2 (.head _)))⟩
 show(tSeq _ _:TS) _ _ (upd H st (.lst [.ref a,.int ((0:Nat):Int)]))
 generalize upd H st (.lst [.ref a,.int ((0:Nat):Int)])=H1 at *
 refine⟨_,rfl,st,0,rfl,S1,by lia,fun H2 w0 o k2 S2 hW=>?_⟩
 refine⟨_,rfl,_,rfl,_,rfl,_,rfl,st,w0,_,4,o,rfl,S2,by lia,hW,by decide,by decide,fun H3 p pk pd p1 p2 t1 t2 ds dfs k3 S3 hp _ _ _ _ _ hpd hFs hdl hok hnm=>?_⟩
 have T3:=(T1'.kp S1 k2).kp S2 k3
 have prn:∀{o':Wo}{es:List Df}{qs:List Addr}{H':Hp},IsFs H' es qs->qs.length=3->(∀d∈es,FOk 6 d/\FNm o' d)->es.map (·.z)=(uE 3).map (fun k=>nm o'.z o'.b (2-k))->PrN o' 14560 11 es:=fun{o' es qs H'} hF hl hk hn=>⟨hF.len.trans hl,hn,fun d hd=>by
  obtain⟨⟨a,b,c⟩,e⟩:=hk d hd
  exact⟨a,by lia,by lia,e⟩⟩
 refine⟨st,w0,p,pk,pd,ds,_,o,dfs,rfl,S3,by lia,hW.kp S2 k3,hp,hpd,hFs,prn hFs hdl hok hnm,fun H4 pf df k4 S4 P4 N4=>?_⟩
 have T4:=T3.kp S3 k4
 clear k2 S1 S2 hW T1' T3 k3 S3 hp hpd hFs hdl hok hnm hTs hS
 refine⟨_,rfl,st,_,rfl,S4,by lia,fun H5 w1 o1 k5 S5 hW1=>?_⟩
 refine⟨_,rfl,_,rfl,st,w1,_,3,o1,rfl,S5,by lia,hW1,by decide,by decide,fun H6 p6 pk6 pd6 _ _ _ _ ds6 df6 k6 S6 hp6 _ _ _ _ _ hpd6 hF6 hdl6 hok6 hnm6=>?_⟩
 have T6:=(T4.kp S4 k5).kp S5 k6
 have P6:=P4.keep ((k5.tups S4).trans (k6.tups S5))
 have W6:=hW1.kp S5 k6
 refine⟨_,rfl,ixT hp6 aI0 ⟨_,rfl,ixT hp6 aI1 ⟨pd6,rfl,⟨_,SqT.of hpd6⟩,Ys (xs:=ds6.map V.ref) (fun j τ ys H'=>Kp st H6 H'/\Sta K H' st (10000000+40*j)/\(∃x,τ=[some (.ref a),some (.ref st),some (.ref w0),some (.ref pf),some (.ref w1),some (.ref p6),x])/\∃(qs:List Addr)(es:List Df),ys=qs.map V.ref/\qs.length=j/\IsFs H' es qs/\es.map (·.z)=(df6.take j).map (·.z)/\∀d∈es,d.ns.length<=3/\d.b.sz<=15000/\d.b.dp<=37/\FNm o1 d) ⟨Kp.refl,S6.mono (by lia),⟨none,rfl⟩,[],[],rfl,rfl,.nil,rfl,fun d hd=>by cases hd⟩ (fun j τ ys H' _ h=>SqT.of (h.1.tups S6 _ _ hpd6)) ?_ ?_⟩⟩⟩
 ·rintro j v τ ys H7 hv ⟨k7,S7,⟨x,rfl⟩,qs,es,rfl,hql,hE,hnE,hdE⟩
  rw[ue]at hv
  obtain⟨t,ht,rfl⟩:=uh.mp hv
  obtain⟨d,hd,hFd⟩:=hF6.get ht
  obtain⟨⟨a1,a2,a3⟩,hN⟩:=hok6 d (uo hd)
  have hj:j < 3:=by
   have:=(uc.mp ht).1
   lia
  refine⟨_,rfl,_,rfl,_,rfl,st,w1,t,_,o1,d,rfl,S7,by lia,W6.kp S6 k7,hFd.keep (k7.tups S6),a1,hN,fun H8 p8 d8 k8 S8 h8 z8 n8 sz8 dp8 N8=>⟨by rw[ua];lia,k7.trans k8,S8,⟨_,rfl⟩,qs++[p8],es++[d8],by simp,by simp[hql],(hE.keep (k8.tups S7)).app (.cons h8 .nil),?_,fun e he=>?_⟩⟩
  ·rw[uq,hnE,uv,hd,uq]
   show _++[d8.z]=_++[d.z]
   rw[z8]
  ·rcases uz.mp he with he|he
   ·exact hdE e he
   ·rw[ui.mp he]
    exact⟨by rw[n8];exact a1,by lia,by lia,N8⟩
 rintro τ ys H7 ⟨k7,S7,-,qs,es,rfl,hql,hE,hnE,hdE⟩ l7 hl7
 rw[ua]at hql
 have dl6:=hF6.len
 rw[ua,<- dl6,uj (ud _),hnm6]at hnE
 refine⟨l7,_,rfl,.inl ⟨SqL.of upd_same,fun p8 h8=>⟨sN2,fun p9 h9=>?_⟩⟩⟩
 have s9:Same H7 _:=((zn hl7 (.lst (qs.map V.ref))).new (o:=.tup (qs.map V.ref)) h8).new (o:=.tup [.ref pk6,.ref p8]) h9
 have N9:PrN o1 15000 37 es:=⟨by rw[hE.len];lia,hnE,hdE⟩
 have P9:PrOk _ p9 es:=⟨pk6,p8,qs,upd_same,old (o:=.tup [.ref pk6,.ref p8]) h9 upd_same,hE.keep (.of s9)⟩
 have T9:=(T6.kp S6 k7).same s9
 have P6':=(P6.keep (k7.tups S6)).keep (.of s9)
 generalize upd (upd (upd H7 l7 (.lst (qs.map V.ref))) p8 (.tup (qs.map V.ref))) p9 (.tup [.ref pk6,.ref p8])=H9 at *
 have N4':PrN o 14560 37 df:=⟨N4.len,N4.nms,fun d hd=>by obtain⟨a,b,c,e⟩:=N4.dd d hd;exact⟨a,b,by lia,e⟩⟩
 refine⟨_,rfl,pf,df,rfl,P6',N4'.prr (by decide),T9,fun H10 k10 T10=>⟨_,rfl,iteT ?_⟩⟩
 refine⟨_,rfl,p9,es,rfl,P9.keep (T9.tups k10),N9.prr (by decide),T10,fun H11 k11 T11=>⟨_,rfl,iteT ?_⟩⟩
 exact⟨_,rfl,pf,df,rfl,(P6'.keep (T9.tups k10)).keep (T10.tups k11),N4'.prr (by decide),T11,fun H12 k12 T12=>q _⟩
end
structure TopK(K:ub)(cB cU:Addr):Prop where
 q6:OwnIn K "Begun" cB
 qj:u6 K (.ref cB) "within"=some none
 qk:u6 K (.ref cB) "finish"=some none
 qe:u6 K (.ref cB) "results"=some none
 qac:OwnIn K "Uses" cU
 qn:u6 K (.ref cU) "handed"=some none
 qs:u6 K (.ref cU) "found"=some none
 qt:u6 K (.ref cU) "calls"=some none
 q7:DcIn K "noted" wr 93
 qu:DcIn K "begun_note" yW 98
 hc1:UZ K 93 89=true
 hc2:UZ K 98 96=true
 q2:DfIn K "ways_on" Vz
 qb:MeIn K cB "__init__" "Begun.__init__" Yt
 qV:DfIn K "only_one" VA
 qv:DfIn K "worked_out" j1
 q3:DfIn K "bits_of" VB
 qW:DfIn K "together" sTog
 qX:DfIn K "names_of" vz
 qw:DfIn K "names_used" xG
 q4:DfIn K "note_of" j2
 q8:DfIn K "ahead" Yu
 qf:DfIn K "bodies_within" yS
 qG:DfIn K "bodies_in" wu
 q9:DfIn K "makes" Yw
 qg:DfIn K "arm_uses_anew" vE
 qH:DfIn K "uses_anew" wx
 qh:MeIn K cU "__init__" "Uses.__init__" Yv
 qa:MeIn K cU "add_reason" "Uses.add_reason" xH
 qi:MeIn K cU "add_call" "Uses.add_call" vC
 qI:DfIn K "note_deed" ww
 qJ:DfIn K "note_body" wv
 qY:DfIn K "all_uses" vD
 qZ:DfIn K "own_rows" vB
 q5:DfIn K "reasons" vA
 qK:DfIn K "_law_draw" VC
 qL:DfIn K "_law_name" sNm
 qx:DfIn K "_law_sorts" Yx
 qy:DfIn K "_law_world" Yy
 qz:DfIn K "_law_kinds" Yz
 qM:DfIn K "_law_pick" VD
 qA:DfIn K "_law_picks" YA
 qo:DfIn K "_law_handed" j3
 qN:DfIn K "_law_deed" VE
 qB:DfIn K "_law_rooms" YB
 qO:DfIn K "_law_case" VF
 qP:DfIn K "_law_body" Xn
 q0:DfIn K "_law_def" sDef
 ql:DfIn K "_law_program" vF
 qC:DfIn K "_law_other" YC
 qc:DfIn K "_law_last_make" wy
 qQ:DfIn K "_law_fork" VG
 qR:DfIn K "_law_laid" Xo
 qd:DfIn K "_law_with_laid" wz
 qp:DfIn K "_law_pieces" wT
 qD:DfIn K "_law_deeds" YD
 qS:DfIn K "_law_says" VH
 qT:DfIn K "_law_anew" YE
 qm:DfIn K "_law_by_func" j6
 qq:DfIn K "_law_direct" j7
 qE:DfIn K "_law_calls" YF
 qF:DfIn K "_law_right" j5
 qr:DfIn K "_law_longer" j4
 qae:DfIn K "law" sLaw
 qaf:Uy K mainGlobals "len"=some none
 qaa:Uy K mainGlobals "range"=some none
 qad:Uy K mainGlobals "list"=some none
 qab:Uy K mainGlobals "tuple"=some none
 qag:Uy K mainGlobals "zip"=some none
 qah:Uy K mainGlobals "max"=some none
 qai:Uy K mainGlobals "any"=some none
 q1:Uy K mainGlobals "reversed"=some none
 qU:Uy K mainGlobals "enumerate"=some none
theorem top_ok{l:PySem.W.OpenLaw}{w:World}{K:ub}{h:Heap}{mg:Str->Option Value}{fa cB cU:Addr}(T:TopK K cB cU)(X:K.In h)(G:h.Ns mainGlobals mg)(hfa:mg "law"=some (.ref fa)):
  ∃fd:FuncData,(∀(s:Shared)(u:Value),BindsTo s fd ⟨[u],[]⟩ [("_law_script",u)])/\∀base:Heap,K.In base->base.Ns mainGlobals mg->BMn mg base->FnOk l.prog w K mg base CX0 43 fa fd ["_law_script"] (wn K [96,89]):=by
 refine JV T.qae X G hfa (fun _ _ _ _ _ _ s v=>.of_eq rfl) fun base fd hBM FL=>?_
 have qaf:mg "len"=none:=Uv X G T.qaf
 have qaa:mg "range"=none:=Uv X G T.qaa
 have qad:mg "list"=none:=Uv X G T.qad
 have qab:mg "tuple"=none:=Uv X G T.qab
 have qag:mg "zip"=none:=Uv X G T.qag
 have qah:mg "max"=none:=Uv X G T.qah
 have qai:mg "any"=none:=Uv X G T.qai
 have q1:mg "reversed"=none:=Uv X G T.q1
 have qU:mg "enumerate"=none:=Uv X G T.qU
 have n_Begun:mg "Begun"=some (.ref cB):=tV X G T.q6.n
 have n_Uses:mg "Uses"=some (.ref cU):=tV X G T.qac.n
 have BN:Bn K cB:=⟨T.q6.cls,T.qj,T.qk,T.qe⟩
 have UN:Un K cU:=⟨T.qac.cls,T.qn,T.qs,T.qt⟩
 have G1:=DfIn.ca (P:=l.prog) (w:=w) (base:=base) X G T.q2 (ps:=["body"]) (fun _ _ _ _ _ _=>us1 fun _=>rfl) fun f fd F=>QR F
 have GB:=T.qb.ma (P:=l.prog) (w:=w) (mg:=mg) (base:=base) (x:="Begun") (ps:=lS22) (fun _ _ _ _ _ _=>us3 fun _ _ _=>rfl) T.q6.mks T.q6.kp n_Begun fun f fd F=>V4 F BN
 have GO:=DfIn.ca (P:=l.prog) (w:=w) (base:=base) X G T.qV (ps:=["results"]) (fun _ _ _ _ _ _=>us1 fun _=>rfl) fun f fd F=>Q0 F
 obtain⟨fo,fdo,GO1,GO2,GO3,GO4⟩:=GO.ex
 have GW:=DfIn.ca (P:=l.prog) (w:=w) (base:=base) X G T.qv (ps:=["task","begin"]) (fun _ _ _ _ _ _=>us2 fun _ _=>rfl) fun f fd F=>Wm (k:=4) F BN GB GO1 GO2 GO3 GO4 qaf (by decide)
 have GBi:=DfIn.ca (P:=l.prog) (w:=w) (base:=base) X G T.q3 (ps:=["names"]) (fun _ _ _ _ _ _=>us1 fun _=>rfl) fun f fd F=>Q5 F
 have GT:=DfIn.ca (P:=l.prog) (w:=w) (base:=base) X G T.qW (ps:=["names","bits"]) (fun _ _ _ _ _ _=>us2 fun _ _=>rfl) fun f fd F=>zcj F
 have GNo:=DfIn.ca (P:=l.prog) (w:=w) (base:=base) X G T.qX (ps:=["deed"]) (fun _ _ _ _ _ _=>us1 fun _=>rfl) fun f fd F=>YM F
 have GU:=DfIn.ca X G T.qw (ps:=["body"]) (fun _ _ _ _ _ _=>us1 fun _=>rfl) fun f fd F=>Q6 F GNo
 have GNt:=DfIn.ca X G T.q4 (ps:=lS17) (fun _ _ _ _ _ _=>us4 fun _ _ _ _=>rfl) fun f fd F=>Wr F GT GU qag
 have GBn:=DcIn.ca (P:=l.prog) (w:=w) (base:=base) X G T.qu (ps:=lS20) (fun _ _ _ _ _=>us2 fun _ _=>rfl) fun f fd F=>YN F hBM T.hc2 G1
 have GNd:=DcIn.ca (P:=l.prog) (w:=w) (base:=base) X G T.q7 (ps:=lS20) (fun _ _ _ _ _=>us2 fun _ _=>rfl) fun f fd F=>Jh F hBM T.hc1 (by decide) GBn GNt GW
 have GA:=DfIn.ca X G T.q8 (ps:=["body","names"]) (fun _ _ _ _ _ _=>us2 fun _ _=>rfl) fun f fd F=>Ji F GNd GBi
 have HW:=DfIn.ca X G T.qf (ps:=["body"]) (fun _ _ _ _ _ _=>us1 fun _=>rfl) fun f fd F=>YQ F G1
 have HI:=DfIn.ca X G T.qG (ps:=["body"]) (fun _ _ _ _ _ _=>us1 fun _=>rfl) fun f fd F=>zcp F HW qaf q1
 have HM:=DfIn.ca (P:=l.prog) (w:=w) (base:=base) X G T.q9 (ps:=["body","many"]) (fun _ _ _ _ _ _=>us2 fun _ _=>rfl) fun f fd F=>Jp F qaf
 have HA:=DfIn.ca X G T.qg (ps:=["name","arm"]) (fun _ _ _ _ _ _=>us2 fun _ _=>rfl) fun f fd F=>zae F GA HI HM qaf qai
 have HN:=DfIn.ca X G T.qH (ps:=["body"]) (fun _ _ _ _ _ _=>us1 fun _=>rfl) fun f fd F=>zaf F HA qai
 have HU:=T.qh.ma (P:=l.prog) (w:=w) (mg:=mg) (base:=base) (x:="Uses") (ps:=["self"]) (fun _ _ _ _ _ _=>us1 fun _=>rfl) T.qac.mks T.qac.kp n_Uses fun f fd F=>Jv F UN
 have HR:=T.qa.me (P:=l.prog) (w:=w) (mg:=mg) (base:=base) (ps:=lS12) (fun _ _ _ _ _ _=>us4 fun _ _ _ _=>rfl) fun f fd F=>zai (T1:=89) (T2:=96) F UN
 have HC:=T.qi.me (P:=l.prog) (w:=w) (mg:=mg) (base:=base) (ps:=lS25) (fun _ _ _ _ _ _=>us3 fun _ _ _=>rfl) fun f fd F=>zaj (T1:=89) (T2:=96) F UN qU
 have HD:=DfIn.ca (P:=l.prog) (w:=w) (base:=base) X G T.qI (ps:=lS26) (fun _ _ _ _ _ _=>us3 fun _ _ _=>rfl) fun f fd F=>Jw F UN HR HC
 have HB:=DfIn.ca X G T.qJ (ps:=lS23) (fun _ _ _ _ _ _=>us3 fun _ _ _=>rfl) fun f fd F=>Jy F UN HR HD HN
 have HL:=DfIn.ca X G T.qY (ps:=["program"]) (fun _ _ _ _ _ _=>us1 fun _=>rfl) fun f fd F=>zam F UN HU HI HB qU
 have HO:=DfIn.ca (P:=l.prog) (w:=w) (base:=base) X G T.qZ (ps:=["program","uses"]) (fun _ _ _ _ _ _=>us2 fun _ _=>rfl) fun f fd F=>zcv (T1:=89) (T2:=96) F UN qaa qaf
 have HS:=DfIn.ca X G T.q5 (ps:=["program"]) (fun _ _ _ _ _ _=>us1 fun _=>rfl) fun f fd F=>YX F UN HL HO qaf
 have LD:=DfIn.ca (P:=l.prog) (w:=w) (base:=base) X G T.qK (ps:=lS2) (fun _ _ _ _ _ _=>us2 fun _ _=>rfl) fun f fd F=>QH F qaf
 have LN:=DfIn.ca (P:=l.prog) (w:=w) (base:=base) X G T.qL (ps:=lS3) (fun _ _ _ _ _ _=>us2 fun _ _=>rfl) fun f fd F=>zc1 F
 have LS:=DfIn.ca X G T.qx (ps:=lS14) (fun _ _ _ _ _ _=>us3 fun _ _ _=>rfl) fun f fd F=>VJ F LD qaa
 have LW:=DfIn.ca X G T.qy (ps:=["_law_state"]) (fun _ _ _ _ _ _=>us1 fun _=>rfl) fun f fd F=>VM F LD LN LS qaa
 have LK:=DfIn.ca (P:=l.prog) (w:=w) (base:=base) X G T.qz (ps:=["_law_world_here"]) (fun _ _ _ _ _ _=>us1 fun _=>rfl) fun f fd F=>VT F qaf qab
 have LP:=DfIn.ca X G T.qM (ps:=lS6) (fun _ _ _ _ _ _=>us3 fun _ _ _=>rfl) fun f fd F=>QK F LD qaf
 have LQ:=DfIn.ca X G T.qA (ps:=lS7) (fun _ _ _ _ _ _=>us3 fun _ _ _=>rfl) fun f fd F=>VN F LP qab
 have LH:=DfIn.ca X G T.qo (ps:=lS18) (fun _ _ _ _ _ _=>us3 fun _ _ _=>rfl) fun f fd F=>Wh F LD LQ qaf qaa qah
 have LE:=DfIn.ca X G T.qN (ps:=lS8) (fun _ _ _ _ _ _=>us4 fun _ _ _ _=>rfl) fun f fd F=>QN F LD LP LQ LH
 have LR:=DfIn.ca X G T.qB (ps:=lS16) (fun _ _ _ _ _ _=>us3 fun _ _ _=>rfl) fun f fd F=>VR F LD qaa
 have LB:∀n:Nat,Ca l.prog w K mg base CX0 (6+2*n) "_law_body" lS1 (wA K n):=by
  intro n
  induction n with
  |zero=>exact DfIn.ca (P:=l.prog) (w:=w) (base:=base) X G T.qP (ps:=lS1) (fun _ _ _ _ _ _=>us6 fun _ _ _ _ _ _=>rfl) fun f fd F=>VS F
  |succ n ih =>
   have LC:=DfIn.ca (P:=l.prog) (w:=w) (base:=base) X G T.qO (ps:=lS1) (fun _ _ _ _ _ _=>us6 fun _ _ _ _ _ _=>rfl) fun f fd F=>QP (n:=n) F LD LN LP LR ih qaf qaa qag qad qab
   exact DfIn.ca (P:=l.prog) (w:=w) (base:=base) X G T.qP (ps:=lS1) (fun _ _ _ _ _ _=>us6 fun _ _ _ _ _ _=>rfl) fun f fd F=>QQ F LD LN LP LR LE LC ih
 have LF:=DfIn.ca X G T.q0 (ps:=lS10) (fun _ _ _ _ _ _=>us4 fun _ _ _ _=>rfl) fun f fd F=>zb8 F LN (LB 6) qaf qaa qag qad qab
 have LG:=DfIn.ca X G T.ql (ps:=lS9) (fun _ _ _ _ _ _=>us3 fun _ _ _=>rfl) fun f fd F=>YI F LK LF qaa qab
 have LOt:=DfIn.ca X G T.qC (ps:=lS11) (fun _ _ _ _ _ _=>us3 fun _ _ _=>rfl) fun f fd F=>JO F LD qaf
 have LLm:=DfIn.ca X G T.qc (ps:=lS4) (fun _ _ _ _ _ _=>us6 fun _ _ _ _ _ _=>rfl) fun f fd F=>Ya F LD LN LOt qaf qab
 have LLa:∀n:Nat,Ca l.prog w K mg base CX0 (3+2*n) "_law_laid" lS0 (wH K n):=by
  intro n
  induction n with
  |zero=>exact DfIn.ca (P:=l.prog) (w:=w) (base:=base) X G T.qR (ps:=lS0) (fun _ _ _ _ _ _=>us7 fun _ _ _ _ _ _ _=>rfl) fun f fd F=>JS F
  |succ n ih =>
   have LFk:=DfIn.ca (P:=l.prog) (w:=w) (base:=base) X G T.qQ (ps:=lS0) (fun _ _ _ _ _ _=>us7 fun _ _ _ _ _ _ _=>rfl) fun f fd F=>zaE (n:=n) F LD LN LOt ih qaf qaa qag qad qab qU
   exact DfIn.ca (P:=l.prog) (w:=w) (base:=base) X G T.qR (ps:=lS0) (fun _ _ _ _ _ _=>us7 fun _ _ _ _ _ _ _=>rfl) fun f fd F=>zaD F LD LN LOt LLm LFk ih qaf
 have LWl:=DfIn.ca X G T.qd (ps:=lS13) (fun _ _ _ _ _ _=>us3 fun _ _ _=>rfl) fun f fd F=>zaF F LD LN (LLa 8) qaf qag qad
 have LPc:∀n:Nat,Ca l.prog w K mg base CX0 (1+n) "_law_pieces" ["_law_body_here"] (yE n):=by
  intro n
  induction n with
  |zero=>exact DfIn.ca (P:=l.prog) (w:=w) (base:=base) X G T.qp (ps:=["_law_body_here"]) (fun _ _ _ _ _ _=>us1 fun _=>rfl) fun f fd F=>YW F
  |succ n ih=>exact DfIn.ca (P:=l.prog) (w:=w) (base:=base) X G T.qp (ps:=["_law_body_here"]) (fun _ _ _ _ _ _=>us1 fun _=>rfl) fun f fd F=>WB F ih
 have LDs:=DfIn.ca (P:=l.prog) (w:=w) (base:=base) X G T.qD (ps:=["_law_body_here"]) (fun _ _ _ _ _ _=>us1 fun _=>rfl) fun f fd F=>JH F (LPc 37)
 have LSy:=DfIn.ca (P:=l.prog) (w:=w) (base:=base) X G T.qS (ps:=lS5) (fun _ _ _ _ _ _=>us2 fun _ _=>rfl) fun f fd F=>zau F (LPc 37)
 have LAn:=DfIn.ca X G T.qT (ps:=lS5) (fun _ _ _ _ _ _=>us2 fun _ _=>rfl) fun f fd F=>JJ F (LPc 37) LDs LSy qaf
 have LBf:=DfIn.ca X G T.qm (ps:=lS21) (fun _ _ _ _ _ _=>us2 fun _ _=>rfl) fun f fd F=>zcE F LDs
 have LDi:=DfIn.ca X G T.qq (ps:=lS15) (fun _ _ _ _ _ _=>us3 fun _ _ _=>rfl) fun f fd F=>WG F (LPc 37) LDs LBf LAn
 have LCa:=DfIn.ca X G T.qE (ps:=lS24) (fun _ _ _ _ _ _=>us2 fun _ _=>rfl) fun f fd F=>JM F LDs qaa qaf
 have LRi:=DfIn.ca X G T.qF (ps:=["_law_program_here"]) (fun _ _ _ _ _ _=>us1 fun _=>rfl) fun f fd F=>JN (n:=37) (k0:=41) (T1:=89) (T2:=96) (by decide) F HS LDi LCa qaa qaf
 have LLo:=DfIn.ca X G T.qr (ps:=lS19) (fun _ _ _ _ _ _=>us3 fun _ _ _=>rfl) fun f fd F=>zaG F LD LN qaa
 exact zcI FL LW LG LWl LLo LRi qab
end GN
namespace PySem.W.Fast
def tw13669714404693041658:=()
def tw3689490678857111506:=()
def tw3141600980026274271:=()
def tw5558137565712131179:=()
def tw13194518364115571361:=()
def tw7700986837329572031:=()
def tw16828261078658461830:=()
def tw9517744728000371697:=()
def tw1194203208844219048:=()
def tw14811513475260128297:=()
def tw9589578959924719485:=()
def tw4889702271825828631:=()
def tw2384011385472408133:=()
def tw16340478536416788578:=()
def tw14311675540523550825:=()
def tw17366334128466074322:=()
def tw15693867799261827101:=()
def tw2406166413430082199:=()
def tw1449132458632880355:=()
def tw6786412782048361809:=()
def tw14455839783692600719:=()
def tw10232153396888623584:=()
def tw3867442760723930640:=()
def tw17198767825881405444:=()
def tw147632762917765673:=()
def tw8189503773433023814:=()
def tw1139648930918166974:=()
def tw1805352044518243514:=()
def tw12163242508747050742:=()
def tw1510235263007595515:=()
def tw10516482166527394682:=()
def tw2546520270235497179:=()
def tw6849794538836607574:=()
def tw10058826438364103194:=()
def tw4075914099775946159:=()
def tw9600539821916668895:=()
def tw6716029224554915723:=()
def tw1994355762778124521:=()
def tw9881611474168521857:=()
def tw10370399804981976989:=()
def tw14869087094013515281:=()
def tw14267845625073918801:=()
def tw13213463315614017705:=()
def tw4023032821253750626:=()
def tw8536721053158291547:=()
def tw4771669968151933472:=()
def tw15294422406184100391:=()
def tw13903566689489605082:=()
def tw76786596181046633:=()
def tw2796222226355048340:=()
def tw12748758437038462993:=()
def tw9979078461833364931:=()
def tw1442626370416086574:=()
def tw9522108663643271773:=()
def tw12649031866017288396:=()
def tw10887529184800495818:=()
def tw6666338876609652712:=()
def tw4845709265100448036:=()
def tw924069608888250056:=()
def tw685346578802830365:=()
def tw15050908670862637053:=()
def tw2787555950381700713:=()
def tw10847609107201324017:=()
def tw15983612804319463296:=()
def tw12234816043178509200:=()
def tw2146211179265968141:=()
def tw12691438221501997693:=()
def tw10647918968512555392:=()
def tw13944284566802965212:=()
def tw5111710894526695978:=()
def tw3362763482786481496:=()
def tw10494395581175112093:=()
def tw11001711106145897120:=()
def tw10517915542602432764:=()
def tw8984552829755156424:=()
def tw18244369251721524962:=()
def tw17386039038215055513:=()
def tw6011480388852109635:=()
def tw8985233183182143662:=()
def tw16296951441795805090:=()
def tw4482327622719180974:=()
def tw16626866217566514377:=()
def tw3290517478408901326:=()
def tw6444404273685805460:=()
def tw6082165451008605640:=()
def tw9189179180012034885:=()
def tw16471686896576379376:=()
def tw16583442037368090212:=()
def tw10060739591119413362:=()
def tw4134718630828773955:=()
def tw3440333791225086208:=()
def tw8225520570534130683:=()
def tw2447902469415086974:=()
def tw15948646488861980451:=()
def tw13014166197677143021:=()
def tw8214217138943227466:=()
def tw16948874330992641858:=()
def tw12765410575110579278:=()
def tw8375824786431388591:=()
def tw12734717198995487140:=()
def tw5595709833060657676:=()
def tw10911177270684140557:=()
def tw490493504131249631:=()
def tw8487419956804118065:=()
def tw3053720710052973330:=()
def tw8081705451362118291:=()
def tw2572693819780534837:=()
def tw6809624975669277408:=()
def tw1422238791743165012:=()
def tw6593950010871091626:=()
def tw11361108534279792754:=()
def tw18153619653704486261:=()
def tw9983749150661977476:=()
def tw13658751576314447153:=()
def tw16489040555048869283:=()
def tw13850649473308668577:=()
def tw15966801168394570043:=()
def tw9074660455615656185:=()
def tw407742373796898018:=()
def tw10710525534113794939:=()
def tw13644397993596524424:=()
def tw9677366813005769997:=()
def tw3632569482676251015:=()
def tw12397738845736479641:=()
def tw10475627018740612335:=()
def tw14460768754585393988:=()
def tw2583031079419117974:=()
def tw15790201372857138810:=()
def tw17133434569029934794:=()
def tw7473811047882381481:=()
def tw5446007070665645597:=()
def tw5071116330298153524:=()
def tw6035956637672461325:=()
def tw18265875558836844733:=()
def tw15303329593663714448:=()
def tw5850111827733150758:=()
def tw17876869707711716790:=()
def tw8306437772435349083:=()
def tw8314298112786890422:=()
def tw3459038407966514875:=()
def tw12847879061932348311:=()
def tw9876910583549033750:=()
def tw16204272582588457491:=()
def tw12953483571505042862:=()
def tw7229475227701934395:=()
def tw9354818268822032036:=()
def tw6879071813330152858:=()
def tw11188213342023320128:=()
def tw6846120246865834019:=()
def tw14168138197942366390:=()
def tw6131664248328663783:=()
def tw15033606785215424017:=()
def tw11441227274408906712:=()
def tw5340473391754401783:=()
def tw2112585096561212599:=()
def tw5422729220259729532:=()
def tw18279618979909755455:=()
def tw9277931044798622761:=()
def tw14961562749212556263:=()
def tw6656708238091229241:=()
def tw13176913292717054918:=()
def tw14092041765943309679:=()
def tw8148292333962213686:=()
def tw2908097784125649291:=()
def tw10656805373671669506:=()
def tw15590682408915334119:=()
def tw12196388055903182906:=()
def tw4451712796764059844:=()
def tw12836331186283631721:=()
def tw2731540922212431196:=()
def tw2767206107714933292:=()
def tw1514326497400927279:=()
def tw18122010923928210718:=()
def tw4084864275617387339:=()
def tw14674252520833226543:=()
def tw101643537302774901:=()
def tw13284507643719100055:=()
def tw6580624150346575116:=()
def tw9808130546662549482:=()
def tw1686619017062296687:=()
def tw589337918060206612:=()
def tw4532047198236948094:=()
def tw8721845269779224963:=()
def tw4663558802430563802:=()
def tw1733009349781571344:=()
def tw2103789564018970792:=()
def tw2003707767039869255:=()
def tw3517997204916836241:=()
def tw8727923422581162788:=()
def tw17617504783055422957:=()
def tw13378502626303255431:=()
def tw5702922164901200558:=()
def tw7689287869596083998:=()
def tw18191795328480578857:=()
def tw13074766902943201621:=()
def tw2257283282954766991:=()
def tw14250286286562369957:=()
def tw4643391407413661164:=()
def tw6546241177570237926:=()
def tw3975567598338171805:=()
def tw6263172055285912984:=()
def tw14744165141944215779:=()
def tw9081158225849127983:=()
def tw11661933864070418851:=()
def tw6713110920956434788:=()
def tw10139512561209169885:=()
def tw15781074172075318339:=()
def tw11855239424754678819:=()
def tw6463075570724445975:=()
def tw9695541392017917462:=()
def tw8278066188013151160:=()
def tw7251549995615775646:=()
def tw1934622327558592904:=()
def tw12521347630120348770:=()
def tw5341677905368500740:=()
def tw12463147528288287321:=()
def tw9681752910586933061:=()
def tw7811691029459766585:=()
def tw16921995200260304692:=()
def tw7090228178844259474:=()
def tw12363580491590054547:=()
def tw5321593036995750284:=()
def tw6333369590910544326:=()
def tw17014724622868044300:=()
def tw10090442145829140935:=()
def tw4512482185367668804:=()
def tw3726389262097300750:=()
def tw11036361467440409176:=()
def tw926126576435669478:=()
def tw10824515463967230304:=()
def tw17322360762806017018:=()
def tw12101208381705214000:=()
def tw2640765070900362542:=()
def tw1825086663660509156:=()
def tw18304903205180089202:=()
def tw6657953435750909283:=()
def tw101672923890679224:=()
def tw11124742518189790572:=()
def tw16694820031394608316:=()
def tw10366817007525951187:=()
end PySem.W.Fast
open PySem PySem.W PyProof.Rows
set_option maxRecDepth 100000 in
set_option maxHeartbeats 0 in
theorem PySem.Challenge.cw_reusewise_k52_lent_without_a_reason_holds : PySem.Challenge.rw_reusewise_k52_lent_without_a_reason.Holds := by
 w_on;o_law;k_head;(case hw=>w_witness2)
 k_fill
 refine L2.walkTs (l:=PySem.Challenge.rw_reusewise_k52_lent_without_a_reason) (k:=43) (Ts:=[96,89]) rfl ⟨rfl,by decide,by decide⟩ rfl rfl (fun p T hT=>by
  simp only[um,UI,or_false]at hT
  rcases hT with rfl|rfl
  ·exact⟨98,rfl⟩
  ·exact⟨93,rfl⟩
  ) (fun p T hT=>by
  simp only[um,UI,or_false]at hT
  rcases hT with rfl|rfl
  ·exact rfl
  ·exact rfl
  ) ?F
 case F =>
  intro w mg fa h KX G hm
  refine' GN.top_ok (GN.TopK.mk ?q6 ?qj ?qk ?qe ?qac ?qn ?qs ?qt ?q7 ?qu ?hc1 ?hc2 ?q2 ?qb ?qV ?qv ?q3 ?qW ?qX ?qw ?q4 ?q8 ?qf ?qG ?q9 ?qg ?qH ?qh ?qa ?qi ?qI ?qJ ?qY ?qZ ?q5 ?qK ?qL ?qx ?qy ?qz ?qM ?qA ?qo ?qN ?qB ?qO ?qP ?q0 ?ql ?qC ?qc ?qQ ?qR ?qd ?qp ?qD ?qS ?qT ?qm ?qq ?qE ?qF ?qr ?qae ?qaf ?qaa ?qad ?qab ?qag ?qah ?qai ?q1 ?qU) KX G hm
  (case q6|qac=>(refine' L2.OwnIn.mk ?n ?pg ?hd ?po ?sa ?mks ?kp;(case n=>k_is);(case pg=>k_is);(case hd=>k_is);(case po=>k_is);(case sa=>k_is);(case mks=>k_is);(case kp=>k_is)))
  (case qj|qk|qe|qn|qs|qt|qaf|qaa|qad|qab|qag|qah|qai|q1|qU=>k_is)
  (case q7|qu=>(refine' L2.DcIn.mk ?a ?l ?c ?k;(case a=>k_is);(case l=>k_is);(case c=>k_is);(case k=>k_is)))
  (case hc1|hc2=>(exact rfl))
  (case q2|qV|qv|q3|qW|qX|qw|q4|q8|qf|qG|q9|qg|qH|qI|qJ|qY|qZ|q5|qK|qL|qx|qy|qz|qM|qA|qo|qN|qB|qO|qP|q0|ql|qC|qc|qQ|qR|qd|qp|qD|qS|qT|qm|qq|qE|qF|qr|qae=>(refine' L2.DfIn.mk ?a ?l ?c ?k;(case a=>k_is);(case l=>k_is);(case c=>k_is);(case k=>k_is)))
  (case qb|qh|qa|qi=>(refine' L2.MeIn.mk ?a ?l ?c ?k ?n;(case a=>k_is);(case l=>k_is);(case c=>k_is);(case k=>k_is);(case n=>k_is)))
#print axioms PySem.Challenge.cw_reusewise_k52_lent_without_a_reason_holds
