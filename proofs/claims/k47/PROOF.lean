import PyProof.Rows.All
import Wide.All
import OpenK.AllK
import Wide.FinOn
import Lean
import PyProof.EqAt
import PyProof.EqKinds
import PyProof.TupleCall
import PyProof.PassesOwn
import PyProof.StationsW
import OpenK.KCls
import PyProof.ExcAttrAll.ValueError
import PyProof.ExcClass3
import PyProof.WalksEnum
import PyProof.EnumMake
import PyProof.EnumFor
import PyProof.EnumStmt
import PyProof.MeetsStr
import PyProof.StrLawsTight
import PyProof.NeKinds
import PyProof.Rows.SumAny
import PyProof.SeqI3
import PyProof.ZipIter
import PyProof.WalksMore
import PyProof.ListNew
import KE.KLam
import KE.KNestM
import KE.KRevIter
import PyProof.AutoSeq1
import PyProof.FactsAll.list
import PyProof.IsRules
import KE.KItemsList
import PyProof.StrBlockL
import PyProof.StrBlockI
import PyProof.StrBlock2
import PyProof.StrLawsIn
import PyProof.StrLawsChain
import PyProof.Rows.StrLast
import PyProof.Rows.StrItems
import KE.IntTextText
import KE.KDictList
import PyProof.Rows.BitMore
import KE.KIntText
import PyProof.IsiTupleOf
import KE.KDictSum
import PyProof.Rows.SortWalk
import PyProof.FString
import PyProof.Draws
import PyProof.DictWalks
import PyProof.MinMaxWalk
import KE.KEqDict
import KE.KDictOf
import PySem.Challenge.RW_reusewise_k47_held_late_and_few
abbrev VSP:=PySem.Value->PySem.Shared->Prop
set_option Elab.async false
set_option linter.all false
set_option maxRecDepth 100000
set_option maxHeartbeats 4000000
open List renaming length_map → ua, getElem?_eq_some_iff → ud, length_append → uf, getElem?_map → ug, getElem?_eq_getElem → uh, length_cons → ui, mem_cons → uk, length_filter_le → um, mem_singleton → uo, length_take → uq, take_of_length_le → ur, map_append → ut, mem_map → uu, mem_of_getElem? → uw, size_toArray → ux, mem_append → uy, map_cons → uC, take_add_one → uD, mem_append_right → uE, range → uK, length_singleton → uO, replicate → uP, mem_append_left → uU, mem_filter → uW, nodup_cons → uX, length_eq_zero_iff → u5, append_nil → u6, getD_eq_getElem?_getD → Ua, getElem?_zip_eq_some → Uc, length_zip → Ue, all_eq_true → Ui, take_length → Uj, mem_cons_self → Uk, exists_cons_of_length_eq_add_one → Um, not_mem_nil → Up, mem_cons_of_mem → Ur, getElem?_append_left → Us, mem_range → Uu, of_mem_zip → Uv, lookup_cons → Ux, sum_cons → Uy, length_reverse → Uz, append_assoc → UA, map_map → UB, getElem?_append_right → UC, replicate_succ → UE, length_replicate → UG, foldl_cons → UI, mem_map_of_mem → UM, drop_eq_getElem_cons → UN, count_cons_of_ne → UO, filter_append → UQ, length_range → UT, lookup → UV, find?_eq_none → UX, find?_cons → UZ, reverse_append → U1, getElem?_eq_none → U8, mem_iff_getElem? → U9, reverse_cons → tj, flatten_cons → tm, count_cons_self → tD, mem_of_find?_eq_some → tK, getElem?_range → tM, length → tT
open PySem.W renaming Frag → ub, findIn → uV, keepIn → u4, codeHdIn → Ub, fnOf → Uh, emptyDict → UF, nsIn → UJ, mg_none_of → UK, codeIn → UL, instObj → UU, callWith_K → U4, mg_of → U7, plainGet → tE, envX → tG, hasDictIn → tV, cellsFrom_some → tW
open PySem.Heap renaming get?_push_of_some → uc, get?_push_size → uv, lt_size → uB, size_push → Ug, get?_update_other → UD, get?_update_self → UH, size_update → tF
open Option renaming map_eq_some_iff → ue, some → uZ, map_some → UY, isSome_iff_exists → tP
open Nat renaming le_refl → uj, lt_of_lt_of_le → uH, le_trans → uI, zero_le → uM, lt_of_le_of_lt → uQ, ne_of_lt → u7, lt_irrefl → Uw, le_add_right → UP, testBit_or → UR, lt_succ_self → UW, mul_le_mul_right → U0, add_mul → tw, testBit_succ → tH, zero_testBit → tI, min_self → tJ, not_lt_zero → tR
open Bool renaming false_ne_true → uA, and_eq_true → uJ, eq_iff_iff → U5, or_eq_true → U6, false_or → tQ
open PySem.F renaming plainAttrs_list → uF, slot_list_append → uS, type_list_append → uT, slot_list_count → U3, type_list_count → tU
open PyProof.Rows renaming boot_tuple → uN, callWith_type1 → Ul, slot_tuple_getitem → Uo, boot_list → Ut
open PySem renaming mem_of_lookup → uY, boot_len → Ud, sizeLine → U2
open PySem.Builtin.SmallTypes renaming nextOf → Uf, ownedTupleIsFree → Uq, ownedTupleHandOut → tL
open Int renaming toNat_natCast → US, toNat_of_nonneg → tO, natCast_nonneg → tS
abbrev L2.lS0:List PySem.Str:=["_law_state","_law_scope","_law_k","_law_room","_law_world_here","_law_at"]
abbrev L2.lS1:List PySem.Str:=["_law_body_here","_law_mine","_law_lent","_law_owns_here"]
abbrev L2.lS2:List PySem.Str:=["_law_deed_here","_law_owns_here"]
abbrev L2.lS3:List PySem.Str:=["putter","place"]
abbrev L2.lS4:List PySem.Str:=["_law_body_here","_law_mine","_law_lends_here","_law_name_here"]
abbrev L2.lS5:List PySem.Str:=["_law_state","_law_many"]
abbrev L2.lS6:List PySem.Str:=["_law_body_here","_law_mine","_law_owns_here","_law_stands"]
abbrev L2.lS7:List PySem.Str:=["self","body","note","names"]
abbrev L2.lS8:List PySem.Str:=["_law_state","_law_scope","_law_sort"]
abbrev L2.lS9:List PySem.Str:=["_law_state","_law_scope","_law_sorts_here"]
abbrev L2.lS10:List PySem.Str:=["_law_state","_law_scope","_law_world_here","_law_at"]
abbrev L2.lS11:List PySem.Str:=["_law_state","_law_world_here","_law_room"]
abbrev L2.lS12:List PySem.Str:=["_law_state","_law_world_here","_law_at","_law_room"]
abbrev L2.lS13:List PySem.Str:=["_law_state","_law_least","_law_most"]
abbrev L2.lS14:List PySem.Str:=["_law_world_here","_law_k"]
abbrev L2.lS15:List PySem.Str:=["_law_state","_law_room","_law_many"]
abbrev L2.lS16:List PySem.Str:=["body","ways","notes","bits"]
abbrev L2.lS17:List PySem.Str:=["_law_body_here","_law_mine","_law_owns_here"]
abbrev L2.lS18:List PySem.Str:=["_law_state","_law_scope","_law_world_here"]
abbrev L2.lS19:List PySem.Str:=["body","bits"]
abbrev L2.lS20:List PySem.Str:=["self","name","note"]
abbrev L2.lS21:List PySem.Str:=["self","within","finish"]
abbrev L2.lS22:List PySem.Str:=["_law_state","_law_program_here"]
abbrev L2.lS23:List PySem.Str:=["arms","modes","bodies"]
abbrev L2.lS24:List PySem.Str:=["self","names","free"]
abbrev L2.lS25:List PySem.Str:=["self","one","owns"]
abbrev L2.lS26:List PySem.Str:=["task","begin"]
abbrev L2.lS27:List PySem.Str:=["deed","ends","stand"]
abbrev L2.lS28:List PySem.Str:=["program","owns"]
theorem L2.sN0:0<=U2:=by decide
theorem L2.sN1:1<=U2:=by decide
theorem L2.sN2:2<=U2:=by decide
theorem L2.sN3:3<=U2:=by decide
theorem L2.sN4:4<=U2:=by decide
theorem L2.sN5:5<=U2:=by decide
theorem L2.sN7:7<=U2:=by decide
theorem L2.gM{α β:Type}{f:α->β}{l:List α}{i:Nat}{v:β}(h:(l.map f)[i]?=some v):∃z,l[i]?=some z/\f z=v:=by rw[List.getElem?_map]at h;exact Option.map_eq_some_iff.mp h
abbrev lS:=List PySem.Str
variable{u v doc pm cdv ct oc vl vu:Value}{a b it c f p C dx T sl d cB c1 T1 T2 fl c0 cc cP cL fa:Addr}{h h' base h0:Heap}{items:Array Value}{P prog:Program}{w:World}{x name qual y z w0:Str}{e o tg iter value elt e1 e2 e3 e4 e5:Expr}{ob:Obj}{pins:List (Addr×Obj)}{s s':Shared}{g':Array GenState}{t' i j n m B:Nat}{ch fp q as ts Ts:List Addr}{N ns ps:lS}{A:Around}{E:VSP}{Q:Unit->Shared->Prop}{pos pos' tpos apos p2 cpos py spos:Pos}{K:ub}{st:Stmt}{es ifs elts:List Expr}{body:List Stmt}{vs ds its its':List Value}{lo hi:Option Int}{op:CmpOp}{mA mg:Str->Option Value}{R R':Addr->Prop}{kw:List (Str×Value)}{env:Env}{fd:FuncData}{kindOf:Str->Option NameKind}{scope:Scope}{params:Arguments}{an od:Option Addr}{osl:Array (Option Value)}{id:String}{zs:List (Bool×Nat)}{XP:(Str->Option Value)->Heap->Prop}{S:List Nat}{ls:List (Pos×Str)}{ow:Str->List Bool}
namespace L2
open PySem PySem.Spec PyProof.Rows
variable{c:Expr}{f:Value->Value->Sem Value}{g:Int->Int->Int}{p:Pos}
abbrev Key:=Sum Int Str
def vB:Key->Value->Bool
 |.inl k,v=>Value.isInt k v
 |.inr x,v=>Value.isStrOf x v
def keyH(w:World):Key->Int
 |.inl k=>hashInt k
 |.inr x=>hashStr w x
theorem yg:∀{k:Key}{v:Value},vB k v=true->(∃i t,k=Sum.inl i/\v=Value.int i t)\/(∃x t,k=Sum.inr x/\v=Value.str x t)
 |.inl i,v,h=>by
  obtain⟨t,e⟩:=Value.isInt_shape (k:=i) (v:=v) h;exact .inl ⟨i,t,rfl,e⟩
 |.inr x,v,h=>by
  obtain⟨t,e⟩:=Value.isStrOf_shape (x:=x) (v:=v) h;exact .inr ⟨x,t,rfl,e⟩
theorem WD(i:Int)(t:Tok):vB (.inl i) (.int i t)=true:=by simp[vB,Value.isInt]
theorem WE(x:Str)(t:Tok):vB (.inr x) (.str x t)=true:=by simp[vB,Value.isStrOf]
theorem zbX(a b:Int):decide ((Sum.inl a:Key)=Sum.inl b)=(a == b):=by
 by_cases e:a=b
 ·subst e;simp
 ·have h:¬ (Sum.inl a:Key)=Sum.inl b:=fun q=>e (Sum.inl.inj q)
  rw[decide_eq_false h];exact(beq_eq_false_iff_ne.mpr e).symm
theorem zbY(a b:Str):decide ((Sum.inr a:Key)=Sum.inr b)=decide (a=b):=by
 by_cases e:a=b
 ·subst e;simp
 ·have h:¬ (Sum.inr a:Key)=Sum.inr b:=fun q=>e (Sum.inr.inj q)
  rw[decide_eq_false h,decide_eq_false e]
theorem zbZ(a:Int)(b:Str):decide ((Sum.inl a:Key)=Sum.inr b)=false:=decide_eq_false (fun q=>nomatch q)
theorem zb0(a:Str)(b:Int):decide ((Sum.inr a:Key)=Sum.inl b)=false:=decide_eq_false (fun q=>nomatch q)
def zU(prog:Program)(w:World):PySem.KeyKind prog w Key where
 is:=vB
 hash:=keyH w
 inj:=fun v a b ha hb=>by
  rcases yg ha with⟨i,t,rfl,rfl⟩|⟨x,t,rfl,rfl⟩
  ·rcases yg hb with⟨j,u,rfl,e⟩|⟨y,u,rfl,e⟩
   ·injection e with e1 _;rw[e1]
   ·exact nomatch e
  ·rcases yg hb with⟨j,u,rfl,e⟩|⟨y,u,rfl,e⟩
   ·exact nomatch e
   ·injection e with e1 _;rw[e1]
 byValue:=fun k v h=>by
  rcases yg h with⟨i,t,rfl,rfl⟩|⟨x,t,rfl,rfl⟩<;>rfl
 pyHash:=fun hv h=>by
  rcases yg hv with⟨i,t,rfl,rfl⟩|⟨x,t,rfl,rfl⟩
  ·exact wpAny_pyHash_int h
  ·exact wpAny_pyHash_str h
 eqBool:=fun hu hv h=>by
  rcases yg hu with⟨i,t,rfl,rfl⟩|⟨x,t,rfl,rfl⟩
  ·rcases yg hv with⟨j,u,rfl,rfl⟩|⟨y,u,rfl,rfl⟩
   ·rw[zbX]at h;exact wpAny_eqBool_int h
   ·rw[zbZ]at h;exact SeqAt.EqAt.int_str i t y u _ _ _ _ h
  ·rcases yg hv with⟨j,u,rfl,rfl⟩|⟨y,u,rfl,rfl⟩
   ·rw[zb0]at h;exact SeqAt.EqAt.str_int x t j u _ _ _ _ h
   ·rw[zbY]at h;exact wpAny_eqBool_str h
 «strs»:=fun k x t v h=>by
  rcases yg h with⟨i,u,rfl,e⟩|⟨y,u,rfl,e⟩
  ·exact nomatch e
  ·injection e with e1 _
   subst e1;cases v<;>rfl
theorem Y5(prog:Program)(w:World)(k:Key)(v:Value):(zU prog w).is k v=vB k v:=rfl
theorem Z6(prog:Program)(w:World)(i:Int)(t:Tok):(zU prog w).is (.inl i) (.int i t)=true:=WD i t
theorem Z7(prog:Program)(w:World)(x:Str)(t:Tok):(zU prog w).is (.inr x) (.str x t)=true:=WE x t
inductive V where
 |non|bl (b:Bool)|int (i:Int)|str (x:Str)|byt (b:Array UInt8)|flt (b:UInt64)|ref (a:Addr)|ty (n:String)
 deriving DecidableEq
abbrev sR(a:Addr):Option V:=some (.ref a)
variable{xs:List V}
def RelV:V->Value->Prop
 |.non,u=>u=Value.none
 |.bl b,u=>u=Value.bool b
 |.int i,u=>∃t,u=Value.int i t
 |.str x,u=>∃t,u=Value.str x t
 |.byt b,u=>∃t,u=Value.bytes b t
 |.flt b,u=>∃t,u=Value.float b t
 |.ref a,u=>u=Value.ref a
 |.ty n,u=>u=Value.type n
abbrev Vals:List V->List Value->Prop:=Paired RelV
theorem Vals.length{us:List Value}(r:Vals xs us):xs.length=us.length:=Paired.length r
theorem Vals.get:∀{xs:List V}{us:List Value}{i:Nat}{x:V},Vals xs us->xs[i]?=some x->∃u,us[i]?=some u/\RelV x u
 |_,_,_,_,.nil,e=>by simp at e
 |_,_,0,_,.cons r _,e=>by simp at e;subst e;exact⟨_,rfl,r⟩
 |_,_,i+1,x,.cons _ t,e=>by
  obtain⟨u,h1,h2⟩:=Vals.get (i:=i) (x:=x) t (by simpa using e);exact⟨u,by simpa using h1,h2⟩
theorem Vals.set{x:V}{u:Value}(r:RelV x u):∀{xs:List V}{us:List Value}(i:Nat),Vals xs us->Vals (xs.set i x) (us.set i u)
 |_,_,_,.nil=>.nil
 |_,_,0,.cons _ t=>.cons r t
 |_,_,i+1,.cons q t=>.cons q (Vals.set r i t)
theorem Vals.append:∀{xs ys:List V}{us ws:List Value},Vals xs us->Vals ys ws->Vals (xs++ys) (us++ws)
 |_,_,_,_,.nil,s=>s
 |_,_,_,_,.cons r t,s=>.cons r (Vals.append t s)
theorem Vals.take:∀{xs:List V}{us:List Value}(n:Nat),Vals xs us->Vals (xs.take n) (us.take n)
 |_,_,0,_=>.nil
 |_,_,_+1,.nil=>.nil
 |_,_,n+1,.cons r t=>.cons r (Vals.take n t)
theorem Vals.drop:∀{xs:List V}{us:List Value}(n:Nat),Vals xs us->Vals (xs.drop n) (us.drop n)
 |_,_,0,r=>r
 |_,_,_+1,.nil=>.nil
 |_,_,n+1,.cons _ t=>Vals.drop n t
def RelO:Option V->Option Value->Prop
 |some v,some u=>RelV v u
 |none,none=>True
 |_,_=>False
def KV{κ:Type}:List (κ×V)->List (κ×Value)->Prop:=Paired fun(p:κ×V)(q:κ×Value)=>p.1=q.1/\RelV p.2 q.2
def kV:Key->V
 |.inl i=>.int i
 |.inr x=>.str x
inductive HO where
 |lst (xs:List V)
 |tup (xs:List V)
 |dK (kvs:List (Key×V))|dT (kvs:List (List Key×V))
 |set (S:Int->Bool) (n:Nat)
 |ins (C dx:Addr) (fs:List (Str×V))
 |own (x:Addr)
 |xd (fs:List (Str×V))
 |met (f x:Addr)
 |rng (lo hi:Int)
 |frz (o:Obj) (u:HO)
 |tbl (ps:Array Value)
 |ext (φ:Heap->Prop)
variable{o:HO}
abbrev Hp:=Addr->Option HO
variable{H H':Hp}
def upd(H:Hp)(a:Addr)(o:HO):Hp:=fun b=>if b=a then some o else H b
theorem uX9:upd H a o a=some o:=by unfold upd;rw[if_pos rfl]
theorem zj(h:b≠a):upd H a o b=H b:=by unfold upd;rw[if_neg h]
theorem yv{u:HO}(h:H a=some o)(h':H b=some u)(d:o≠u):a≠b:=by
 intro e;subst e;rw[h]at h';exact d (uZ.inj h')
theorem zi(h:H a=some o)(h':H b=none):a≠b:=by
 intro e;subst e;rw[h]at h';cases h'
def IsTupN(h:Heap)(a:Addr)(items:Array Value):Prop:=∃o,h.get? a=some o/\o.cls=.type "tuple"/\o.dict=none/\∃n,o.data=.seq items n
theorem IsTupN.is(x:IsTupN h a items):IsTup h a items:=by obtain⟨o,a,b,_,c⟩:=x;exact⟨o,a,b,c⟩
theorem IsTupN.new(h:Heap)(items:Array Value):IsTupN (h.push { cls:=.type "tuple",data:=.seq items }) h.objs.size items:=⟨_,uv _ rfl,rfl,rfl,_,rfl⟩
section
variable(P:Program)(w:World)
def ObjOk(H:Hp)(h:Heap)(a:Addr):HO->Prop
 |.lst xs=>xs.length<=sizeLine/\∃(its:List Value)(n:Nat),Vals xs its/\h.get? a=some { cls:=.type "list",data:=.seq its.toArray n }
 |.tup xs=>xs.length<=sizeLine/\∃its:List Value,Vals xs its/\IsTupN h a its.toArray
 |.dK kvs=>kvs.length<=sizeLine/\(a == sysModules)=false/\∃vs,KV kvs vs/\h.DictOf (zU P w) a vs
 |.dT kvs=>kvs.length<=sizeLine/\(a == sysModules)=false/\∃xs:List (List Key×Addr×Value),
   Paired (fun(p:List Key×V)(q:List Key×Addr×Value)=>p.1=q.1/\H q.2.1=some (.tup (p.1.map kV))/\RelV p.2 q.2.2) kvs xs /\
   ∃o es ep,h.get? a=some o/\o.ExactDict/\o.data=.dict es ep/\es.toList=xs.map (entryOfKey (tupleKind (zU P w)))/\(xs.map (·.1)).Nodup
 |.set S n=>h.SetOf (intKind P w) a S n
 |.ins C dx fs=>H dx=some (.own a)/\fs.length<=1000/\dx≠a/\h.get? a=some (UU C dx) /\
   ∃mA,h.Ns1 dx mA/\(∀f,RelO (fs.lookup f) (mA f))/\PySem.Within mA (fs.map (·.1))
 |.own _=>∃o,h.get? a=some o
 |.xd fs=>∃mA,h.Ns1 a mA/\∀f,RelO (fs.lookup f) (mA f)
 |.rng lo hi=>∃t u v,h.get? a=some { cls:=.type "range",data:=.fields #[.int lo t,.int hi u,.int 1 v] }
 |.frz o u=>h.get? a=some o/\ObjOk H h a u
 |.tbl ps=>h.get? a=some { cls:=.none,data:=.fields ps }
 |.met f x=>h.get? a=some (PySem.W.methodObj (.ref f) (.ref x))
 |.ext φ=>φ h/\(∃o,h.get? a=some o)/\∀h1 h2:Heap,φ h1->(∀o,h1.get? a=some o->h2.get? a=some o)->φ h2
def HOk(H:Hp)(h:Heap):Prop:=∀a o,H a=some o->ObjOk P w H h a o
end
theorem ObjOk.lt(x:ObjOk P w H h a o):a < h.objs.size:=by
 cases o with
 |lst xs=>obtain⟨_,_,_,_,e⟩:=x;exact uB e
 |tup xs=>obtain⟨_,_,_,p⟩:=x;exact p.is.lt
 |dK kvs=>obtain⟨_,_,_,_,o,_,_,e,_⟩:=x;exact uB e
 |dT kvs=>obtain⟨_,_,_,_,o,_,_,e,_⟩:=x;exact uB e
 |set S n=>obtain⟨o,_,_,_,e,_⟩:=x;exact uB e
 |ins C dx fs=>obtain⟨_,_,_,e,_⟩:=x;exact uB e
 |own y=>obtain⟨_,e⟩:=x;exact uB e
 |xd fs=>obtain⟨_,⟨_,_,_,e,_⟩,_⟩:=x;exact uB e
 |rng lo hi=>obtain⟨_,_,_,e⟩:=x;exact uB e
 |frz ob u=>obtain⟨e,_⟩:=x;exact uB e
 |tbl ps=>exact uB (show h.get? a=some _ from x)
 |met f y=>exact uB (show h.get? a=some _ from x)
 |ext φ=>obtain⟨_,⟨_,e⟩,_⟩:=x;exact uB e
theorem Paired.mapP{α β:Type}{F G:α->β->Prop}:∀{l₁:List α}{l₂:List β},Paired F l₁ l₂->(∀a b,F a b->G a b)->Paired G l₁ l₂
 |_,_,.nil,_=>.nil
 |_,_,.cons r t,f=>.cons (f _ _ r) (Paired.mapP t f)
theorem ObjOk.stay(x:ObjOk P w H h a o)(k:∀b u,(b=a\/H b=some (.own a))->h.get? b=some u->h'.get? b=some u)
  (ho:∀b,H b=some (.own a)->H' b=some (.own a)) (ht:∀b xs,H b=some (.tup xs)->H' b=some (.tup xs)):ObjOk P w H' h' a o:=by
 induction o with
 |lst xs=>obtain⟨z,its,n,r,e⟩:=x;exact⟨z,its,n,r,k _ _ (.inl rfl) e⟩
 |tup xs=>obtain⟨z,its,r,ob,e,c⟩:=x;exact⟨z,its,r,ob,k _ _ (.inl rfl) e,c⟩
 |dK kvs=>obtain⟨z,y,vs,r,ob,es,ep,e,c⟩:=x;exact⟨z,y,vs,r,ob,es,ep,k _ _ (.inl rfl) e,c⟩
 |dT kvs =>
  obtain⟨z,y,xs,r,ob,es,ep,e,c⟩:=x;exact⟨z,y,xs,Paired.mapP r fun p q z=>⟨z.1,ht _ _ z.2.1,z.2.2⟩,ob,es,ep,k _ _ (.inl rfl) e,c⟩
 |set S n=>obtain⟨ob,es,ep,t,e,c⟩:=x;exact⟨ob,es,ep,t,k _ _ (.inl rfl) e,c⟩
 |ins C dx fs =>
  obtain⟨d,z,ne,e,mA,⟨od,es,ep,e2,c⟩,r⟩:=x;exact⟨ho _ d,z,ne,k _ _ (.inl rfl) e,mA,⟨od,es,ep,k _ _ (.inr d) e2,c⟩,r⟩
 |own y=>obtain⟨ob,e⟩:=x;exact⟨ob,k _ _ (.inl rfl) e⟩
 |xd fs=>obtain⟨mA,⟨od,es,ep,e,c⟩,r⟩:=x;exact⟨mA,⟨od,es,ep,k _ _ (.inl rfl) e,c⟩,r⟩
 |rng lo hi=>obtain⟨t,u,v,e⟩:=x;exact⟨t,u,v,k _ _ (.inl rfl) e⟩
 |frz ob u ih=>obtain⟨e,q⟩:=x;exact⟨k _ _ (.inl rfl) e,ih q⟩
 |tbl ps =>
  have e:h.get? a=some { cls:=.none,data:=.fields ps }:=x;show h'.get? a=some { cls:=.none,data:=.fields ps };exact k a _ (.inl rfl) e
 |met f y =>
  have e:h.get? a=some (PySem.W.methodObj (.ref f) (.ref y)):=x;show h'.get? a=some (PySem.W.methodObj (.ref f) (.ref y));exact k a _ (.inl rfl) e
 |ext φ=>obtain⟨p,⟨o,e⟩,st⟩:=x;exact⟨st _ _ p fun o q=>k _ _ (.inl rfl) q,⟨o,k _ _ (.inl rfl) e⟩,st⟩
theorem HOk.lt(x:HOk P w H h)(e:H a=some o):a < h.objs.size:=(x a o e).lt
theorem HOk.fresh(x:HOk P w H h)(e:h.objs.size<=a):H a=none:=by
 cases q:H a with
 |none=>rfl
 |some u=>exact absurd (uH (x.lt q) e) (Uw _)
theorem HOk.kept(x:HOk P w H h)(k:∀b u,h.get? b=some u->h'.get? b=some u):HOk P w H h':=fun a o e =>
 (x a o e).stay (fun b u _ q=>k b u q) (fun _ q=>q) fun _ _ q=>q
theorem HOk.laid(x:HOk P w H h)(k:∀b u,h.get? b=some u->h'.get? b=some u)(hp:h.objs.size<=a)(new:ObjOk P w (upd H a o) h' a o):HOk P w (upd H a o) h':=fun b u e=>by
 have hn:=x.fresh hp;by_cases hb:b=a
 ·subst hb;rw[uX9]at e;cases e;exact new
 ·rw[zj hb]at e
  exact(x b u e).stay (fun c v _ q=>k c v q) (fun c q=>by rw[zj (zi q hn)];exact q) fun c xs q=>by rw[zj (zi q hn)];exact q
def Rd(H:Hp)(a:Addr)(u:HO):Prop:=H a=some u\/∃o,H a=some (.frz o u)
theorem Rd.ok{u:HO}(r:Rd H a u)(x:HOk P w H h):ObjOk P w H h a u:=by
 rcases r with r|⟨o,r⟩
 ·exact x a u r
 ·obtain⟨_,q⟩:=x a _ r
  exact q
def Mut:Option HO->Prop
 |some (.lst _)=>True
 |some (.dK _)=>True
 |some (.dT _)=>True
 |some (.set _ _)=>True
 |some (.ins _ _ _)=>True
 |some (.ext _)=>True
 |_=>False
section
variable{x e:Addr}{o':HO}
theorem HOk.write(ok:HOk P w H h)(mu:Mut (H x))(he:e=x\/H e=some (.own x))(k:∀b u,b≠e->h.get? b=some u->h'.get? b=some u)(heo:∃u,h'.get? e=some u)
  (new:ObjOk P w (upd H x o') h' x o'):HOk P w (upd H x o') h':=fun b u q=>by
 have nown:∀c y,H c=some (.own y)->c≠x:=fun c y r z=>by subst z;rw[r]at mu;exact mu
 have ntup:∀c xs,H c=some (.tup xs)->c≠x:=fun c xs r z=>by subst z;rw[r]at mu;exact mu
 by_cases hb:b=x
 ·subst hb;rw[uX9]at q;cases q;exact new
 ·rw[zj hb]at q
  by_cases hbe:b=e
  ·have q':H b=some (.own x):=by
    rcases he with z|z
    ·exact absurd (hbe.trans z) hb
    ·rw[hbe];exact z
   rw[q]at q';cases q';obtain⟨v,hv⟩:=heo;exact⟨v,by rw[hbe];exact hv⟩
  ·refine(ok b u q).stay (fun c v hc r=>k c v ?_ r) (fun c r=>by rw[zj (nown c b r)];exact r) fun c xs r=>by rw[zj (ntup c xs r)];exact r
   rcases hc with rfl|hc
   ·exact hbe
   ·rintro rfl
    rcases he with z|z
    ·exact nown c b hc z
    ·rw[hc]at z;cases z;exact hb rfl
end
structure Un(fs ex:List Addr)(H H':Hp)(h h':Heap):Prop where
 keep:∀b o,h.get? b=some o->H b=none->b∉fs->b∉ex->h'.get? b=some o
 slot:∀b o,h.get? b=some o->H b=none->b∈fs->b∉ex->∃sl,h'.get? b=some { o with slots:=sl }
 free:∀b o,h.get? b=some o->H b=none->b∉ex->H' b=none
 there:∀b o,h.get? b=some o->b∉ex->∃o',h'.get? b=some o'
 tups:∀b xs,H b=some (.tup xs)->H' b=some (.tup xs)
 frzs:∀b o u,H b=some (.frz o u)->H' b=some (.frz o u)
 tbls:∀b ps,H b=some (.tbl ps)->∃more,H' b=some (.tbl (ps++more))
section
variable{fs fs' ex ex':List Addr}{H1 H2:Hp}{h1 h2:Heap}{x e:Addr}
theorem Un.any(u:Un fs ex H H1 h h1)(q:h.get? b=some ob)(n:H b=none)(hx:b∉ex):∃sl,h1.get? b=some { ob with slots:=sl }:=by
 by_cases hb:b∈fs
 ·exact u.slot b ob q n hb hx
 ·exact⟨ob.slots,u.keep b ob q n hb hx⟩
theorem Un.kept(k:∀b u,h.get? b=some u->h'.get? b=some u):Un fs ex H H h h' :=
 ⟨fun b ob q _ _ _=>k b ob q,fun b ob q _ _ _=>⟨ob.slots,k b ob q⟩,fun _ _ _ n _=>n,fun b ob q _=>⟨ob,k b ob q⟩,fun _ _ q=>q,fun _ _ _ q=>q,fun _ ps q=>⟨#[],by rw[q];simp⟩⟩
theorem Un.refl:Un fs ex H H h h:=Un.kept fun _ _ q=>q
theorem Un.laid(k:∀b u,h.get? b=some u->h'.get? b=some u)(hp:h.objs.size<=a)(hn:H a=none):Un fs ex H (upd H a o) h h' where
 keep:=fun b u q _ _ _=>k b u q
 slot:=fun b u q _ _ _=>⟨u.slots,k b u q⟩
 free:=fun b u q n _=>by rw[zj (u7 (uH (uB q) hp))];exact n
 there:=fun b u q _=>⟨u,k b u q⟩
 tups:=fun b xs q=>by rw[zj (zi q hn)];exact q
 frzs:=fun b u xs q=>by rw[zj (zi q hn)];exact q
 tbls:=fun b ps q=>⟨#[],by rw[zj (zi q hn),q];simp⟩
theorem Un.write(mu:Mut (H x))(he:e=x\/H e=some (.own x))(k:∀b u,b≠e->h.get? b=some u->h'.get? b=some u)(heo:∃u,h'.get? e=some u):Un fs ex H (upd H x o) h h':=by
 have hx:∀b,H b=none->b≠x:=fun b n z=>by subst z;rw[n]at mu;exact mu
 have hb:∀b,H b=none->b≠e:=fun b n z=>by
  subst z;rcases he with r|r
  ·exact hx b n r
  ·rw[n]at r;cases r
 have hm:∀b u,H b=some u->¬ Mut (some u)->b≠x:=fun b u q nm z=>by subst z;rw[q]at mu;exact nm mu
 refine⟨fun b u q n _ _=>k b u (hb b n) q,fun b u q n _ _=>⟨u.slots,k b u (hb b n) q⟩,fun b u q n _=>by rw[zj (hx b n)];exact n,fun b u q _=>?_,
  fun b xs q=>by rw[zj (hm b _ q fun z=>z)];exact q,fun b u xs q=>by rw[zj (hm b _ q fun z=>z)];exact q,fun b ps q=>⟨#[],by rw[zj (hm b _ q fun z=>z),q];simp⟩⟩
 by_cases hbe:b=e
 ·subst hbe;exact heo
 ·exact⟨u,k b u hbe q⟩
end
def trk(h:Heap)(H:Hp):List Addr:=(uK h.objs.size).filter fun a=>(H a).isSome
def hidT(h:Heap)(H:Hp):Heap:=PySem.W.hideAll h (trk h H)
theorem WF(h:Heap)(H:Hp):(hidT h H).objs.size=h.objs.size:=PySem.W.hideAll_size _ _
theorem Vo{o:Obj}(e:h.get? b=some o)(n:H b=none):(hidT h H).get? b=some o :=
 PySem.W.hideAll_get _ e fun hm=>by
  have q:(H b).isSome=true:=(uW.mp hm).2;rw[n]at q;simp at q
theorem QB{o:Obj}(e:(hidT h H).get? b=some o):h.get? b=some o/\H b=none:=by
 have e':h.get? b=some o:=PySem.W.of_hideAll (trk h H) e;refine⟨e',?_⟩;cases q:H b with
 |none=>rfl
 |some x =>
  have hm:b∈trk h H:=uW.mpr ⟨Uu.mpr (uB e'),by simp[q]⟩;have z:(hidT h H).get? b=none:=PySem.W.hideAll_none (trk h H) hm;rw[z]at e;cases e
def QC(g h:Heap)(L:Addr):List (Addr×Obj):=(uK h.objs.size).filterMap fun a=>if a=L\/(g.get? a).isSome=true then none else(h.get? a).map fun o=>(a,o)
def rest(g h:Heap)(L d:Addr):List (Addr×Obj):=(QC g h L).filter fun p=>decide (p.1≠d)
structure Mod(K:ub)(mg:Str->Option Value)(base:Heap):Prop where
 kin:K.In base
 glob:base.Ns mainGlobals mg
 blt:∃mb,base.Ns builtinsNs mb/\∀x:Str,x≠"__name__"->mb x=bootBuiltins x
 nolimit:base.NoLimit
structure Cx where
 prog:Program
 w:World
 K:ub
 mg:Str->Option Value
 base:Heap
 A:Around
 N:lS
 s₀:Shared
 H₀:Hp
 env:Env
 outer:List Env
 stack:List Env
 ex:List Addr
 fn:Str->Bool
 calm:Bool
 pn:List (Addr×Obj)
 xe:Value->Shared->Prop
variable{X:Cx}
def frs(l:List Env):List Addr:=l.filterMap (·.frame)
abbrev Cx.fs(X:Cx):List Addr:=frs X.outer
def Vis(sc:Scope)(x:Str):Prop:=sc.names.lookup x=some .local\/sc.names.lookup x=some .cell\/sc.names.lookup x=some .free
def Loc(sc:Scope)(x:Str):Prop:=sc.names.lookup x=some .local\/sc.names.lookup x=some .cell
def Look(env:Env)(h:Heap)(m:Str->Option Value)(x:Str)(u:Value):Prop :=
 (env.kindOf x=some .local/\m x=some u)\/((env.kindOf x=some .cell\/env.kindOf x=some .free)/\∃c,env.cells.lookup x=some c/\h.IsCell c (some u))
structure Cx.Ok(X:Cx):Prop where
 mod:Mod X.K X.mg X.base
 kind:X.env.scope.kind=.function
 glob:X.env.globals=mainGlobals
 blt:X.env.builtins=builtinsNs
 above:X.s₀.heap.objs.size<=X.env.locals
 inj:∀x y c,X.env.cells.lookup x=some c->X.env.cells.lookup y=some c->x=y
 has:∀x,(X.env.kindOf x=some .cell\/X.env.kindOf x=some .free)->∃c,X.env.cells.lookup x=some c
 cab:∀x c,X.fn x=true->X.env.cells.lookup x=some c->X.s₀.heap.objs.size<=c
 hd:X.calm=true->X.A.handled=none
 frames:X.A.frames=some X.stack
 stk:X.stack=X.outer\/(X.stack=X.env::X.outer/\X.env.frame=some X.env.locals)
 exf:∀b∈X.ex,b≠X.env.locals/\∀x c,X.env.cells.lookup x=some c->c≠b
 bs:∀b o,X.base.get? b=some o->X.s₀.heap.get? b=some o/\X.H₀ b=none
 bsz:X.base.objs.size<=X.s₀.heap.objs.size
 noex:∀b o,X.base.get? b=some o->b∉X.ex
 exfs:∀b∈X.ex,b∉X.fs
 funs:X.s₀.heap.FunFrames X.base X.outer
 frf:∀b∈X.fs,X.H₀ b=none
structure Inv(X:Cx)(pins:List (Addr×Obj))(σ:List (Option V))(H:Hp)(s:Shared):Prop where
 ok:X.Ok
 os:s.os=X.s₀.os
 bare:AllBare s.gens
 base:Un X.fs X.ex X.H₀ H X.s₀.heap s.heap
 loc:∃m,s.heap.Ns X.env.locals m/\∀(i:Nat)(x:Str)(v:V),X.N[i]?=some x->σ[i]?=some (some v)->Vis X.env.scope x->∃u,RelV v u/\Look X.env s.heap m x u
 cell:∀x c,X.env.cells.lookup x=some c->∃v,s.heap.IsCell c v
 free:H X.env.locals=none
 freeC:∀x c,X.env.cells.lookup x=some c->H c=none
 pin:∀p∈X.pn++pins,s.heap.get? p.1=some p.2/\H p.1=none/\p.1≠X.env.locals/\p.1∉X.fs/\∀v,p.2.data≠.cell v
 hok:HOk X.prog X.w H s.heap
 len:σ.length=X.N.length
section
variable{σ:List (Option V)}
theorem Cx.Ok.nofr(ok:X.Ok){o:Obj}(e:X.base.get? b=some o):b∉X.fs:=fun hb=>by
 have:=(ok.funs.mem hb).1
 rw[e]at this;cases this
theorem Inv.bs(I:Inv X pins σ H s):∀b o,X.base.get? b=some o->s.heap.get? b=some o/\H b=none:=fun b o e =>
 ⟨I.base.keep b o (I.ok.bs b o e).1 (I.ok.bs b o e).2 (I.ok.nofr e) (I.ok.noex b o e),I.base.free b o (I.ok.bs b o e).1 (I.ok.bs b o e).2 (I.ok.noex b o e)⟩
theorem Inv.bk(I:Inv X pins σ H s):∀b o,X.base.get? b=some o->s.heap.get? b=some o:=fun b o e=>(I.bs b o e).1
theorem Inv.mod(I:Inv X pins σ H s):Mod X.K X.mg X.base:=I.ok.mod
theorem Inv.kIn(I:Inv X pins σ H s):X.K.In s.heap:=I.ok.mod.kin.keeps I.bk
theorem Inv.lt(I:Inv X pins σ H s):X.env.locals < s.heap.objs.size:=by obtain⟨_,hn,_⟩:=I.loc;exact hn.lt
theorem Inv.sz(I:Inv X pins σ H s):X.s₀.heap.objs.size<=s.heap.objs.size:=uI I.ok.above (Nat.le_of_lt I.lt)
theorem Inv.nofs(I:Inv X pins σ H s)(h:s.heap.objs.size<=a):a∉X.fs:=fun hb=>by
 obtain⟨_,o,ho,_⟩:=I.ok.funs.mem hb;exact absurd (uH (uB ho) (uI I.sz h)) (Uw _)
theorem Inv.cne(I:Inv X pins σ H s):∀x c,X.env.cells.lookup x=some c->c≠X.env.locals:=fun x c e z=>by
 obtain⟨v,o,ho,hd⟩:=I.cell x c e;obtain⟨m,⟨o',es,ep,ho',hd',_⟩,_⟩:=I.loc;rw[z,ho']at ho;cases ho;rw[hd']at hd;cases hd
theorem Inv.funs(I:Inv X pins σ H s):s.heap.FunFrames X.base X.outer:=by
 have all:∀(l:List Env),(∀b∈frs l,b∈X.fs)->X.s₀.heap.FunFrames X.base l->s.heap.FunFrames X.base l:=by
  intro l
  induction l with
  |nil=>intro _ _;trivial
  |cons env r ih =>
   intro hs hl;obtain⟨hk,⟨L,o,hf,hn,ho,hd⟩,hr⟩:=hl;have hL:L∈X.fs:=hs L (by unfold frs;rw[List.filterMap_cons,hf];exact Uk);obtain⟨sl,e⟩:=I.base.slot L o ho (I.ok.frf L hL) hL fun z=>I.ok.exfs L z hL;exact⟨hk,⟨L,_,hf,hn,e,hd⟩,ih (fun b hb=>hs b (by unfold frs;rw[List.filterMap_cons,hf];exact Ur _ hb)) hr⟩
 exact all X.outer (fun _ hb=>hb) I.ok.funs
theorem Inv.stack(I:Inv X pins σ H s):s.heap.FunFrames X.base X.stack:=by
 rcases I.ok.stk with e|⟨e,hf⟩
 ·rw[e];exact I.funs
 ·rw[e]
  obtain⟨m,hn,_⟩:=I.loc;refine .cons (by rw[I.ok.kind];decide) hf hn ?_ I.funs;exact Heap.get?_none_of_le (uI I.ok.bsz I.ok.above)
theorem Inv.stkSub(I:Inv X pins σ H s):∀b∈frs X.stack,b∈X.env.locals::X.fs:=fun b hb=>by
 rcases I.ok.stk with e|⟨e,hf⟩
 ·rw[e]at hb;exact Ur _ hb
 ·rw[e]at hb
  unfold frs at hb;rw[List.filterMap_cons,hf]at hb;exact hb
theorem Inv.stkFree(I:Inv X pins σ H s):∀b∈frs X.stack,H b=none:=fun b hb=>by
 rcases uk.mp (I.stkSub b hb)with e|hb
 ·rw[e];exact I.free
 ·obtain⟨_,o,ho,_⟩:=I.ok.funs.mem hb
  exact I.base.free b o ho (I.ok.frf b hb) fun z=>I.ok.exfs b z hb
theorem Inv.step{d':Drawn}(I:Inv X pins σ H s)
  (hch:∀b∈ch,(b∈X.ex\/X.s₀.heap.objs.size<=b)/\b≠X.env.locals/\(∀x c,X.env.cells.lookup x=some c->c≠b)/\∀p∈X.pn++pins,p.1≠b)
  (keep:∀b o,b≠X.env.locals->b∉X.fs->b∉ch->s.heap.get? b=some o->H b=none->h'.get? b=some o)
  (slot:∀b o,b≠X.env.locals->b∈X.fs->b∉ch->s.heap.get? b=some o->H b=none->∃sl,h'.get? b=some { o with slots:=sl }) (free:∀b o,b∉ch->s.heap.get? b=some o->H b=none->H' b=none)
  (there:∀b o,b∉ch->s.heap.get? b=some o->∃o',h'.get? b=some o')
  (tups:∀b xs,H b=some (.tup xs)->H' b=some (.tup xs)) (frzs:∀b o u,H b=some (.frz o u)->H' b=some (.frz o u)) (tbls:∀b ps,H b=some (.tbl ps)->∃more,H' b=some (.tbl (ps++more)))
  (ns:∀m,s.heap.Ns X.env.locals m->h'.Ns X.env.locals m) (hok:HOk X.prog X.w H' h') (hg:AllBare g') :
  Inv X pins σ H' { s with heap:=h',gens:=g',drawn:=d',toks:=t' }:=by
 have neL:∀b o,X.s₀.heap.get? b=some o->b≠X.env.locals:=fun b o e=>u7 (uH (uB e) I.ok.above);have neC:∀b o,X.s₀.heap.get? b=some o->b∉X.ex->b∉ch:=fun b o e hx hb=>by
  rcases(hch b hb).1 with z|z
  ·exact hx z
  ·exact absurd (uH (uB e) z) (Uw _)
 have cellK:∀x c,X.env.cells.lookup x=some c->∀v,s.heap.IsCell c v->h'.IsCell c v:=fun x c e v ⟨o,ho,hd⟩=>by
  have nch:c∉ch:=fun z=>(hch c z).2.2.1 x c e rfl;by_cases hc:c∈X.fs
  ·obtain⟨sl,q⟩:=slot c o (I.cne x c e) hc nch ho (I.freeC x c e)
   exact⟨_,q,hd⟩
  ·exact⟨o,keep c o (I.cne x c e) hc nch ho (I.freeC x c e),hd⟩
 refine⟨I.ok,I.os,hg,⟨fun b o e n hb hx=>?_,fun b o e n hb hx=>?_,fun b o e n hx=>?_,fun b o e hx=>?_,fun b xs e=>tups b xs (I.base.tups b xs e),fun b o xs e=>frzs b o xs (I.base.frzs b o xs e),fun b ps e=>?_⟩,?_,fun x c e=>?_,?_,fun x c e=>?_,fun p hp=>?_,hok,I.len⟩
 ·exact keep b o (neL b o e) hb (neC b o e hx) (I.base.keep b o e n hb hx) (I.base.free b o e n hx)
 ·obtain⟨sl,e1⟩:=I.base.slot b o e n hb hx
  obtain⟨sl',e2⟩:=slot b _ (neL b o e) hb (neC b o e hx) e1 (I.base.free b o e n hx);exact⟨sl',e2⟩
 ·obtain⟨o',e1⟩:=I.base.there b o e hx
  exact free b o' (neC b o e hx) e1 (I.base.free b o e n hx)
 ·obtain⟨o',e1⟩:=I.base.there b o e hx
  exact there b o' (neC b o e hx) e1
 ·obtain⟨m1,e1⟩:=I.base.tbls b ps e
  obtain⟨m2,e2⟩:=tbls b _ e1;exact⟨m1++m2,by rw[e2,Array.append_assoc]⟩
 ·obtain⟨m,hn,hl⟩:=I.loc
  refine⟨m,ns m hn,fun i x v e1 e2 e3=>?_⟩;obtain⟨u,r,l⟩:=hl i x v e1 e2 e3;refine⟨u,r,?_⟩;rcases l with l|⟨k,c,e,z⟩
  ·exact .inl l
  ·exact .inr ⟨k,c,e,cellK x c e _ z⟩
 ·obtain⟨v,z⟩:=I.cell x c e
  exact⟨v,cellK x c e v z⟩
 ·obtain⟨m,⟨o,_,_,ho,_⟩,_⟩:=I.loc
  exact free _ o (fun z=>(hch _ z).2.1 rfl) ho I.free
 ·obtain⟨v,o,ho,hd⟩:=I.cell x c e
  exact free c o (fun z=>(hch c z).2.2.1 x c e rfl) ho (I.freeC x c e)
 ·obtain⟨e,n,ne,nf,d⟩:=I.pin p hp
  have nch:p.1∉ch:=fun z=>(hch p.1 z).2.2.2 p hp rfl;exact⟨keep p.1 p.2 ne nf nch e n,free p.1 p.2 nch e n,ne,nf,d⟩
theorem Inv.un(I:Inv X pins σ H s)(u:Un X.fs [] H H' s.heap h')(hok:HOk X.prog X.w H' h'):Inv X pins σ H' { s with heap:=h',toks:=t' }:=by
 obtain⟨m,⟨o,es,ep,ho,r⟩,_⟩:=id I.loc;obtain⟨sl,hL⟩:=u.any ho I.free (by simp);exact I.step (g':=s.gens) (d':=s.drawn) (ch:=[]) (fun _ z=>nomatch z) (fun b o _ hb _ e n=>u.keep b o e n hb (by simp)) (fun b o _ hb _ e n=>u.slot b o e n hb (by simp)) (fun b o _ e n=>u.free b o e n (by simp)) (fun b o _ e=>u.there b o e (by simp)) u.tups u.frzs u.tbls (fun m' hm=>by
  obtain⟨o',es',ep',ho',r'⟩:=hm;rw[ho]at ho';cases ho';exact⟨_,es',ep',hL,r'⟩) hok I.bare
theorem Inv.call{d':Drawn}(I:Inv X pins σ H s)(u:Un (frs X.stack) ch H H' s.heap h')(hok:HOk X.prog X.w H' h')(hg:AllBare g')
  (hch:∀b∈ch,(b∈X.ex\/X.s₀.heap.objs.size<=b)/\b≠X.env.locals/\(∀x c,X.env.cells.lookup x=some c->c≠b)/\∀p∈X.pn++pins,p.1≠b) :
  Inv X pins σ H' { s with heap:=h',gens:=g',drawn:=d',toks:=t' }:=by
 obtain⟨m,⟨o,es,ep,ho,r⟩,_⟩:=id I.loc;obtain⟨sl,hL⟩:=u.any ho I.free fun z=>(hch _ z).2.1 rfl;exact I.step (ch:=ch) hch (fun b o hL hb hc e n=>u.keep b o e n (fun z=>(uk.mp (I.stkSub b z)).elim hL hb) hc) (fun b o _ _ hc e n=>u.any e n hc) (fun b o hc e n=>u.free b o e n hc) (fun b o hc e=>u.there b o e hc) u.tups u.frzs u.tbls (fun m' hm=>by
  obtain⟨o',es',ep',ho',r'⟩:=hm;rw[ho]at ho';cases ho';exact⟨_,es',ep',hL,r'⟩) hok hg
theorem Inv.turned(I:Inv X pins σ H s)(k:∀b o,b≠it->s.heap.get? b=some o->h'.get? b=some o)(hn:H it=none)(hL:it≠X.env.locals)
  (h1:it∈X.ex\/X.s₀.heap.objs.size<=it) (h2:∀x c,X.env.cells.lookup x=some c->c≠it) (h3:∀p∈X.pn++pins,p.1≠it):Inv X pins σ H { s with heap:=h',toks:=t' }:=by
 have nit:∀b u,H b=some u->b≠it:=fun b u e z=>by rw[z,hn]at e;cases e
 refine I.step (g':=s.gens) (d':=s.drawn) (ch:=[it]) (fun b hb=>?_) (fun b o _ _ hc e _=>k b o (fun z=>hc (by simp[z])) e) (fun b o _ _ hc e _=>⟨o.slots,k b o (fun z=>hc (by simp[z])) e⟩) (fun _ _ _ _ n=>n)
  (fun b o hc e=>⟨o,k b o (fun z=>hc (by simp[z])) e⟩) (fun _ _ e=>e) (fun _ _ _ e=>e) (fun b ps e=>⟨#[],by rw[e];simp⟩) (fun m hm=>?_) (fun b u e=>?_) I.bare
 ·have e:b=it:=by simpa using hb
  subst e;exact⟨h1,hL,h2,h3⟩
 ·obtain⟨o,es,ep,ho,r⟩:=hm
  exact⟨o,es,ep,k _ o (Ne.symm hL) ho,r⟩
 ·refine(I.hok b u e).stay (fun c v hc q=>k c v ?_ q) (fun _ q=>q) fun _ _ q=>q
  rcases hc with z|z
  ·rw[z];exact nit b u e
  ·exact nit c _ z
theorem Inv.tok(I:Inv X pins σ H s)(t:Nat):Inv X pins σ H { s with toks:=t }:=I.un (h':=s.heap) (t':=t) Un.refl I.hok
theorem Inv.kept(I:Inv X pins σ H s)(k:∀b u,s.heap.get? b=some u->h'.get? b=some u):Inv X pins σ H { s with heap:=h',toks:=t' }:=I.un (Un.kept k) (I.hok.kept k)
theorem Inv.laid(I:Inv X pins σ H s)(k:∀b u,s.heap.get? b=some u->h'.get? b=some u)(hp:s.heap.objs.size<=a)(new:ObjOk X.prog X.w (upd H a o) h' a o):
  Inv X pins σ (upd H a o) { s with heap:=h',toks:=t' }:=I.un (Un.laid k hp (I.hok.fresh hp)) (I.hok.laid k hp new)
theorem Inv.write{x e:Addr}(I:Inv X pins σ H s)(mu:Mut (H x))(he:e=x\/H e=some (.own x))(k:∀b u,b≠e->s.heap.get? b=some u->h'.get? b=some u)(heo:∃u,h'.get? e=some u)
  (new:ObjOk X.prog X.w (upd H x o) h' x o):Inv X pins σ (upd H x o) { s with heap:=h',toks:=t' }:=I.un (Un.write mu he k heo) (I.hok.write mu he k heo new)
theorem Inv.pins_of{pins':List (Addr×Obj)}(I:Inv X pins σ H s)(h:∀p∈pins',s.heap.get? p.1=some p.2/\H p.1=none/\p.1≠X.env.locals/\p.1∉X.fs/\∀v,p.2.data≠.cell v):Inv X pins' σ H s :=
 ⟨I.ok,I.os,I.bare,I.base,I.loc,I.cell,I.free,I.freeC,fun p hp=>(uy.mp hp).elim (fun z=>I.pin p (uU _ z)) (h p),I.hok,I.len⟩
theorem Z8(hN:N.Nodup)(a:N[i]?=some x)(b:N[j]?=some x):i=j:=by
 obtain⟨h1,e1⟩:=ud.mp a;obtain⟨h2,e2⟩:=ud.mp b;exact(List.getElem_inj hN).mp (e1.trans e2.symm)
theorem jq{M:Model}{v:V}(I:Inv X pins σ H s)(hN:X.N.Nodup)(hi:X.N[i]?=some x)(hx:Loc X.env.scope x)(r:RelV v u)
  (h:∀s',Inv X pins (σ.set i (some v)) H s'->(∃a,Heap.SameBut a s.heap s'.heap/\(a=X.env.locals\/X.env.cells.lookup x=some a))->Q () s') (hf:X.fn x=true\/X.env.scope.names.lookup x=some .local:=by first|exact .inl rfl|exact .inr rfl|assumption):wpAny M A (storeName X.env x u) Q E s:=by
 obtain⟨m,hn,hl⟩:=id I.loc;have hcls:(X.env.scope.kind == .class || (X.env.scope.kind == .module && X.env.locals != X.env.globals))=false:=by rw[I.ok.kind];rfl
 have hiσ:i < σ.length:=by rw[I.len];exact(ud.mp hi).1
 have cne:=I.cne;have tracked:∀{a:Addr}{h':Heap},(∃o,s.heap.get? a=some o/\H a=none)->Heap.SameBut a s.heap h'->HOk X.prog X.w H h':=fun{a h'} ha hs b ob e=>by
  obtain⟨_,_,hfree⟩:=ha;refine(I.hok b ob e).stay (fun c w' hc q=>(hs.2 c ?_).trans q) (fun _ q=>q) fun _ _ q=>q;rintro rfl;rcases hc with rfl|hc
  ·rw[hfree]at e;cases e
  ·rw[hfree]at hc;cases hc
 rcases hx with hk|hk
 ·refine wpAny_storeName_local hk hn (fun h' hn' hs=>?_) hcls
  obtain⟨oL,_,_,hoL,_⟩:=id hn;refine h _ ⟨I.ok,I.os,I.bare,⟨fun b o e n hb hx=>?_,fun b o e n hb hx=>?_,I.base.free,fun b o e hx=>?_,I.base.tups,I.base.frzs,I.base.tbls⟩,⟨_,hn',fun j y v' e1 e2 e3=>?_⟩,fun y c e=>?_,I.free,I.freeC,fun p hp=>?_,tracked ⟨oL,hoL,I.free⟩ hs,by simpa using I.len⟩ ⟨_,hs,.inl rfl⟩
  ·exact(hs.2 b (u7 (uH (uB e) I.ok.above))).trans (I.base.keep b o e n hb hx)
  ·obtain⟨sl,e1⟩:=I.base.slot b o e n hb hx
   exact⟨sl,(hs.2 b (u7 (uH (uB e) I.ok.above))).trans e1⟩
  ·obtain⟨o',e1⟩:=I.base.there b o e hx
   exact⟨o',(hs.2 b (u7 (uH (uB e) I.ok.above))).trans e1⟩
  ·by_cases hj:j=i
   ·subst hj
    rw[hi]at e1;cases e1;rw[List.getElem?_set_self hiσ]at e2;cases e2;exact⟨u,r,.inl ⟨hk,by simp⟩⟩
   ·rw[List.getElem?_set_ne (Ne.symm hj)]at e2
    obtain⟨u',r',q⟩:=hl j y v' e1 e2 e3;refine⟨u',r',?_⟩;rcases q with⟨k,e⟩|⟨k,c,e,z⟩
    ·refine .inl ⟨k,?_⟩
     have:y≠x:=fun e=>hj (Z8 hN e1 (e ▸ hi))
     simp[this,e]
    ·exact .inr ⟨k,c,e,z.sameBut hs (cne y c e)⟩
  ·obtain⟨w',z⟩:=I.cell y c e
   exact⟨w',z.sameBut hs (cne y c e)⟩
  ·obtain⟨e,n,ne,nf,d⟩:=I.pin p hp
   exact⟨(hs.2 p.1 ne).trans e,n,ne,nf,d⟩
 ·have hfn:X.fn x=true:=by
   rcases hf with z|z
   ·exact z
   ·rw[z]at hk;cases hk
  obtain⟨c,hc⟩:=I.ok.has x (.inl hk);obtain⟨w',z⟩:=I.cell x c hc;refine wpAny_storeName_cell I.ok.kind hk hc z (fun h' hc' hs=>?_);obtain⟨oc,hoc,hocd⟩:=id z;refine h { s with heap:=h' } ⟨I.ok,I.os,I.bare,⟨fun b o e n hb hx=>?_,fun b o e n hb hx=>?_,I.base.free,fun b o e hx=>?_,I.base.tups,I.base.frzs,I.base.tbls⟩,⟨m,hn.sameBut hs (Ne.symm (cne x c hc)),fun j y v' e1 e2 e3=>?_⟩,fun y c' e=>?_,I.free,I.freeC,fun p hp=>?_,tracked ⟨oc,hoc,I.freeC x c hc⟩ hs,by simpa using I.len⟩ ⟨c,hs,.inr hc⟩
  ·exact(hs.2 b (u7 (uH (uB e) (I.ok.cab x c hfn hc)))).trans (I.base.keep b o e n hb hx)
  ·obtain⟨sl,e1⟩:=I.base.slot b o e n hb hx
   exact⟨sl,(hs.2 b (u7 (uH (uB e) (I.ok.cab x c hfn hc)))).trans e1⟩
  ·obtain⟨o',e1⟩:=I.base.there b o e hx
   exact⟨o',(hs.2 b (u7 (uH (uB e) (I.ok.cab x c hfn hc)))).trans e1⟩
  ·by_cases hj:j=i
   ·subst hj
    rw[hi]at e1;cases e1;rw[List.getElem?_set_self hiσ]at e2;cases e2;exact⟨u,r,.inr ⟨.inl hk,c,hc,hc'⟩⟩
   ·rw[List.getElem?_set_ne (Ne.symm hj)]at e2
    obtain⟨u',r',q⟩:=hl j y v' e1 e2 e3;refine⟨u',r',?_⟩;rcases q with q|⟨k,c',e,z'⟩
    ·exact .inl q
    ·refine .inr ⟨k,c',e,z'.sameBut hs ?_⟩
     rintro rfl;exact hj (Z8 hN e1 (I.ok.inj _ _ _ e hc ▸ hi))
  ·by_cases hcc:c'=c
   ·subst hcc;exact⟨_,hc'⟩
   ·obtain⟨w2,z2⟩:=I.cell y c' e
    exact⟨w2,z2.sameBut hs hcc⟩
  ·obtain⟨e,n,ne,nf,d⟩:=I.pin p hp
   refine⟨(hs.2 p.1 ?_).trans e,n,ne,nf,d⟩;intro q;rw[q,hoc]at e;have q':oc=p.2:=uZ.inj e;exact d w' (by rw[<- q'];exact hocd)
theorem Ya{M:Model}{v:V}(I:Inv X pins σ H s)(hN:X.N.Nodup)(hi:X.N[i]?=some x)(hx:Loc X.env.scope x)(r:RelV v u)
  (h:∀s',Inv X pins (σ.set i (some v)) H s'->Q () s') (hf:X.fn x=true\/X.env.scope.names.lookup x=some .local:=by first|exact .inl rfl|exact .inr rfl|assumption):wpAny M A (storeName X.env x u) Q E s :=
 jq I hN hi hx r (fun s' I' _=>h s' I') hf
theorem Inv.call'(I:Inv X pins σ H s)(ho:s'.os=s.os)(u:Un (frs X.stack) ch H H' s.heap s'.heap)(hok:HOk X.prog X.w H' s'.heap)(hg:AllBare s'.gens)
  (hch:∀b∈ch,(b∈X.ex\/X.s₀.heap.objs.size<=b)/\b≠X.env.locals/\(∀x c,X.env.cells.lookup x=some c->c≠b)/\∀p∈X.pn++pins,p.1≠b):Inv X pins σ H' s':=by
 obtain⟨h',g',d',t',o'⟩:=s';have e:o'=s.os:=ho;subst e;exact I.call (g':=g') (t':=t') (d':=d') u hok hg hch
end
abbrev XK:=Value->Option Addr->Hp->Prop
abbrev St:=List (Option V)
variable{σ:St}
abbrev VK:=V->Hp->Prop
abbrev TE:=St->Hp->VK->Prop
variable{ta te:TE}
abbrev TT:=St->Hp->(Bool->Hp->Prop)->Prop
abbrev TA:=St->Hp->(List V->Hp->Prop)->Prop
structure Ends where
 nx:St->Hp->Prop
 rt:VK
 bk:St->Hp->Prop:=fun _ _=>False
 ct:St->Hp->Prop:=fun _ _=>False
variable{D:Ends}
abbrev TS:=Ends->St->Hp->Prop
variable{tb:TS}
def EP(X:Cx)(pins:List (Addr×Obj))(σ:St)(Q:VK)(u:Value)(s':Shared):Prop:=∃v H',Inv X pins σ H' s'/\RelV v u/\Q v H'
def TP(X:Cx)(pins:List (Addr×Obj))(σ:St)(Q:Bool->Hp->Prop)(b:Bool)(s':Shared):Prop:=∃H',Inv X pins σ H' s'/\Q b H'
def AP(X:Cx)(pins:List (Addr×Obj))(σ:St)(Q:List V->Hp->Prop)(us:List Value)(s':Shared):Prop:=∃vs H',Inv X pins σ H' s'/\Vals vs us/\Q vs H'
def SP(X:Cx)(pins:List (Addr×Obj))(D:Ends)(f:Flow)(s':Shared):Prop :=
 match f with
 |.next=>∃σ' H',Inv X pins σ' H' s'/\D.nx σ' H'
 |.brk=>∃σ' H',Inv X pins σ' H' s'/\D.bk σ' H'
 |.cont=>∃σ' H',Inv X pins σ' H' s'/\D.ct σ' H'
 |.ret u=>∃v σ' H',Inv X pins σ' H' s'/\RelV v u/\D.rt v H'
def PE(X:Cx)(e:Expr)(t:TE):Prop :=
 ∀(pins:List (Addr×Obj))(s:Shared)(σ:St)(H:Hp)(Q:VK),Inv X pins σ H s->t σ H Q->wpAny (model X.prog X.w) X.A (eval e X.env) (EP X pins σ Q) X.xe s
def PT(X:Cx)(e:Expr)(t:TT):Prop :=
 ∀(pins:List (Addr×Obj))(s:Shared)(σ:St)(H:Hp)(Q:Bool->Hp->Prop),Inv X pins σ H s->t σ H Q->wpAny (model X.prog X.w) X.A (isTrue e X.env (eval e X.env)) (TP X pins σ Q) X.xe s
def PW(X:Cx)(e:Expr)(t:TT):Prop :=
 ∀(whole:Sem Value)(pins:List (Addr×Obj))(s:Shared)(σ:St)(H:Hp)(Q:Bool->Hp->Prop),Inv X pins σ H s->t σ H Q->wpAny (model X.prog X.w) X.A (isTrue e X.env whole) (TP X pins σ Q) X.xe s
theorem PW.pt{t:TT}(h:PW X e t):PT X e t:=h _
def PA(X:Cx)(es:List Expr)(t:TA):Prop :=
 ∀(pos:Pos)(pins:List (Addr×Obj))(s:Shared)(σ:St)(H:Hp)(Q:List V->Hp->Prop),Inv X pins σ H s->t σ H Q->wpAny (model X.prog X.w) X.A (spliced (backTo pos (starEach es X.env))) (AP X pins σ Q) X.xe s
def PS(X:Cx)(st:Stmt)(t:TS):Prop :=
 ∀(pins:List (Addr×Obj))(s:Shared)(σ:St)(H:Hp)(D:Ends),Inv X pins σ H s->t D σ H->wpAny (model X.prog X.w) X.A (exec st X.env) (SP X pins D) X.xe s
def PSs(X:Cx)(st:List Stmt)(t:TS):Prop :=
 ∀(pins:List (Addr×Obj))(s:Shared)(σ:St)(H:Hp)(D:Ends),Inv X pins σ H s->t D σ H->wpAny (model X.prog X.w) X.A (execs st X.env) (SP X pins D) X.xe s
theorem thn{α:Type}{t:Sem α}{Q Q':α->Shared->Prop}{M:Model}(h:wpAny M A t Q E s)(hQ:∀a s,Q a s->Q' a s):wpAny M A t Q' E s:=wpAny_mono h hQ fun _ _ x=>x
section
def tVar(i:Nat):TE:=fun σ H Q=>∃v,σ[i]?=some (some v)/\Q v H
def tC(v:V):TE:=fun _ H Q=>Q v H
theorem zb1(hN:X.N[i]?=some x)(hv:Vis X.env.scope x)(hd:(x == ("__debug__":Str))=false:=by decide)(hcd:(x == ("__classdict__":Str))=false:=by decide):PE X (.Name x pos) (tVar i):=by
 intro pins s σ H Q I h;obtain⟨v,e,h⟩:=h;obtain⟨m,hn,hl⟩:=I.loc;obtain⟨u,r,l⟩:=hl i x v hN e hv;have fin:EP X pins σ Q u s:=⟨v,H,I,r,h⟩;rcases l with⟨hk,hm⟩|⟨hk,c,hc,hcell⟩
 ·exact wpAny_Name (wpAny_loadName_local I.ok.kind hk hn hm fin) hd
 ·rcases hk with hk|hk
  ·exact wpAny_Name (wpAny_loadName_cell I.ok.kind hk hc hcell fin) hd
  ·exact wpAny_Name (wpAny_loadName_free I.ok.kind hk hc hcell fin hcd) hd
theorem zb2{i j pos}:PE X (.Constant (.int i) j pos) (tC (.int i)):=fun _ _ _ H _ I h=>wpAny_Constant_int ⟨.int i,H,I.tok _,⟨_,rfl⟩,h⟩
theorem zdE{b j pos}:PE X (.Constant (.bool b) j pos) (tC (.bl b)):=fun _ _ _ H _ I h=>Constant_bool ⟨.bl b,H,I,rfl,h⟩
theorem zb3{x j pos}:PE X (.Constant (.str x) j pos) (tC (.str x)):=fun _ _ _ H _ I h=>Calls.Constant_str ⟨.str x,H,I.tok _,⟨_,rfl⟩,h⟩
def Gl(X:Cx)(x:Str):Prop:=X.env.kindOf x=some .globalImplicit
theorem vh{Q:VSP}(I:Inv X pins σ H s)(hg:Gl X x)(hm:X.mg x=some u)(h:Q u s)
  (hd:(x == ("__debug__":Str))=false:=by decide):wpAny (model X.prog X.w) X.A (eval (.Name x pos) X.env) Q E s :=
 Calls.Name_function_global I.ok.kind hg (Calls.loadGlobal_global (by rw[I.ok.glob];exact I.mod.glob.keeps I.bk) hm h) hd
theorem xG{Q:VSP}(I:Inv X pins σ H s)(hg:Gl X x)(hm:X.mg x=none)(hv:bootBuiltins x=some u)(h:Q u s)
  (hn:x≠"__name__":=by decide) (hd:(x == ("__debug__":Str))=false:=by decide):wpAny (model X.prog X.w) X.A (eval (.Name x pos) X.env) Q E s:=by
 obtain⟨mb,h1,h2⟩:=I.mod.blt;exact Calls.Name_function_global I.ok.kind hg (Calls.loadGlobal_builtin (by rw[I.ok.glob];exact I.mod.glob.keeps I.bk) hm (by rw[I.ok.blt];exact h1.keeps I.bk) ((h2 x hn).trans hv) h) hd
theorem QD{v:V}(hg:Gl X x)(hm:X.mg x=some u)(r:RelV v u)(hd:(x == ("__debug__":Str))=false:=by decide):PE X (.Name x pos) (tC v) :=
 fun _ _ _ H _ I h=>vh I hg hm ⟨v,H,I,r,h⟩ hd
variable{a b:Expr}{tb:TE}
def tB(t:TE):TT:=fun σ H Q=>t σ H fun x H1=>∃c,x=.bl c/\Q c H1
theorem zb4{t:TE}(h:PE X e t)(he:∀whole,isTrue e X.env whole=(do let v <- whole;standAt e.pos;holding [v] (truthy v)):=by intro _;rfl):PT X e (tB t):=by
 intro pins s σ H Q I hw;refine isTrue_plain (thn (h pins s σ H _ I hw) fun v s1 ⟨x,H1,I1,r1,q1⟩=>?_) (he _);obtain⟨d,rfl,q⟩:=q1;cases r1;exact wpAny_truthy_bool ⟨H1,I1,q⟩
variable{tA tB':TT}{rest:List Expr}
def tAnd(t u:TT):TT:=fun σ H Q=>t σ H fun c H1=>if c=true then u σ H1 Q else Q false H1
def tOr(t u:TT):TT:=fun σ H Q=>t σ H fun c H1=>if c=true then Q true H1 else u σ H1 Q
def tNot(t:TT):TT:=fun σ H Q=>t σ H fun c H1=>Q (!c) H1
theorem pw_and1(ha:PT X a tA):PW X (.BoolOp .And [a] pos) tA:=by
 intro wh pins s σ H Q I h;refine isTrue_and (thn (ha pins s σ H Q I h) fun c s1 e=>?_);cases c with
 |true=>exact isTrue_and_nil e
 |false=>exact e
theorem pw_or1(ha:PT X a tA):PW X (.BoolOp .Or [a] pos) tA:=by
 intro wh pins s σ H Q I h;refine isTrue_or (thn (ha pins s σ H Q I h) fun c s1 e=>?_);cases c with
 |false=>exact isTrue_or_nil e
 |true=>exact e
theorem pw_and(ha:PT X a tA)(hb:PW X (.BoolOp .And (b::rest) pos) tB'):PW X (.BoolOp .And (a::b::rest) pos) (tAnd tA tB'):=by
 intro wh pins s σ H Q I h;refine isTrue_and (thn (ha pins s σ H _ I h) fun c s1 hq_=>?_);obtain⟨H1,I1,q1⟩:=hq_;cases c with
 |true=>exact hb wh pins s1 σ H1 Q I1 q1
 |false=>exact⟨H1,I1,q1⟩
theorem pw_or(ha:PT X a tA)(hb:PW X (.BoolOp .Or (b::rest) pos) tB'):PW X (.BoolOp .Or (a::b::rest) pos) (tOr tA tB'):=by
 intro wh pins s σ H Q I h;refine isTrue_or (thn (ha pins s σ H _ I h) fun c s1 hq_=>?_);obtain⟨H1,I1,q1⟩:=hq_;cases c with
 |true=>exact⟨H1,I1,q1⟩
 |false=>exact hb wh pins s1 σ H1 Q I1 q1
theorem zb5(ha:PT X a tA):PT X (.UnaryOp .Not a pos) (tNot tA):=by
 intro pins s σ H Q I h;exact isTrue_not (ha pins s σ H (fun c H1=>Q (!c) H1) I h)
def Vp(ta tb:TE):TE:=fun σ H Q=>ta σ H fun x H1=>∃c,x=.bl c/\if c=true then tb σ H1 Q else Q (.bl false) H1
def tOrV(ta tb:TE):TE:=fun σ H Q=>ta σ H fun x H1=>∃c,x=.bl c/\if c=true then Q (.bl true) H1 else tb σ H1 Q
def zbh(ta:TE):TE:=fun σ H Q=>ta σ H fun x H1=>∃c,x=.bl c/\Q (.bl (!c)) H1
theorem zb6{op}{t:TE}(h:PE X a t):PE X (.BoolOp op [a] pos) t:=fun pins s σ H Q I hw=>BoolOp_one (h pins s σ H Q I hw)
theorem zb7(ha:PE X a ta)(hb:PE X (.BoolOp .And (b::rest) pos) tb):PE X (.BoolOp .And (a::b::rest) pos) (Vp ta tb):=by
 intro pins s σ H Q I h;refine BoolOp_and (thn (ha pins s σ H _ I h) fun v s1 hq_=>?_);obtain⟨x,H1,I1,r1,q1⟩:=hq_;obtain⟨c,rfl,q1⟩:=q1;cases r1;refine wpAny_truthy_bool ?_;cases c with
 |true=>exact hb pins s1 σ H1 Q I1 q1
 |false=>exact⟨.bl false,H1,I1,rfl,q1⟩
theorem zdF(ha:PE X a ta)(hb:PE X (.BoolOp .Or (b::rest) pos) tb):PE X (.BoolOp .Or (a::b::rest) pos) (tOrV ta tb):=by
 intro pins s σ H Q I h;refine BoolOp_or (thn (ha pins s σ H _ I h) fun v s1 hq_=>?_);obtain⟨x,H1,I1,r1,q1⟩:=hq_;obtain⟨c,rfl,q1⟩:=q1;cases r1;refine wpAny_truthy_bool ?_;cases c with
 |false=>exact hb pins s1 σ H1 Q I1 q1
 |true=>exact⟨.bl true,H1,I1,rfl,q1⟩
theorem zb8(ha:PE X a ta):PE X (.UnaryOp .Not a pos) (zbh ta):=by
 intro pins s σ H Q I h;refine UnaryOp_ (thn (ha pins s σ H _ I h) fun v s1 hq_=>?_);obtain⟨x,H1,I1,r1,q1⟩:=hq_;obtain⟨c,rfl,q1⟩:=q1;cases r1;exact not_of (wpAny_truthy_bool ⟨.bl (!c),H1,I1,rfl,q1⟩)
def tIf(t:TT)(ta tb:TE):TE:=fun σ H Q=>t σ H fun c H1=>if c=true then ta σ H1 Q else tb σ H1 Q
theorem Vq(hc:PT X c tA)(ha:PE X a ta)(hb:PE X b tb):PE X (.IfExp c a b pos) (tIf tA ta tb):=by
 intro pins s σ H Q I h;refine wpAny_IfExp (thn (hc pins s σ H _ I h) fun d s1 hq_=>?_);obtain⟨H1,I1,q1⟩:=hq_;cases d with
 |true=>exact ha pins s1 σ H1 Q I1 q1
 |false=>exact hb pins s1 σ H1 Q I1 q1
end
def SqL(K:ub)(H:Hp)(a:Addr)(xs:List V):Prop :=
 Rd H a (.lst xs) \/
  ∃(o:Obj)(its:Array Value)(n:Nat),K.lookup a=some o/\o.cls=.type "list"/\o.dict=none/\o.data=.seq its n/\its.size<=sizeLine/\Vals xs its.toList
def SqT(K:ub)(H:Hp)(a:Addr)(xs:List V):Prop :=
 Rd H a (.tup xs) \/
  ∃(o:Obj)(its:Array Value)(n:Nat),K.lookup a=some o/\o.cls=.type "tuple"/\o.data=.seq its n/\its.size<=sizeLine/\Vals xs its.toList
def absV:Value->Option V
 |.none=>some .non
 |.bool b=>some (.bl b)
 |.int i _=>some (.int i)
 |.str x _=>some (.str x)
 |.bytes b _=>some (.byt b)
 |.float b _=>some (.flt b)
 |.ref a=>some (.ref a)
 |.type n=>some (.ty n)
 |_=>none
theorem RelV.abs{x:V}(r:RelV x u):absV u=some x:=by
 cases x with
 |non=>cases r;rfl
 |bl _=>cases r;rfl
 |int _=>obtain⟨t,rfl⟩:=r;rfl
 |str _=>obtain⟨t,rfl⟩:=r;rfl
 |byt _=>obtain⟨t,rfl⟩:=r;rfl
 |flt _=>obtain⟨t,rfl⟩:=r;rfl
 |ref _=>cases r;rfl
 |ty _=>cases r;rfl
theorem RelV.inj{x y:V}(r:RelV x u)(q:RelV y u):x=y:=uZ.inj (r.abs.symm.trans q.abs)
theorem Vals.inj:∀{xs ys:List V}{us:List Value},Vals xs us->Vals ys us->xs=ys
 |_,_,_,.nil,.nil=>rfl
 |_,_,_,.cons r t,.cons r' t'=>by rw[r.inj r',Vals.inj t t']
section
variable{ys:List V}
theorem SqL.of(h:H a=some (.lst xs)):SqL K H a xs:=.inl (.inl h)
theorem SqT.of(h:H a=some (.tup xs)):SqT K H a xs:=.inl (.inl h)
theorem Inv.list(I:Inv X pins σ H s)(h:SqL X.K H a xs):∃its:List Value,Vals xs its/\PlainL s.heap a its.toArray/\xs.length<=sizeLine:=by
 rcases h with h|⟨o,its,n,hk,hc,hd,hs,hz,r⟩
 ·obtain⟨z,its,n,r,e⟩:=h.ok I.hok
  exact⟨its,r,⟨_,n,e,rfl,rfl,rfl⟩,z⟩
 ·refine⟨its.toList,r,⟨o,n,I.kIn a o hk,hc,hd,by simpa using hs⟩,?_⟩
  have e:=r.length;simp only[Array.length_toList]at e
  lia
theorem Inv.tuple(I:Inv X pins σ H s)(h:SqT X.K H a xs):∃its:List Value,Vals xs its/\IsTup s.heap a its.toArray/\xs.length<=sizeLine:=by
 rcases h with h|⟨o,its,n,hk,hc,hs,hz,r⟩
 ·obtain⟨z,its,r,p⟩:=h.ok I.hok
  exact⟨its,r,p.is,z⟩
 ·refine⟨its.toList,r,⟨o,I.kIn a o hk,hc,n,by simpa using hs⟩,?_⟩
  have e:=r.length;simp only[Array.length_toList]at e
  lia
theorem Inv.list_inj(I:Inv X pins σ H s)(h:SqL X.K H a xs)(h':SqL X.K H a ys):xs=ys:=by
 obtain⟨its,r,⟨o,n,e,_,_,d⟩,_⟩:=I.list h;obtain⟨its',r',⟨o',n',e',_,_,d'⟩,_⟩:=I.list h';rw[e]at e';cases e';rw[d]at d';injection d' with d1 _
 have:its=its':=by simpa using congrArg Array.toList d1
 subst this;exact r.inj r'
theorem Inv.tuple_inj(I:Inv X pins σ H s)(h:SqT X.K H a xs)(h':SqT X.K H a ys):xs=ys:=by
 obtain⟨its,r,⟨o,e,_,n,d⟩,_⟩:=I.tuple h;obtain⟨its',r',⟨o',e',_,n',d'⟩,_⟩:=I.tuple h';rw[e]at e';cases e';rw[d]at d';injection d' with d1 _
 have:its=its':=by simpa using congrArg Array.toList d1
 subst this;exact r.inj r'
end
abbrev Cx.wish(X:Cx)(E:VSP):Cx:={ X with xe:=E }
abbrev Cx.nox(X:Cx):Cx:=X.wish fun _ _=>False
theorem Cx.Ok.wish(ok:X.Ok)(E:VSP):(X.wish E).Ok :=
 ⟨ok.mod,ok.kind,ok.glob,ok.blt,ok.above,ok.inj,ok.has,ok.cab,ok.hd,ok.frames,ok.stk,ok.exf,ok.bs,ok.bsz,ok.noex,ok.exfs,ok.funs,ok.frf⟩
theorem Cx.Ok.unwish(ok:(X.wish E).Ok):X.Ok :=
 ⟨ok.mod,ok.kind,ok.glob,ok.blt,ok.above,ok.inj,ok.has,ok.cab,ok.hd,ok.frames,ok.stk,ok.exf,ok.bs,ok.bsz,ok.noex,ok.exfs,ok.funs,ok.frf⟩
theorem Inv.wish(I:Inv X pins σ H s)(E:VSP):Inv (X.wish E) pins σ H s:=⟨I.ok.wish E,I.os,I.bare,I.base,I.loc,I.cell,I.free,I.freeC,I.pin,I.hok,I.len⟩
theorem Inv.unwish(I:Inv (X.wish E) pins σ H s):Inv X pins σ H s:=⟨I.ok.unwish,I.os,I.bare,I.base,I.loc,I.cell,I.free,I.freeC,I.pin,I.hok,I.len⟩
theorem SP.unwish{f:Flow}(h:SP (X.wish E) pins D f s'):SP X pins D f s':=by
 cases f with
 |next=>obtain⟨σ',H',I,q⟩:=h;exact⟨σ',H',I.unwish,q⟩
 |brk=>obtain⟨σ',H',I,q⟩:=h;exact⟨σ',H',I.unwish,q⟩
 |cont=>obtain⟨σ',H',I,q⟩:=h;exact⟨σ',H',I.unwish,q⟩
 |ret u=>obtain⟨v,σ',H',I,r,q⟩:=h;exact⟨v,σ',H',I.unwish,r,q⟩
theorem PSs.nox{st:List Stmt}{t:TS}(h:PSs X.nox st t):PSs X st t:=fun pins s σ H D I hw =>
 wpAny_mono (h pins s σ H D (I.wish _) hw) (fun _ _ q=>q.unwish) fun _ _ z=>False.elim z
section
variable{rest:List Stmt}{t u:TS}
def jr:TS:=fun D σ H=>D.nx σ H
def tSeq(t u:TS):TS:=fun D σ H=>t { D with nx:=u D } σ H
theorem QE:PSs X [] jr:=fun _ _ σ H _ I h=>wpAny_execs_nil ⟨σ,H,I,h⟩
theorem Vr(h1:PS X st t)(h2:PSs X rest u):PSs X (st::rest) (tSeq t u):=by
 intro pins s σ H D I h;refine wpAny_execs_cons (thn (h1 pins s σ H { D with nx:=u D } I h) fun f s1 q=>?_);cases f with
 |next =>
  obtain⟨σ',H',I',q⟩:=q;exact h2 pins s1 σ' H' D I' q
 |ret v=>exact q
 |brk=>exact q
 |cont=>exact q
theorem QF(h1:PS X st t):PSs X [st] t:=by
 intro pins s σ H D I h;refine wpAny_execs_cons (thn (h1 pins s σ H D I h) fun f s1 q=>?_);cases f with
 |next=>exact wpAny_execs_nil q
 |ret v=>exact q
 |brk=>exact q
 |cont=>exact q
theorem Inv.quiet(I:Inv X pins σ H s):interactive X.env=false:=by simp[interactive,I.ok.kind]
def Vs(te:TE):TS:=fun D σ H=>te σ H fun _ H1=>D.nx σ H1
theorem QG(he:PE X e te)(hs:swapsWith e none pos.line X.env=pure false:=by rfl):PS X (.Expr e pos) (Vs te):=by
 intro pins s σ H D I h;exact wpAny_Expr_any (thn (he pins s σ H _ I h) fun v s1 ⟨x,H1,I1,r1,q1⟩=>⟨σ,H1,I1,q1⟩) I.quiet hs
def tRet(te:TE):TS:=fun D σ H=>te σ H D.rt
theorem zb9(he:PE X e te):PS X (.Return (some e) pos) (tRet te):=by
 intro pins s σ H D I h;exact wpAny_Return_some (thn (he pins s σ H _ I h) fun v s1 ⟨x,H1,I1,r1,q1⟩=>⟨x,σ,H1,I1,r1,q1⟩)
def tIfS(c:TT)(t u:TS):TS:=fun D σ H=>c σ H fun b H1=>if b=true then t D σ H1 else u D σ H1
theorem zdG{a b:List Stmt}{tc:TT}(hc:PT X c tc)(ha:PSs X a t)(hb:PSs X b u):PS X (.If c a b pos) (tIfS tc t u):=by
 intro pins s σ H D I h;refine wpAny_If (thn (hc pins s σ H _ I h) fun d s1 hq_=>?_);obtain⟨H1,I1,q1⟩:=hq_;cases d with
 |true=>exact ha pins s1 σ H1 D I1 q1
 |false=>exact hb pins s1 σ H1 D I1 q1
end
abbrev TG:=V->St->Hp->(St->Hp->Prop)->Prop
abbrev TGs:=List V->St->Hp->(St->Hp->Prop)->Prop
def PG(X:Cx)(target:Expr)(t:TG):Prop :=
 ∀(pins:List (Addr×Obj))(s:Shared)(σ:St)(H:Hp)(v:V)(u:Value)(Q:St->Hp->Prop),Inv X pins σ H s->RelV v u->t v σ H Q ->
  wpAny (model X.prog X.w) X.A (assign target X.env u) (fun _ s'=>∃σ' H',Inv X pins σ' H' s'/\Q σ' H') X.xe s
def PGs(X:Cx)(ts:List Expr)(t:TGs):Prop :=
 ∀(pins:List (Addr×Obj))(s:Shared)(σ:St)(H:Hp)(vs:List V)(us:List Value)(Q:St->Hp->Prop),Inv X pins σ H s->Vals vs us->t vs σ H Q ->
  wpAny (model X.prog X.w) X.A (assignInOrder ((assignEach ts X.env).map (·.2)) us) (fun _ s'=>∃σ' H',Inv X pins σ' H' s'/\Q σ' H') X.xe s
abbrev TSet:=V->V->V->Hp->(Hp->Prop)->Prop
def PSet(X:Cx)(t:TSet):Prop :=
 ∀(pins:List (Addr×Obj))(s:Shared)(σ:St)(H:Hp)(o i v:V)(ov iv u:Value)(Q:Hp->Prop),Inv X pins σ H s->RelV o ov->RelV i iv->RelV v u->t o i v H Q ->
  wpAny (model X.prog X.w) X.A (setItem ov iv u) (fun _ s'=>∃H',Inv X pins σ H' s'/\Q H') X.xe s
def w5(i:Nat):TG:=fun v σ H Q=>Q (σ.set i (some v)) H
theorem QH(hN:X.N.Nodup)(hi:X.N[i]?=some x)(hx:Loc X.env.scope x)(hf:X.fn x=true\/X.env.scope.names.lookup x=some .local:=by first|exact .inl rfl|exact .inr rfl|assumption):PG X (.Name x pos) (w5 i):=by
 intro pins s σ H v u Q I r h;exact wpAny_assign_Name (Ya I hN hi hx r (fun s' I'=>⟨_,H,I',h⟩) hf)
def gNil:TGs:=fun vs σ H Q=>vs=[]/\Q σ H
def zbi(t:TG)(u:TGs):TGs:=fun vs σ H Q=>∃v r,vs=v::r/\t v σ H fun σ' H'=>u r σ' H' Q
theorem QI:PGs X [] gNil:=by
 intro pins s σ H vs us Q I r h;obtain⟨e,h⟩:=h;subst e;cases r;exact assignInOrder_nil ⟨σ,H,I,h⟩
theorem Vt{t:TG}{u:TGs}(h1:PG X e t)(h2:PGs X es u)
  (hs:(assignEach (e::es) X.env).map (·.2)=assign e X.env::(assignEach es X.env).map (·.2):=by rfl):PGs X (e::es) (zbi t u):=by
 intro pins s σ H vs us Q I r h;obtain⟨v,vr,e1,h⟩:=h;subst e1;cases r with
 |cons r rr =>
  rw[hs];refine assignInOrder_cons (thn (h1 pins s σ H _ _ _ I r h) fun _ s1 hq_=>?_);obtain⟨σ1,H1,I1,q1⟩:=hq_;exact h2 pins s1 σ1 H1 _ _ Q I1 rr q1
def gTup(K:ub)(n:Nat)(t:TGs):TG:=fun v σ H Q=>∃a xs,v=.ref a/\SqT K H a xs/\xs.length=n/\t xs σ H Q
theorem zca{k:Nat}{t:TGs}(hc:X.calm=true)(h:PGs X es t)
  (hn:(assignEach es X.env).length=n:=by rfl) (hst:(assignEach es X.env).findIdx? (·.1)=none:=by rfl):PG X (.Tuple es k pos) (gTup X.K n t):=by
 intro pins s σ H v u Q I r hw;obtain⟨a,xs,e1,hq,hl,hw⟩:=hw;subst e1;cases r;obtain⟨its,rv,ht,hz⟩:=I.tuple hq;refine assign_Tuple_tuple (I.ok.hd hc) ht (by simp[hn,<- hl,rv.length]) hst fun h' hx=>?_;have I1:Inv X pins σ H { s with heap:=h' }:=I.kept (t':=s.toks) fun b o e=>hx b o (u7 (uB e)) e;exact h pins _ σ H xs _ Q I1 (by simpa using rv) hw
def gSub(to ti:TE)(t:TSet):TG:=fun v σ H Q=>to σ H fun o H1=>ti σ H1 fun i H2=>t o i v H2 fun H3=>Q σ H3
theorem zcb{o i:Expr}{to ti:TE}{t:TSet}(ho:PE X o to)(hi:PE X i ti)(hs:PSet X t)
  (ha:∀v,assign (.Subscript o i pos) X.env v=(do
   let ov <- holding [v] (eval o X.env)
   let iv <- holding [v,ov] (eval i X.env)
   standAt pos
   holding [v,ov,iv] (setItem ov iv v)
   release [v,ov,iv] []):=by intro _;rfl):PG X (.Subscript o i pos) (gSub to ti t):=by
 intro pins s σ H v u Q I r h;rw[ha];refine wpAny_bind (wpAny_holding (thn (ho pins s σ H _ I h) fun ov s1 hq_=>?_));obtain⟨x,H1,I1,r1,q1⟩:=hq_;refine wpAny_bind (wpAny_holding (thn (hi pins s1 σ H1 _ I1 q1) fun iv s2 hq_=>?_));obtain⟨y,H2,I2,r2,q2⟩:=hq_;refine wpAny_bind (wpAny_standAt (wpAny_bind (wpAny_holding (thn (hs pins s2 σ H2 x y v ov iv u _ I2 r1 r2 r q2) fun _ s3 hq_=>?_))));obtain⟨H3,I3,q3⟩:=hq_;exact wpAny_release ⟨σ,H3,I3,q3⟩
def tAsg(te:TE)(g:TG):TS:=fun D σ H=>te σ H fun x H1=>g x σ H1 D.nx
theorem zcc{g:TG}(he:PE X e te)(hg:PG X tg g)(hs:swapsWithSole [tg] e pos.line X.env=pure false:=by rfl)(hw:swappedStores [tg] e X.env=pure none:=by rfl)
  (h1:(assignEach [tg] X.env).map (·.2)=[assign tg X.env]:=by rfl):PS X (.Assign [tg] e pos) (tAsg te g):=by
 intro pins s σ H D I h;refine wpAny_Assign_stores (thn (he pins s σ H _ I h) fun v s1 ⟨x,H1,I1,r1,q1⟩=>?_) hs hw;rw[h1];exact thn (hg pins s1 σ H1 x v _ I1 r1 q1) fun _ s2 q=>q
theorem zcd(hN:X.N.Nodup)(hi:X.N[i]?=some x)(hx:Loc X.env.scope x)(he:PE X e te)(hs:swapsWith e (some (.Name x pos')) pos.line X.env=pure false:=by rfl)(hf:X.fn x=true\/X.env.scope.names.lookup x=some .local:=by first|exact .inl rfl|exact .inr rfl|assumption):
  PS X (.Assign [.Name x pos'] e pos) (tAsg te (w5 i)):=by
 intro pins s σ H D I h;refine wpAny_Assign_Name (thn (he pins s σ H _ I h) fun v s1 ⟨y,H1,I1,r1,q1⟩=>?_) hs;exact Ya I1 hN hi hx r1 (fun s2 I2=>⟨_,H1,I2,q1⟩) hf
def tWhile(c:TT)(tb:TS):TS:=fun D σ H=>∃W:Nat->St->Hp->Prop,(∃m,W m σ H)/\∀m σ H,W m σ H ->
 c σ H fun b H1=>if b=true then ∃N:St->Hp->Prop,(∀σ' H',N σ' H'->∃m',m' < m/\W m' σ' H')/\tb { D with nx:=N,ct:=N,bk:=D.nx } σ H1 else D.nx σ H1
theorem Vu{tc:TT}(hp:PassesOwn (model X.prog X.w) X.A X.env X.xe)(hc:PT X c tc)(hb:PSs X body tb):PS X (.While c body [] pos) (tWhile tc tb):=by
 intro pins s σ H D I h;obtain⟨W,⟨m0,w0⟩,turn⟩:=h;refine wpAny_While (codeAny_whileLoop (fun n s'=>∃σ' H',Inv X pins σ' H' s'/\W n σ' H') ?_ m0 ⟨σ,H,I,w0⟩);rintro n s1 ⟨σ1,H1,I1,w1⟩;refine wpAny_passesOwn hp (thn (hc pins s1 σ1 H1 _ I1 (turn n σ1 H1 w1)) fun b s2 hq_=>?_);obtain⟨H2,I2,q2⟩:=hq_;cases b with
 |true =>
  obtain⟨N,hN,q2⟩:=q2;rw[if_pos rfl];refine wpAny_passesOwn hp (thn (hb pins s2 σ1 H2 _ I2 q2) fun f s3 q3=>?_);cases f with
  |next =>
   obtain⟨σ3,H3,I3,n3⟩:=q3;obtain⟨m',hm,w3⟩:=hN σ3 H3 n3;exact⟨m',hm,σ3,H3,I3,w3⟩
  |cont =>
   obtain⟨σ3,H3,I3,n3⟩:=q3;obtain⟨m',hm,w3⟩:=hN σ3 H3 n3;exact⟨m',hm,σ3,H3,I3,w3⟩
  |brk=>exact q3
  |ret v=>exact q3
 |false =>
  rw[if_neg uA];exact wpAny_execs_nil ⟨σ1,H2,I2,q2⟩
structure It where
 go:Nat->Hp->Prop
 yld:Nat->Hp->V->Hp->Prop
 stop:Nat->Hp->Prop
def FpOk(X:Cx)(pins:List (Addr×Obj))(H:Hp)(b:Addr):Prop :=
 H b=none/\b≠X.env.locals/\b∉X.fs/\(b∈X.ex\/X.s₀.heap.objs.size<=b)/\(∀x c,X.env.cells.lookup x=some c->c≠b)/\∀p∈X.pn++pins,p.1≠b
theorem Inv.fpOk(I:Inv X pins σ H s)(hb:s.heap.objs.size<=b)(hn:H' b=none):FpOk X pins H' b:=by
 refine⟨hn,Nat.ne_of_gt (uH I.lt hb),I.nofs hb,.inr (uI I.sz hb),fun x c e z=>?_,fun p hp z=>?_⟩
 ·obtain⟨v,q⟩:=I.cell x c e
  exact absurd (uH q.lt (by rw[z];exact hb)) (Uw _)
 ·exact absurd (uH (uB (I.pin p hp).1) (by rw[z];exact hb)) (Uw _)
structure Turn(P:Program)(w:World)(K:ub)(tg:Expr)(J:It)(fp:List Addr)(it:Addr)(tn:Nat->Heap->Prop):Prop where
 mem:it∈fp
 obj:∀i h,tn i h->∀b∈fp,∃o,h.get? b=some o/\∀v,o.data≠.cell v
 keep:∀i h h',tn i h->(∀b∈fp,∀o,h.get? b=some o->h'.get? b=some o)->tn i h'
 item:∀(X:Cx),X.prog=P->X.w=w->X.K=K->X.calm=true->∀(i:Nat)(pins:List (Addr×Obj))(s:Shared)(σ:St)(H:Hp)(E:VSP),Inv X pins σ H s->(∀b∈fp,FpOk X pins H b)->tn i s.heap->J.go i H ->
  wpAny (model P w) X.A (pyNext (.ref it)) (fun r s1=>∃u,r=some u /\
   wpAny (model P w) X.A (letOwnedTupleGo tg (.ref it) u) (fun _ s2=>∃x H',Inv X pins σ H' s2/\RelV x u/\J.yld i H x H'/\tn (i+1) s2.heap/\∀b∈fp,H' b=none) E s1) E s
 done:∀(X:Cx),X.prog=P->X.w=w->X.K=K->X.calm=true->∀(i:Nat)(pins:List (Addr×Obj))(s:Shared)(σ:St)(H:Hp)(E:VSP),Inv X pins σ H s->(∀b∈fp,FpOk X pins H b)->tn i s.heap->J.stop i H ->
  wpAny (model P w) X.A (pyNext (.ref it)) (fun r s1=>r=none/\Inv X pins σ H s1) E s
 self:∀(A:Around)(i:Nat)(s:Shared)(Q:VSP)(E:VSP),tn i s.heap->Q (.ref it) s->wpAny (model P w) A (pyIter (.ref it)) Q E s
abbrev TI:=St->Hp->(It->Hp->Prop)->Prop
def PIE(X:Cx)(pins:List (Addr×Obj))(σ:St)(tg:Expr)(R:It->Hp->Prop)(itv:Value)(s2:Shared):Prop :=
 ∃(it:Addr)(fp:List Addr)(tn:Nat->Heap->Prop)(J:It)(H':Hp),itv=.ref it/\Inv X pins σ H' s2/\Turn X.prog X.w X.K tg J fp it tn/\tn 0 s2.heap/\(∀b∈fp,FpOk X pins H' b)/\R J H'
def PI(X:Cx)(tg iter:Expr)(wi:TI):Prop :=
 ∀(pins:List (Addr×Obj))(s:Shared)(σ:St)(H:Hp)(R:It->Hp->Prop),Inv X pins σ H s->wi σ H R ->
  wpAny (model X.prog X.w) X.A (eval iter X.env) (fun v s1=>wpAny (model X.prog X.w) X.A (pyIter v) (PIE X pins σ tg R) X.xe s1) X.xe s
theorem Yb{M:Model}{o:Obj}{n:String}{vs:Array Value}(ho:s.heap.get? it=some o)(hc:o.cls=.type n)(hd:o.data=.fields vs)
  (hn:["enumerate","zip","dict_itemiterator","dict_reverseitemiterator","odict_iterator","itertools.zip_longest","itertools.pairwise"].contains n=false) (hQ:Q () s):wpAny M A (letOwnedTupleGo tg (.ref it) u) Q E s:=by
 unfold letOwnedTupleGo;cases tg<;>first
  |exact wpAny_pure hQ
  | (cases u<;>first
    |exact wpAny_pure hQ
    | (refine wpAny_bind (wpAny_load ho ?_)
       rw[hc,hd];show wpAny M A (if(["enumerate","zip","dict_itemiterator","dict_reverseitemiterator","odict_iterator","itertools.zip_longest","itertools.pairwise"].contains n && vs[0]? == some (rawInt _))=true then _ else _) Q E s;rw[if_neg (by intro h;rw[hn,Bool.false_and]at h;cases h)];exact wpAny_pure hQ))
def Itl(K:ub)(a:Addr):It :=
 ⟨fun i H=>∃xs x,SqL K H a xs/\xs[i]?=some x,fun i H x H'=>H'=H/\∀xs,SqL K H a xs->xs[i]?=some x,fun i H=>∃xs,SqL K H a xs/\xs.length<=i⟩
def Itt(K:ub)(a:Addr):It :=
 ⟨fun i H=>∃xs x,SqT K H a xs/\xs[i]?=some x,fun i H x H'=>H'=H/\∀xs,SqT K H a xs->xs[i]?=some x,fun i H=>∃xs,SqT K H a xs/\xs.length<=i⟩
def Itr(lo:Int)(n:Nat):It:=⟨fun i _=>i < n,fun i H x H'=>H'=H/\x=.int (lo+i),fun i _=>n<=i⟩
theorem WG(a it:Addr):Turn P w K tg (Itl K a) [it] it (fun i h=>h.IsListIter it a i) where
 mem:=by simp
 obj:=fun i h st b hb=>by
  have e:b=it:=by simpa using hb
  subst e;obtain⟨o,e,c,d⟩:=st;exact⟨o,e,fun v z=>by rw[d]at z;cases z⟩
 keep:=fun i h h' st k=>st.at fun o e=>k it (by simp) o e
 item:=by
  intro X hP hw hK hc i pins s σ H E I hf st hg;subst hP hw hK;obtain⟨xs,x,hq,hx⟩:=hg;obtain⟨its,rv,p,hz⟩:=I.list hq;obtain⟨u,hu,ru⟩:=rv.get hx;obtain⟨f0,f1,f2,f3,f4,f5⟩:=hf it (by simp);refine wpAny_pyNext_list_item st p.isList (x:=u) (by simpa using hu) fun h' st' sb=>?_;have I1:Inv X pins σ H { s with heap:=h' }:=I.turned (t':=s.toks) (fun b o hb e=>(sb.2 b hb).trans e) f0 f1 f3 f4 f5;obtain⟨o,e,c,d⟩:=id st';exact⟨u,rfl,Yb (s:={ s with heap:=h' }) e c d (by decide) ⟨x,H,I1,ru,⟨rfl,fun ys hy=>by rw[I.list_inj hy hq];exact hx⟩,st',fun b hb=>(hf b hb).1⟩⟩
 done:=by
  intro X hP hw hK hc i pins s σ H E I hf st hg;subst hP hw hK;obtain⟨xs,hq,hx⟩:=hg;obtain⟨its,rv,p,hz⟩:=I.list hq;obtain⟨f0,f1,f2,f3,f4,f5⟩:=hf it (by simp);have hl:=rv.length;exact wpAny_pyNext_list_end (I.ok.hd hc) st p.isList (by simp;lia) fun h' eb=>⟨rfl,I.turned (t':=s.toks) (fun b o hb e=>eb b o hb e) f0 f1 f3 f4 f5⟩
 self:=fun _ _ _ _ _ st h=>wpAny_pyIter_listiter st h
theorem Y6(a it:Addr):Turn P w K tg (Itt K a) [it] it (fun i h=>h.IsTupleIter it a i) where
 mem:=by simp
 obj:=fun i h st b hb=>by
  have e:b=it:=by simpa using hb
  subst e;obtain⟨o,e,c,d⟩:=st;exact⟨o,e,fun v z=>by rw[d]at z;cases z⟩
 keep:=fun i h h' st k=>st.at fun o e=>k it (by simp) o e
 item:=by
  intro X hP hw hK hc i pins s σ H E I hf st hg;subst hP hw hK;obtain⟨xs,x,hq,hx⟩:=hg;obtain⟨its,rv,p,hz⟩:=I.tuple hq;obtain⟨u,hu,ru⟩:=rv.get hx;obtain⟨f0,f1,f2,f3,f4,f5⟩:=hf it (by simp);refine wpAny_pyNext_tuple_item st (show s.heap.IsTuple a its.toArray from p) (x:=u) (by simpa using hu) fun h' st' sb=>?_;have I1:Inv X pins σ H { s with heap:=h' }:=I.turned (t':=s.toks) (fun b o hb e=>(sb.2 b hb).trans e) f0 f1 f3 f4 f5;obtain⟨o,e,c,d⟩:=id st';exact⟨u,rfl,Yb (s:={ s with heap:=h' }) e c d (by decide) ⟨x,H,I1,ru,⟨rfl,fun ys hy=>by rw[I.tuple_inj hy hq];exact hx⟩,st',fun b hb=>(hf b hb).1⟩⟩
 done:=by
  intro X hP hw hK hc i pins s σ H E I hf st hg;subst hP hw hK;obtain⟨xs,hq,hx⟩:=hg;obtain⟨its,rv,p,hz⟩:=I.tuple hq;obtain⟨f0,f1,f2,f3,f4,f5⟩:=hf it (by simp);have hl:=rv.length;exact wpAny_pyNext_tuple_end (I.ok.hd hc) st (show s.heap.IsTuple a its.toArray from p) (by simp;lia) fun h' eb=>⟨rfl,I.turned (t':=s.toks) (fun b o hb e=>eb b o hb e) f0 f1 f3 f4 f5⟩
 self:=fun _ _ _ _ _ st h=>wpAny_pyIter_tupleiter st h
theorem Y7(it:Addr)(lo:Int)(n:Nat):Turn P w K tg (Itr lo n) [it] it (fun i h=>IsRangeIter h it (lo+(i:Nat)*1) ((n:Int)-(i:Nat)) 1) where
 mem:=by simp
 obj:=fun i h st b hb=>by
  have e:b=it:=by simpa using hb
  subst e;exact⟨_,st,fun v z=>by
   have z':Data.fields _=Data.cell v:=z;cases z'⟩
 keep:=fun i h h' st k=>k it (by simp) _ st
 item:=by
  intro X hP hw hK hc i pins s σ H E I hf st hg;subst hP hw hK;obtain⟨f0,f1,f2,f3,f4,f5⟩:=hf it (by simp);have W:=Walks.range (prog:=X.prog) (w:=X.w) (I.ok.hd hc) it lo 1 n;refine W.item i s _ _ hg st fun v h' tk hv st' kk=>?_;obtain⟨t,rfl⟩:=hv;have I1:Inv X pins σ H { s with heap:=h',toks:=tk }:=I.turned (fun b o hb e=>kk b o (by simpa using hb) e) f0 f1 f3 f4 f5;refine⟨_,rfl,Yb (s:={ s with heap:=h',toks:=tk }) (n:="range_iterator") st' rfl rfl (by decide) ⟨.int (lo+i),H,I1,⟨t,?_⟩,⟨rfl,rfl⟩,st',fun b hb=>(hf b hb).1⟩⟩;rw[Int.mul_one]
 done:=by
  intro X hP hw hK hc i pins s σ H E I hf st hg;subst hP hw hK;obtain⟨f0,f1,f2,f3,f4,f5⟩:=hf it (by simp);exact wpAny_pyNext_range_end (I.ok.hd hc) st (by have:n<=i:=hg;lia) fun h' eb=>⟨rfl,I.turned (t':=s.toks) (fun b o hb e=>eb b o hb e) f0 f1 f3 f4 f5⟩
 self:=fun _ _ _ _ _ st h=>wpAny_pyIter_rangeiter st h
def Vv(K:ub)(tl:TE):TI:=fun σ H R=>tl σ H fun x H1=>∃a,x=.ref a/\(∃xs,SqL K H1 a xs)/\R (Itl K a) H1
def iTup(K:ub)(tl:TE):TI:=fun σ H R=>tl σ H fun x H1=>∃a,x=.ref a/\(∃xs,SqT K H1 a xs)/\R (Itt K a) H1
theorem QJ{l:Expr}{tl:TE}(hl:PE X l tl):PI X tg l (Vv X.K tl):=by
 intro pins s σ H R I h;refine thn (hl pins s σ H _ I h) fun v s1 hq_=>?_;obtain⟨x,H1,I1,r1,q1⟩:=hq_;obtain⟨a,e,⟨xs,hq⟩,q⟩:=q1;subst e;cases r1;obtain⟨its,rv,p,hz⟩:=I1.list hq;refine wpAny_pyIter_list p.isList ?_;refine⟨s1.heap.objs.size,[s1.heap.objs.size],_,_,H1,rfl,I1.kept (t':=s1.toks) fun b o e=>uc _ e,WG a _,⟨_,uv _ rfl,rfl,rfl⟩,fun b hb=>?_,q⟩;have e:b=s1.heap.objs.size:=by simpa using hb
 subst e;exact I1.fpOk (uj _) (I1.hok.fresh (uj _))
theorem zce{l:Expr}{tl:TE}(hl:PE X l tl):PI X tg l (iTup X.K tl):=by
 intro pins s σ H R I h;refine thn (hl pins s σ H _ I h) fun v s1 hq_=>?_;obtain⟨x,H1,I1,r1,q1⟩:=hq_;obtain⟨a,e,⟨xs,hq⟩,q⟩:=q1;subst e;cases r1;obtain⟨its,rv,p,hz⟩:=I1.tuple hq;refine wpAny_pyIter_tuple (show s1.heap.IsTuple a its.toArray from p) ?_;refine⟨s1.heap.objs.size,[s1.heap.objs.size],_,_,H1,rfl,I1.kept (t':=s1.toks) fun b o e=>uc _ e,Y6 a _,⟨_,uv _ rfl,rfl,rfl⟩,fun b hb=>?_,q⟩;have e:b=s1.heap.objs.size:=by simpa using hb
 subst e;exact I1.fpOk (uj _) (I1.hok.fresh (uj _))
theorem Vw{R:It->Hp->Prop}{lo hi:Int}{t u v:Tok}{tk:Nat}(I:Inv X pins σ H s)(h1:-(2 ^ 62)<=lo)(h2:lo < 2 ^ 62)(h3:-(2 ^ 62)<=hi)(h4:hi < 2 ^ 62)
  (q:R (Itr lo (hi-lo).toNat) H):wpAny (model X.prog X.w) X.A (pyIter (.ref s.heap.objs.size)) (PIE X pins σ tg R) E { s with heap:=s.heap.push { cls:=.type "range",data:=.fields #[.int lo t,.int hi u,.int 1 v] },toks:=tk }:=by
 refine wpAny_pyIter_range (IsRange.new ..) (small_one h1 h2 h3 h4) ?_;have I1:Inv X pins σ H { s with heap:=s.heap.push { cls:=.type "range",data:=.fields #[.int lo t,.int hi u,.int 1 v] },toks:=tk }:=I.kept fun b o e=>uc _ e;refine⟨(s.heap.push { cls:=.type "range",data:=.fields #[.int lo t,.int hi u,.int 1 v] }).objs.size,[(s.heap.push { cls:=.type "range",data:=.fields #[.int lo t,.int hi u,.int 1 v] }).objs.size],_,_,H,rfl,
  I1.kept (t':=tk) fun b o e=>uc _ e,Y7 _ lo (hi-lo).toNat,?_,fun b hb=>?_,q⟩
 ·have e1:lo+((0:Nat):Int)*1=lo:=by simp
  have e2:(((hi-lo).toNat:Nat):Int)-((0:Nat):Int)=Builtin.Range.rangeSize lo hi 1:=by rw[rangeSize_one];split<;>lia
  show IsRangeIter _ _ (lo+((0:Nat):Int)*1) ((((hi-lo).toNat:Nat):Int)-((0:Nat):Int)) 1;rw[e1,e2];exact uv _ rfl
 ·have e:b=(s.heap.push { cls:=.type "range",data:=.fields #[.int lo t,.int hi u,.int 1 v] }).objs.size:=by simpa using hb
  subst e;exact I1.fpOk (uj _) (I1.hok.fresh (uj _))
def zbj(ta:TA):TI:=fun σ H R=>ta σ H fun vs H1=>∃j:Int,vs=[.int j]/\-(2 ^ 62)<=j/\j < 2 ^ 62/\R (Itr 0 j.toNat) H1
theorem WH{a:Expr}{ta:TA}(hg:Gl X "range")(hm:X.mg "range"=none)(ha:PA X [a] ta)(hs:starEach [a] X.env=[(false,eval a X.env)]:=by rfl):PI X tg (.Call (.Name "range" p) [a] [] pos) (zbj ta):=by
 intro pins s σ H R I h;refine Call_ (xG I hg hm boot_range (Ul (thn (ha pos pins s σ H _ I h) fun us s1 ⟨vs,H1,I1,r1,q1⟩=>?_) hs rfl));obtain⟨j,e,q1,q2,q⟩:=q1;subst e;cases r1 with
 |cons r rr =>
  cases rr;obtain⟨t,rfl⟩:=r;exact call_range_1 (Vw I1 (by lia) (by lia) q1 q2 (by simpa using q))
def tFor(wi:TI)(g:TG)(tb:TS):TS:=fun D σ H=>wi σ H fun J H1=>∃W:Nat->Nat->St->Hp->Prop,(∃m,W 0 m σ H1)/\∀i m σ H,W i m σ H ->
 (J.stop i H/\D.nx σ H)\/(J.go i H/\∃N:St->Hp->Prop,(∀σ' H',N σ' H'->∃m',m' < m/\W (i+1) m' σ' H')/\∀x H',J.yld i H x H'->g x σ H' fun σ2 H2=>tb { D with nx:=N,ct:=N,bk:=D.nx } σ2 H2)
def vC(fp:List Addr)(h:Heap):List (Addr×Obj):=fp.filterMap fun b=>(h.get? b).map fun o=>(b,o)
theorem we{o:Obj}(hb:b∈fp)(e:h.get? b=some o):(b,o)∈vC fp h:=List.mem_filterMap.mpr ⟨b,hb,by rw[e];rfl⟩
theorem WI{p:Addr×Obj}(hp:p∈vC fp h):p.1∈fp/\h.get? p.1=some p.2:=by
 obtain⟨b,hb,e⟩:=List.mem_filterMap.mp hp;cases q:h.get? b with
 |none=>rw[q]at e;cases e
 |some o =>
  rw[q]at e;have e':(b,o)=p:=uZ.inj e;subst e';exact⟨hb,q⟩
theorem Inv.pinned(I:Inv X pins σ H s)(hf:∀b∈fp,FpOk X pins H b)(ho:∀b∈fp,∃o,s.heap.get? b=some o/\∀v,o.data≠.cell v):Inv X (pins++vC fp s.heap) σ H s :=
 I.pins_of fun p hp=>(uy.mp hp).elim (fun z=>I.pin p (uE _ z)) fun z=>by
  obtain⟨hb,e⟩:=WI z;obtain⟨f0,f1,f2,_⟩:=hf p.1 hb;obtain⟨o,e',d⟩:=ho p.1 hb;rw[e]at e';cases e';exact⟨e,f0,f1,f2,d⟩
theorem Inv.unpinned{pl:List (Addr×Obj)}(I:Inv X (pins++pl) σ H s):Inv X pins σ H s:=I.pins_of fun p hp=>I.pin p (uE _ (uU _ hp))
theorem zcf{wi:TI}{g:TG}(hp:PassesOwn (model X.prog X.w) X.A X.env X.xe)(hc:X.calm=true)(hi:PI X tg iter wi)(hg:PG X tg g)(hb:PSs X body tb)
  (hs:∀x,foldedSetIterable iter X.env x=pure x:=by intro _;rfl):PS X (.For tg iter body [] pos) (tFor wi g tb):=by
 intro pins s σ H D I h;refine wpAny_For (thn (hi pins s σ H _ I h) fun v s1 h1=>thn h1 fun itv s2 h2=>?_) hs;obtain⟨it,fp,tn,J,H2,e,I2,T,st2,f2,W,⟨m0,w0⟩,turn⟩:=h2;subst e;have stat:∀{H':Hp},(∀b∈fp,H' b=none)->∀b∈fp,FpOk X pins H' b:=fun hn b hb=>⟨hn b hb,(f2 b hb).2⟩;refine codeAny_forLoop_any (fun n s'=>∃i σ' H',Inv X pins σ' H' s'/\tn i s'.heap/\(∀b∈fp,H' b=none)/\W i n σ' H') ?_ m0 ⟨0,σ,H2,I2,st2,fun b hb=>(f2 b hb).1,w0⟩;rintro n s3 ⟨i,σ3,H3,I3,st3,fr3,w3⟩;rcases turn i n σ3 H3 w3 with⟨stop,qn⟩|⟨go,N,hN,step⟩
 ·refine wpAny_passesOwn hp (thn (T.done X rfl rfl rfl hc i pins s3 σ3 H3 X.xe I3 (stat fr3) st3 stop) fun r s4 hq_=>?_)
  obtain⟨hr,I4⟩:=hq_;subst hr;exact wpAny_execs_nil ⟨σ3,H3,I4,qn⟩
 ·refine wpAny_passesOwn hp (thn (T.item X rfl rfl rfl hc i pins s3 σ3 H3 X.xe I3 (stat fr3) st3 go) fun r s4 hq_=>?_)
  obtain⟨u,hr,h4⟩:=hq_;subst hr;refine wpAny_passesOwn hp (thn h4 fun _ s5 hq_=>?_);obtain⟨x,H5,I5,r5,y5,st5,fr5⟩:=hq_;have I5':=I5.pinned (stat fr5) (T.obj _ _ st5);refine wpAny_passesOwn hp (thn (hg _ s5 σ3 H5 x u _ I5' r5 (step x H5 y5)) fun _ s6 hq_=>?_);obtain⟨σ6,H6,I6,q6⟩:=hq_;refine wpAny_passesOwn hp (thn (hb _ s6 σ6 H6 _ I6 q6) fun f s7 q7=>?_);have again:∀{σ7:St}{H7:Hp},Inv X (pins++vC fp s5.heap) σ7 H7 s7->N σ7 H7->∃m,m < n/\∃i σ' H',Inv X pins σ' H' s7/\tn i s7.heap/\(∀b∈fp,H' b=none)/\W i m σ' H':=fun{σ7 H7} I7 n7=>by
   obtain⟨m',hm,w7⟩:=hN σ7 H7 n7;refine⟨m',hm,i+1,σ7,H7,I7.unpinned,T.keep _ _ _ st5 fun b hb o e=>(I7.pin (b,o) (uE _ (uE _ (we hb e)))).1,fun b hb=>?_,w7⟩;obtain⟨o,e,d⟩:=T.obj _ _ st5 b hb;exact(I7.pin (b,o) (uE _ (uE _ (we hb e)))).2.1
  cases f with
  |next=>obtain⟨σ7,H7,I7,n7⟩:=q7;exact again I7 n7
  |cont=>obtain⟨σ7,H7,I7,n7⟩:=q7;exact again I7 n7
  |brk=>obtain⟨σ7,H7,I7,q7⟩:=q7;exact⟨σ7,H7,I7.unpinned,q7⟩
  |ret v=>obtain⟨x7,σ7,H7,I7,r7,q7⟩:=q7;exact⟨x7,σ7,H7,I7.unpinned,r7,q7⟩
theorem vD{g:TG}(Pv:Nat->St->Hp->Prop)(h0:Pv 0 σ H)(hl:∀i σ H,i<=xs.length->Pv i σ H->SqL K H a xs)
  (hs:∀i x σ H,xs[i]?=some x->Pv i σ H->g x σ H fun σ2 H2=>tb { D with nx:=Pv (i+1),ct:=Pv (i+1),bk:=D.nx } σ2 H2) (hd:∀σ H,Pv xs.length σ H->D.nx σ H) :
  ∃W:Nat->Nat->St->Hp->Prop,(∃m,W 0 m σ H)/\∀i m σ H,W i m σ H ->
   ((Itl K a).stop i H/\D.nx σ H)\/((Itl K a).go i H/\∃N:St->Hp->Prop,(∀σ' H',N σ' H'->∃m',m' < m/\W (i+1) m' σ' H')/\∀x H',(Itl K a).yld i H x H'->g x σ H' fun σ2 H2=>tb { D with nx:=N,ct:=N,bk:=D.nx } σ2 H2):=by
 refine⟨fun i m σ H=>m=xs.length-i/\i<=xs.length/\Pv i σ H,⟨xs.length,by simp,uM _,h0⟩,?_⟩;rintro i m σ H ⟨rfl,hi,p⟩;have q:=hl i σ H hi p;by_cases hlt:i < xs.length
 ·refine .inr ⟨⟨xs,xs[i],q,by simp[hlt]⟩,Pv (i+1),fun σ' H' p'=>⟨xs.length-(i+1),by lia,rfl,hlt,p'⟩,fun x H' y=>?_⟩
  obtain⟨e,y⟩:=y;subst e;exact hs i x σ _ (y xs q) p
 ·have e:i=xs.length:=by lia
  subst e;exact .inl ⟨⟨xs,q,uj _⟩,hd σ H p⟩
theorem xi{g:TG}(Pv:Nat->St->Hp->Prop)(h0:Pv 0 σ H)(hl:∀i σ H,i<=xs.length->Pv i σ H->SqT K H a xs)
  (hs:∀i x σ H,xs[i]?=some x->Pv i σ H->g x σ H fun σ2 H2=>tb { D with nx:=Pv (i+1),ct:=Pv (i+1),bk:=D.nx } σ2 H2) (hd:∀σ H,Pv xs.length σ H->D.nx σ H) :
  ∃W:Nat->Nat->St->Hp->Prop,(∃m,W 0 m σ H)/\∀i m σ H,W i m σ H ->
   ((Itt K a).stop i H/\D.nx σ H)\/((Itt K a).go i H/\∃N:St->Hp->Prop,(∀σ' H',N σ' H'->∃m',m' < m/\W (i+1) m' σ' H')/\∀x H',(Itt K a).yld i H x H'->g x σ H' fun σ2 H2=>tb { D with nx:=N,ct:=N,bk:=D.nx } σ2 H2):=by
 refine⟨fun i m σ H=>m=xs.length-i/\i<=xs.length/\Pv i σ H,⟨xs.length,by simp,uM _,h0⟩,?_⟩;rintro i m σ H ⟨rfl,hi,p⟩;have q:=hl i σ H hi p;by_cases hlt:i < xs.length
 ·refine .inr ⟨⟨xs,xs[i],q,by simp[hlt]⟩,Pv (i+1),fun σ' H' p'=>⟨xs.length-(i+1),by lia,rfl,hlt,p'⟩,fun x H' y=>?_⟩
  obtain⟨e,y⟩:=y;subst e;exact hs i x σ _ (y xs q) p
 ·have e:i=xs.length:=by lia
  subst e;exact .inl ⟨⟨xs,q,uj _⟩,hd σ H p⟩
theorem js{lo:Int}{g:TG}(Pv:Nat->St->Hp->Prop)(h0:Pv 0 σ H)
  (hs:∀i σ H,i < n->Pv i σ H->g (.int (lo+i)) σ H fun σ2 H2=>tb { D with nx:=Pv (i+1),ct:=Pv (i+1),bk:=D.nx } σ2 H2) (hd:∀σ H,Pv n σ H->D.nx σ H) :
  ∃W:Nat->Nat->St->Hp->Prop,(∃m,W 0 m σ H)/\∀i m σ H,W i m σ H ->
   ((Itr lo n).stop i H/\D.nx σ H)\/((Itr lo n).go i H/\∃N:St->Hp->Prop,(∀σ' H',N σ' H'->∃m',m' < m/\W (i+1) m' σ' H')/\∀x H',(Itr lo n).yld i H x H'->g x σ H' fun σ2 H2=>tb { D with nx:=N,ct:=N,bk:=D.nx } σ2 H2):=by
 refine⟨fun i m σ H=>m=n-i/\i<=n/\Pv i σ H,⟨n,by simp,uM _,h0⟩,?_⟩;rintro i m σ H ⟨rfl,hi,p⟩;by_cases hlt:i < n
 ·refine .inr ⟨hlt,Pv (i+1),fun σ' H' p'=>⟨n-(i+1),by lia,rfl,hlt,p'⟩,fun x H' y=>?_⟩
  obtain⟨e,y⟩:=y;subst e y;exact hs i σ _ hlt p
 ·have e:i=n:=by lia
  subst e;exact .inl ⟨uj _,hd σ H p⟩
theorem Vx{c:TT}(Pv:St->Hp->Prop)(μ:St->Hp->Nat)(h0:Pv σ H)
  (hs:∀σ H,Pv σ H->c σ H fun b H1=>if b=true then tb { D with nx:=fun σ' H'=>Pv σ' H'/\μ σ' H' < μ σ H,ct:=fun σ' H'=>Pv σ' H'/\μ σ' H' < μ σ H,bk:=D.nx } σ H1 else D.nx σ H1)
  (mono:∀σ H Q Q',(∀b H1,Q b H1->Q' b H1)->c σ H Q->c σ H Q'):tWhile c tb D σ H:=by
 refine⟨fun m σ H=>m=μ σ H/\Pv σ H,⟨_,rfl,h0⟩,?_⟩;rintro m σ H ⟨rfl,p⟩;refine mono σ H _ _ (fun b H1 q=>?_) (hs σ H p);cases b with
 |true=>exact⟨_,fun σ' H' ⟨p',l⟩=>⟨_,l,rfl,p'⟩,q⟩
 |false=>exact q
abbrev R2:=V->V->Hp->VK->Prop
def OpR(X:Cx)(f:Value->Value->Sem Value)(r:R2):Prop :=
 ∀(pins:List (Addr×Obj))(s:Shared)(σ:St)(H:Hp)(x y:V)(v u:Value)(Q:VK),Inv X pins σ H s->RelV x v->RelV y u->r x y H Q ->
  wpAny (model X.prog X.w) X.A (f v u) (EP X pins σ Q) X.xe s
def UnR(X:Cx)(f:Value->Sem Value)(r:V->Hp->VK->Prop):Prop :=
 ∀(pins:List (Addr×Obj))(s:Shared)(σ:St)(H:Hp)(x:V)(v:Value)(Q:VK),Inv X pins σ H s->RelV x v->r x H Q ->
  wpAny (model X.prog X.w) X.A (f v) (EP X pins σ Q) X.xe s
def xH(X:Cx)(f:Value)(r:List V->Hp->VK->Prop):Prop :=
 ∀(pins:List (Addr×Obj))(s:Shared)(σ:St)(H:Hp)(xs:List V)(us:List Value)(Q:VK),Inv X pins σ H s->Vals xs us->r xs H Q ->
  wpAny (model X.prog X.w) X.A (call f us) (EP X pins σ Q) X.xe s
def tOp(r:R2)(ta tb:TE):TE:=fun σ H Q=>ta σ H fun x H1=>tb σ H1 fun y H2=>r x y H2 Q
def tUn(r:V->Hp->VK->Prop)(ta:TE):TE:=fun σ H Q=>ta σ H fun x H1=>r x H1 Q
def rI(C:Int->Int->Prop)(g:Int->Int->V):R2:=fun x y H Q=>∃i j,x=.int i/\y=.int j/\C i j/\Q (g i j) H
def rI0(g:Int->Int->V):R2:=fun x y H Q=>∃i j,x=.int i/\y=.int j/\Q (g i j) H
def rU(g:Int->V):V->Hp->VK->Prop:=fun x H Q=>∃i,x=.int i/\Q (g i) H
section
variable{a b:Expr}{tb tc:TE}
theorem binT(ha:PE X a ta)(hb:PE X b tb){R:V->V->Hp->Prop}(I:Inv X pins σ H s)
  (h:ta σ H fun x H1=>tb σ H1 fun y H2=>R x y H2) {Q:VSP}
  (hf:∀v u s2 x y H2,Inv X pins σ H2 s2->RelV x v->RelV y u->R x y H2->wpAny (model X.prog X.w) X.A (f v u) Q X.xe s2) :
  wpAny (model X.prog X.w) X.A (eval a X.env) (fun v s₁=>wpAny (model X.prog X.w) X.A (eval b X.env) (fun u s₂=>wpAny (model X.prog X.w) X.A (f v u) Q X.xe s₂) X.xe s₁) X.xe s:=by
 refine thn (ha pins s σ H _ I h) fun v s1 hq_=>?_;obtain⟨x,H1,I1,r1,q1⟩:=hq_;refine thn (hb pins s1 σ H1 _ I1 q1) fun u s2 hq_=>?_;obtain⟨y,H2,I2,r2,q2⟩:=hq_;exact hf v u s2 x y H2 I2 r1 r2 q2
theorem zdH{op:Operator}{r:R2}(ho:OpR X (binaryOp op) r)(ha:PE X a ta)(hb:PE X b tb):PE X (.BinOp a op b pos) (tOp r ta tb):=by
 intro pins s σ H Q I h;exact wpAny_BinOp (binT ha hb I h fun v u s2 x y H2 I2 rx ry q=>ho pins s2 σ H2 x y v u Q I2 rx ry q)
theorem zbk{op:UnaryOp}{r:V->Hp->VK->Prop}(ho:UnR X (unaryOp op) r)(ha:PE X a ta):PE X (.UnaryOp op a pos) (tUn r ta):=by
 intro pins s σ H Q I h;exact UnaryOp_ (thn (ha pins s σ H _ I h) fun v s1 ⟨x,H1,I1,r1,q1⟩=>ho pins s1 σ H1 x v Q I1 r1 q1)
theorem opI{C:Int->Int->Prop}
  (rule:∀(i j:Int)(t u:Tok)(s:Shared)(Q:VSP)(E:VSP),C i j->Q (.int (g i j) s.toks) { s with toks:=s.toks+1 }->wpAny (model X.prog X.w) X.A (f (.int i t) (.int j u)) Q E s) :
  OpR X f (rI C fun i j=>.int (g i j)):=by
 intro pins s σ H x y v u Q I rx ry h;obtain⟨i,j,rfl,rfl,hc,q⟩:=h;obtain⟨t,rfl⟩:=rx;obtain⟨t',rfl⟩:=ry;exact rule i j t t' s _ _ hc ⟨.int (g i j),H,I.tok _,⟨_,rfl⟩,q⟩
theorem opI0
  (rule:∀(i j:Int)(t u:Tok)(s:Shared)(Q:VSP)(E:VSP),Q (.int (g i j) s.toks) { s with toks:=s.toks+1 }->wpAny (model X.prog X.w) X.A (f (.int i t) (.int j u)) Q E s) :
  OpR X f (rI0 fun i j=>.int (g i j)):=by
 intro pins s σ H x y v u Q I rx ry h;obtain⟨i,j,rfl,rfl,q⟩:=h;obtain⟨t,rfl⟩:=rx;obtain⟨t',rfl⟩:=ry;exact rule i j t t' s _ _ ⟨.int (g i j),H,I.tok _,⟨_,rfl⟩,q⟩
theorem opB0{g:Int->Int->Bool}
  (rule:∀(i j:Int)(t u:Tok)(s:Shared)(Q:VSP)(E:VSP),Q (.bool (g i j)) s->wpAny (model X.prog X.w) X.A (f (.int i t) (.int j u)) Q E s) :
  OpR X f (rI0 fun i j=>.bl (g i j)):=by
 intro pins s σ H x y v u Q I rx ry h;obtain⟨i,j,rfl,rfl,q⟩:=h;obtain⟨t,rfl⟩:=rx;obtain⟨t',rfl⟩:=ry;exact rule i j t t' s _ _ ⟨.bl (g i j),H,I,rfl,q⟩
def CDiv(i j:Int):Prop:=0 < j/\j < 1073741824
def CMul(i j:Int):Prop:=(-(2 ^ 64) < i/\i < 2 ^ 64)\/(-(2 ^ 64) < j/\j < 2 ^ 64)
theorem CMul.ok{i j:Int}(h:CMul i j):IntMulOk i j:=by
 rcases h with⟨h1,h2⟩|⟨h1,h2⟩
 ·exact .of_left (intBits_le_64 h1 h2)
 ·exact .of_right (intBits_le_64 h1 h2)
theorem zcg:OpR X (binaryOp .Add) (rI0 fun i j=>.int (i+j)):=opI0 fun _ _ _ _ _ _ _ q=>add_int q
theorem zch:OpR X (binaryOp .Sub) (rI0 fun i j=>.int (i-j)):=opI0 fun _ _ _ _ _ _ _ q=>sub_int q
theorem zci:OpR X (binaryOp .Mult) (rI CMul fun i j=>.int (i*j)):=opI fun _ _ _ _ _ _ _ hc q=>mul_int q hc.ok
theorem QK:OpR X (binaryOp .FloorDiv) (rI CDiv fun i j=>.int (i / j)):=opI fun i j _ _ _ _ _ hc q=>by
 have h1:(0:Int) < j:=hc.1;have h2:j < 1073741824:=hc.2;exact floordiv_int (by lia) (by rw[Int.fdiv_eq_ediv_of_nonneg i (by lia)];exact q) (.inl (PyProof.noPylong_small (by lia)))
theorem zcj:OpR X (binaryOp .Mod) (rI (fun _ j=>0 < j) fun i j=>.int (i % j)):=opI fun i j _ _ _ _ _ hc q=>by
 have h1:(0:Int) < j:=hc;exact mod_int' (by lia) (by rw[Int.fmod_eq_emod_of_nonneg i (by lia)];exact q)
theorem zck:OpR X (binaryOp .BitAnd) (rI0 fun i j=>.int (Builtin.bitAnd i j)):=opI0 fun _ _ _ _ _ _ _ q=>and_int q
theorem zdI:OpR X (binaryOp .BitOr) (rI0 fun i j=>.int (Builtin.bitOr i j)):=opI0 fun _ _ _ _ _ _ _ q=>or_int q
theorem unI{f:Value->Sem Value}{g:Int->Int}
  (rule:∀(i:Int)(t:Tok)(s:Shared)(Q:VSP)(E:VSP),Q (.int (g i) s.toks) { s with toks:=s.toks+1 }->wpAny (model X.prog X.w) X.A (f (.int i t)) Q E s) :
  UnR X f (rU fun i=>.int (g i)):=by
 intro pins s σ H x v Q I rx h;obtain⟨i,rfl,q⟩:=h;obtain⟨t,rfl⟩:=rx;exact rule i t s _ _ ⟨.int (g i),H,I.tok _,⟨_,rfl⟩,q⟩
theorem zcl:UnR X (unaryOp .USub) (rU fun i=>.int (-i)):=unI fun _ _ _ _ _ q=>neg_int q
theorem zcm:UnR X (unaryOp .Invert) (rU fun i=>.int (Builtin.bitNot i)):=unI fun _ _ _ _ _ q=>invert_int q
def scal:V->V->Bool
 |.non,.non=>true|.non,.int _=>true|.int _,.non=>true|.non,.bl _=>true|.bl _,.non=>true|.non,.str _=>true|.str _,.non=>true
 |.int _,.int _=>true|.bl _,.bl _=>true|.str _,.str _=>true|.byt _,.byt _=>true
 |.int _,.str _=>true|.str _,.int _=>true|.bl _,.str _=>true|.str _,.bl _=>true
 |_,_=>false
def rEq:R2:=fun x y H Q=>scal x y=true/\Q (.bl (decide (x=y))) H
def rNe:R2:=fun x y H Q=>scal x y=true/\Q (.bl (!decide (x=y))) H
theorem XV{i j:Int}:decide (V.int i=V.int j)=(i == j):=by
 rw[U5];simp
theorem Vy{i j:Bool}:decide (V.bl i=V.bl j)=(i == j):=by
 rw[U5];simp
theorem XW{i j:Str}:decide (V.str i=V.str j)=(i == j):=by
 rw[U5];simp
theorem XX{i j:Array UInt8}:decide (V.byt i=V.byt j)=(i.toList == j.toList):=by
 rw[U5];cases i;cases j;simp
theorem zT{Q:VK}{k k':Bool}(I:Inv X pins σ H s)(q:Q (.bl k) H)(e:k=k'):EP X pins σ Q (.bool k') s:=by
 subst e;exact⟨.bl k,H,I,rfl,q⟩
theorem zdJ:OpR X (compareOp .Eq) rEq:=by
 intro pins s σ H x y v u Q I rx ry h;obtain⟨hs,q⟩:=h;cases x with
 |non =>
  cases rx;cases y with
  |non=>cases ry;exact PySem.EqNone.eq_none_none (zT I q (by simp))
  |bl j=>cases ry;exact PySem.EqNone.eq_none_bool (zT I q (by simp))
  |int j=>obtain⟨t',rfl⟩:=ry;exact PySem.EqNone.eq_none_int (zT I q (by simp))
  |str j=>obtain⟨t',rfl⟩:=ry;exact PySem.EqNone.eq_none_str (zT I q (by simp))
  |_=>exact absurd (show false=true from hs) uA
 |bl i =>
  cases rx;cases y with
  |non=>cases ry;exact PySem.EqNone.eq_bool_none (zT I q (by simp))
  |bl j=>cases ry;exact eq_bool (zT I q Vy)
  |str j=>obtain⟨t',rfl⟩:=ry;exact PySem.EqMixed.eq_bool_str (zT I q (by simp))
  |_=>exact absurd (show false=true from hs) uA
 |int i =>
  obtain⟨t,rfl⟩:=rx;cases y with
  |non=>cases ry;exact PySem.EqNone.eq_int_none (zT I q (by simp))
  |int j=>obtain⟨t',rfl⟩:=ry;exact eq_int (zT I q XV)
  |str j=>obtain⟨t',rfl⟩:=ry;exact PySem.EqMixed.eq_int_str (zT I q (by simp))
  |_=>exact absurd (show false=true from hs) uA
 |str i =>
  obtain⟨t,rfl⟩:=rx;cases y with
  |non=>cases ry;exact PySem.EqNone.eq_str_none (zT I q (by simp))
  |bl j=>cases ry;exact PySem.EqMixed.eq_str_bool (zT I q (by simp))
  |int j=>obtain⟨t',rfl⟩:=ry;exact PySem.EqMixed.eq_str_int (zT I q (by simp))
  |str j=>obtain⟨t',rfl⟩:=ry;exact eq_str (zT I q XW)
  |_=>exact absurd (show false=true from hs) uA
 |byt i =>
  obtain⟨t,rfl⟩:=rx;cases y with
  |byt j=>obtain⟨t',rfl⟩:=ry;exact PySem.W.eq_bytes (zT I q XX)
  |_=>exact absurd (show false=true from hs) uA
 |_=>cases y<;>exact absurd (show false=true from hs) uA
theorem zdK:OpR X (compareOp .NotEq) rNe:=by
 intro pins s σ H x y v u Q I rx ry h;obtain⟨hs,q⟩:=h;cases x with
 |non =>
  cases rx;cases y with
  |non=>cases ry;exact PySem.EqNone.ne_none_none (zT I q (by simp))
  |bl j=>cases ry;exact PySem.EqNone.ne_none_bool (zT I q (by simp))
  |int j=>obtain⟨t',rfl⟩:=ry;exact PySem.EqNone.ne_none_int (zT I q (by simp))
  |str j=>obtain⟨t',rfl⟩:=ry;exact PySem.EqNone.ne_none_str (zT I q (by simp))
  |_=>exact absurd (show false=true from hs) uA
 |bl i =>
  cases rx;cases y with
  |non=>cases ry;exact PySem.EqNone.ne_bool_none (zT I q (by simp))
  |bl j=>cases ry;exact ne_bool (zT I q (congrArg not Vy))
  |str j=>obtain⟨t',rfl⟩:=ry;exact PySem.EqMixed.ne_bool_str (zT I q (by simp))
  |_=>exact absurd (show false=true from hs) uA
 |int i =>
  obtain⟨t,rfl⟩:=rx;cases y with
  |non=>cases ry;exact PySem.EqNone.ne_int_none (zT I q (by simp))
  |int j=>obtain⟨t',rfl⟩:=ry;exact ne_int (zT I q (congrArg not XV))
  |str j=>obtain⟨t',rfl⟩:=ry;exact PySem.EqMixed.ne_int_str (zT I q (by simp))
  |_=>exact absurd (show false=true from hs) uA
 |str i =>
  obtain⟨t,rfl⟩:=rx;cases y with
  |non=>cases ry;exact PySem.EqNone.ne_str_none (zT I q (by simp))
  |bl j=>cases ry;exact PySem.EqMixed.ne_str_bool (zT I q (by simp))
  |int j=>obtain⟨t',rfl⟩:=ry;exact PySem.EqMixed.ne_str_int (zT I q (by simp))
  |str j=>obtain⟨t',rfl⟩:=ry;exact ne_str (zT I q (congrArg not XW))
  |_=>exact absurd (show false=true from hs) uA
 |byt i =>
  obtain⟨t,rfl⟩:=rx;cases y with
  |byt j=>obtain⟨t',rfl⟩:=ry;exact PySem.W.ne_bytes (zT I q (congrArg not XX))
  |_=>exact absurd (show false=true from hs) uA
 |_=>cases y<;>exact absurd (show false=true from hs) uA
theorem zdL:OpR X (compareOp .Lt) (rI0 fun i j=>.bl (decide (i < j))):=opB0 fun _ _ _ _ _ _ _ q=>lt_int q
theorem zdM:OpR X (compareOp .LtE) (rI0 fun i j=>.bl (decide (i<=j))):=opB0 fun _ _ _ _ _ _ _ q=>le_int q
theorem zdN:OpR X (compareOp .Gt) (rI0 fun i j=>.bl (decide (j < i))):=opB0 fun _ _ _ _ _ _ _ q=>gt_int q
theorem zdO:OpR X (compareOp .GtE) (rI0 fun i j=>.bl (decide (j<=i))):=opB0 fun _ _ _ _ _ _ _ q=>ge_int q
theorem xI(b:Expr)(h:op≠.In:=by decide)(h2:op≠.NotIn:=by decide):behindInMarks op b=false:=by
 have e1:(op == CmpOp.In)=false:=by cases op<;>first|rfl|exact absurd rfl h
 have e2:(op == CmpOp.NotIn)=false:=by cases op<;>first|rfl|exact absurd rfl h2
 cases b<;>simp[behindInMarks,e1,e2]
theorem QL{r:R2}(ho:OpR X (compareOp op) r)(ha:PE X a ta)(hb:PE X b tb)(hm:behindInMarks op b=false):PE X (.Compare a [op] [b] pos) (tOp r ta tb):=by
 intro pins s σ H Q I h;exact wpAny_Compare1 (binT ha hb I h fun v u s2 x y H2 I2 rx ry q=>ho pins s2 σ H2 x y v u Q I2 rx ry q) hm
def vE(t:TE):TT:=fun σ H Q=>t σ H fun x H'=>∃k,x=.bl k/\Q k H'
theorem QM{r:R2}(ho:OpR X (compareOp op) r)(ha:PE X a ta)(hb:PE X b tb)(hm:behindInMarks op b=false):PT X (.Compare a [op] [b] pos) (vE (tOp r ta tb)):=by
 intro pins s σ H Q I h;refine wpAny_isTrue_Compare1 (thn (ha pins s σ H _ I h) fun v s1 ⟨x,H1,I1,r1,q1⟩=>thn (hb pins s1 σ H1 _ I1 q1) fun u s2 ⟨y,H2,I2,r2,q2⟩ =>
  thn (ho pins s2 σ H2 x y v u _ I2 r1 r2 q2) fun c s3 ⟨z,H3,I3,r3,k,e,q3⟩=>?_) hm
 subst e;cases r3;exact wpAny_truthy_bool ⟨H3,I3,q3⟩
theorem vF:(sizeLine:Nat) < 2 ^ 63:=by rw[sizeLine_eq];decide
theorem Y8:OpR X (binaryOp .Add) (fun x y H Q=>∃i j,x=.str i/\y=.str j/\i.length+j.length<=sizeLine/\Q (.str (i++j)) H):=by
 intro pins s σ H x y v u Q I rx ry h;obtain⟨i,j,rfl,rfl,hz,q⟩:=h;obtain⟨t,rfl⟩:=rx;obtain⟨t',rfl⟩:=ry;exact add_str (fun t' tk=>⟨.str (i++j),H,I.tok _,⟨_,rfl⟩,q⟩) hz
theorem jt{x:V}{us:List Value}(r:Vals [x] us):∃u,us=[u]/\RelV x u:=by
 cases r with
 |cons r1 r2=>cases r2;exact⟨_,rfl,r1⟩
theorem Vz{x y:V}{us:List Value}(r:Vals [x,y] us):∃u w',us=[u,w']/\RelV x u/\RelV y w':=by
 cases r with
 |cons r1 r2 =>
  cases r2 with
  |cons r3 r4=>cases r4;exact⟨_,_,rfl,r1,r3⟩
theorem WJ(hc:X.calm=true):xH X (.builtin "max") (fun xs H Q=>∃i j,xs=[.int i,.int j]/\Q (.int (if j > i then j else i)) H):=by
 intro pins s σ H xs us Q I r h;obtain⟨i,j,rfl,q⟩:=h;obtain⟨u,w',rfl,⟨t,rfl⟩,⟨t',rfl⟩⟩:=Vz r;refine max_two_ints (I.ok.hd hc) fun h' tk k=>⟨_,H,I.kept k,?_,q⟩;by_cases hj:j > i
 ·rw[if_pos hj,if_pos hj];exact⟨_,rfl⟩
 ·rw[if_neg hj,if_neg hj];exact⟨_,rfl⟩
end
structure ObjM(h:Heap)(x dx C:Addr)(mA:Str->Option Value):Prop where
 obj:h.get? x=some (UU C dx)
 ns:h.Ns1 dx mA
 ne:dx≠x
theorem WK(n:h.Ns1 dx mA):∃od,h.get? dx=some od/\∀name,PySem.W.lookIn name od=some (mA name):=by
 obtain⟨o,es,ep,ho,hd,hk,_,hm⟩:=n;refine⟨o,ho,fun name=>?_⟩;have e:=hm name;unfold nsFind findBy at e;rw[<- Array.find?_toList]at e;unfold PySem.W.lookIn;rw[hd];dsimp only
 split
 ·rename_i y q
  rw[q]at e;exact congrArg some e
 ·rename_i q
  rw[q]at e;have a:es.toList.any (·.refKey)=false:=by
   rw[List.any_eq_false];intro y hy;obtain⟨z,t,hkey⟩:=hk y (Array.mem_toList_iff.mp hy);simp[DictEntry.refKey,hkey]
  have a':¬ es.toList.any (·.refKey)=true:=by rw[a];exact uA
  rw[if_neg a'];exact congrArg some e
theorem ObjM.look{x:Addr}(I:ObjM h x dx C mA):∃od,PySem.W.InstAt h x (UU C dx) C (some od)/\∀name,PySem.W.lookIn name od=some (mA name) :=
 let ⟨od,ho,hl⟩:=WK I.ns
 ⟨od,⟨I.obj,rfl,rfl,ho⟩,hl⟩
section
variable{x f:Addr}
theorem QN{expr:Bool}{Q:VSP}(X:K.In s.heap)(I:ObjM s.heap x dx C mA)(hg:tE K C name=true)(hh:tV K C=true)
  (ha:uV K (.ref C) name=some none) (hv:mA name=some v) (hv':PySem.W.handedIn v=true) (h:Q v { s with toks:=s.toks+1 }) :
  wpAny (model prog w) A (getAttr (.ref x) name expr) Q E s:=by
 obtain⟨od,J,hl⟩:=I.look;exact PySem.W.get_value X J (PySem.W.plainGet_of hg).1 (PySem.W.findObj_own hh ha rfl (by rw[hl,hv])) hv' h
theorem VA{pl:Sem Bool}{Q:Value×List Value->Shared->Prop}(X:K.In s.heap)(I:ObjM s.heap x dx C mA)(hg:tE K C name=true)
  (hf:uV K (.ref C) name=some (some (.ref f))) (ht:PySem.W.isFn K (.ref f)=true) (hv:mA name=none) (h:Q (.ref f,[.ref x]) s) :
  wpAny (model prog w) A (getMethod (.ref x) name pl) Q E s:=by
 obtain⟨od,J,hl⟩:=I.look;exact PySem.W.method_fn X J (PySem.W.plainGet_of hg).1 (PySem.W.plainGet_of hg).2 hf (beq_iff_eq.mp ht) (by show(PySem.W.lookIn name od).map (·.isSome)=some false;rw[hl,hv];rfl) h
theorem QO(X:K.In s.heap)(I:ObjM s.heap x dx C mA)
  (hs:uV K (.ref C) "__setattr__"=some (some (.builtin "object.__setattr__"))) (hp:PySem.W.plainOver K C=true) (ht:PySem.W.takerIn K C name=some none) (hh:tV K C=true)
  (hw:PySem.Within mA ns) (hsz:ns.length<=sizeLine)
  (h:∀h',ObjM h' x dx C (fun y=>if y=name then some v else mA y)->Heap.SameBut dx s.heap h'->Q () { s with heap:=h',toks:=s.toks+2 }) :
  wpAny (model prog w) A (setAttr (.ref x) name v) Q E s:=by
 obtain⟨od,J,hl⟩:=I.look;refine PySem.W.set_plain X J hs (PySem.W.osa_open (s:={ s with toks:=s.toks+1 }) (r:=none) X J hp ht fun b=>?_);obtain⟨cd,hc,hd'⟩:=PySem.W.any_some hh;have hx:s.heap.get? x=some ⟨.ref C,some dx,.plain,#[]⟩:=I.obj;refine wpAny_bind (wpAny_pure (wpAny_bind (wpAny_bind (wpAny_loadPart hx (wpAny_bind (PySem.W.Looks.here (s:={ s with toks:=s.toks+1 }) (PySem.W.looks_clsIn X hc) ?_))))));rw[hd'];refine wpAny_pure (a:=some dx) (wpAny_bind (wpAny_pure (wpAny_bind ?_)));refine wpAny_nsSet1 (s:={ s with toks:=s.toks+1 }) I.ns fun h' hn2 hs2=>?_;obtain⟨oD,esD,epD,hoD,hdD,hcD⟩:=hn2.count (PySem.Within.cons name v hw);refine wpAny_bind (wpAny_lookBehind hoD (by rw[hdD];exact pastItsLine_dict (uI hcD (by rw[ui];lia))) ?_);exact wpAny_pure (h _ ⟨(hs2.2 _ (Ne.symm I.ne)).trans I.obj,hn2,I.ne⟩ hs2)
theorem VB{R:Result->Shared->Prop}(X:K.In s.heap)(hm:PySem.W.makesIn K C=true)
  (hi:uV K (.ref C) "__init__"=some (some (.ref f))) (hf:PySem.W.typeIn K (.ref f)=some (.type "function"))
  (h:codeAny (model prog w) (A.under (.builtin "type.__call__" ⟨.ref C::vs,kw⟩)) (.call (.ref f) ⟨.ref (s.heap.objs.size+1)::vs,kw⟩) (PySem.W.InitBack (s.heap.objs.size+1) R)
   { s with heap:=(s.heap.push UF).push (UU C s.heap.objs.size) }) :
  codeAny (model prog w) A (.call (.ref C) ⟨vs,kw⟩) R s:=by
 obtain⟨hh,g,d,t,os⟩:=s;exact PySem.W.make_core (PySem.W.makes_of X hm) (PySem.W.looks_findIn X hi) (fun self=>PySem.W.bind_fn X self hf) (.inl rfl) h
end
def putF(f:Str)(v:V):List (Str×V)->List (Str×V)
 |[]=>[(f,v)]
 | (g,x)::r=>if g=f then(g,v)::r else(g,x)::putF f v r
theorem w6(f g:Str)(v:V):∀fs:List (Str×V),(putF f v fs).lookup g=if g=f then some v else fs.lookup g
 |[]=>by
  show UV g [(f,v)]=_;by_cases h:g=f
  ·have hb:(g == f)=true:=beq_iff_eq.mpr h
   simp only[UV,hb,if_pos h]
  ·have hb:(g == f)=false:=beq_eq_false_iff_ne.mpr h
   simp only[UV,hb,if_neg h]
 | (k,x)::r=>by
  have ih:=w6 f g v r;rw[show putF f v ((k,x)::r)=(if k=f then(k,v)::r else(k,x)::putF f v r)from rfl];by_cases hk:k=f
  ·rw[if_pos hk]
   by_cases h:g=k
   ·have hb:(g == k)=true:=beq_iff_eq.mpr h
    simp only[UV,hb,if_pos (h.trans hk)]
   ·have hb:(g == k)=false:=beq_eq_false_iff_ne.mpr h
    simp only[UV,hb,if_neg (fun e:g=f=>h (e.trans hk.symm))]
  ·rw[if_neg hk]
   by_cases h:g=k
   ·have hb:(g == k)=true:=beq_iff_eq.mpr h
    simp only[UV,hb,if_neg (fun e:g=f=>hk (h.symm.trans e))]
   ·have hb:(g == k)=false:=beq_eq_false_iff_ne.mpr h
    simp only[UV,hb]
    exact ih
theorem wU(f:Str)(v:V):∀fs:List (Str×V),f∈(putF f v fs).map (·.1)/\∀g,g∈fs.map (·.1)->g∈(putF f v fs).map (·.1)
 |[]=>⟨by simp[putF],fun g h=>by simp at h⟩
 | (k,x)::r=>by
  obtain⟨i1,i2⟩:=wU f v r;rw[show putF f v ((k,x)::r)=(if k=f then(k,v)::r else(k,x)::putF f v r)from rfl];by_cases hk:k=f
  ·rw[if_pos hk]
   subst hk;exact⟨by simp,fun g h=>by simpa using h⟩
  ·rw[if_neg hk]
   refine⟨?_,fun g h=>?_⟩
   ·rw[uC]
    exact Ur _ i1
   ·rw[uC]at h ⊢
    rcases uk.mp h with e|e
    ·exact uk.mpr (.inl e)
    ·exact Ur _ (i2 g e)
theorem w9(f:Str)(v:V):∀fs:List (Str×V),(putF f v fs).length<=fs.length+1
 |[]=>by simp[putF]
 | (k,x)::r=>by
  have ih:=w9 f v r;rw[show putF f v ((k,x)::r)=(if k=f then(k,v)::r else(k,x)::putF f v r)from rfl];by_cases hk:k=f
  ·rw[if_pos hk,ui,ui];lia
  ·rw[if_neg hk,ui,ui];lia
theorem RelO.some_of{v:V}{o:Option Value}(r:RelO (some v) o):∃u,o=some u/\RelV v u:=by
 cases o with
 |none=>exact(show False from r).elim
 |some u=>exact⟨u,rfl,r⟩
theorem RelO.none_of{o:Option Value}(r:RelO none o):o=none:=by
 cases o with
 |none=>rfl
 |some u=>exact(show False from r).elim
theorem WL{v:V}(r:RelV v u):PySem.W.handedIn u=true:=by
 cases v with
 |non=>cases(show u=Value.none from r);rfl
 |bl b=>cases(show u=Value.bool b from r);rfl
 |int i=>obtain⟨t,e⟩:=(show ∃t,u=Value.int i t from r);cases e;rfl
 |str x=>obtain⟨t,e⟩:=(show ∃t,u=Value.str x t from r);cases e;rfl
 |byt b=>obtain⟨t,e⟩:=(show ∃t,u=Value.bytes b t from r);cases e;rfl
 |flt b=>obtain⟨t,e⟩:=(show ∃t,u=Value.float b t from r);cases e;rfl
 |ref a=>cases(show u=Value.ref a from r);rfl
 |ty n=>cases(show u=Value.type n from r);rfl
section
variable{fs fs':List (Str×V)}
theorem j8(hok:HOk P w H h)(e:H a=some (.ins C dx fs)):∃mA,ObjM h a dx C mA/\(∀f,RelO (fs.lookup f) (mA f))/\PySem.Within mA (fs.map (·.1))/\fs.length<=1000/\H dx=some (.own a):=by
 obtain⟨d,z,ne,ob,mA,n,r,q⟩:=(show ObjOk P w H h a (.ins C dx fs)from hok a _ e);exact⟨mA,⟨ob,n,ne⟩,r,q,z,d⟩
end
structure Cls(K:ub)(C:Addr):Prop where
 pg:tE K C Str.empty=true
 hd:tV K C=true
 po:PySem.W.plainOver K C=true
 sa:uV K (.ref C) "__setattr__"=some (some (.builtin "object.__setattr__"))
theorem Cls.get(c:Cls K C)(f:Str):tE K C f=true:=c.pg
def NoAttr(K:ub)(C:Addr)(f:Str):Prop:=uV K (.ref C) f=some none
theorem NoAttr.taker{f:Str}(n:NoAttr K C f):PySem.W.takerIn K C f=some none:=by
 unfold PySem.W.takerIn;rw[show uV K (.ref C) f=some none from n]
 rfl
structure Meth(K:ub)(C:Addr)(m:Str)(f:Addr):Prop where
 at_:uV K (.ref C) m=some (some (.ref f))
 fn:PySem.W.isFn K (.ref f)=true
 kp:u4 K (.ref f)=true
section
variable{fs:List (Str×V)}{f:Str}{v:V}
theorem Y9{b:Bool}{Q:VSP}(I:Inv X pins σ H s)(e:H a=some (.ins C dx fs))(c:Cls X.K C)(n:NoAttr X.K C f)(l:fs.lookup f=some v)
  (h:∀u s',Inv X pins σ H s'->RelV v u->Q u s'):wpAny (model X.prog X.w) A (getAttr (.ref a) f b) Q E s:=by
 obtain⟨mA,O,r,_,_,_⟩:=j8 I.hok e;obtain⟨u,hu,ru⟩:=RelO.some_of (v:=v) (o:=mA f) (by rw[<- l];exact r f);exact QN I.kIn O (c.get f) c.hd n hu (WL ru) (h u _ (I.tok _) ru)
theorem Xa{m:Str}{g:Addr}{pl:Sem Bool}{Q:Value×List Value->Shared->Prop}(I:Inv X pins σ H s)(e:H a=some (.ins C dx fs))(c:Cls X.K C)(k:Meth X.K C m g)(l:fs.lookup m=none)
  (h:Q (.ref g,[.ref a]) s):wpAny (model X.prog X.w) A (getMethod (.ref a) m pl) Q E s:=by
 obtain⟨mA,O,r,_,_,_⟩:=j8 I.hok e;have hn:mA m=none:=RelO.none_of (by rw[<- l];exact r m);exact VA I.kIn O (c.get m) k.at_ k.fn hn h
theorem Xb{y:V}(I:Inv X pins σ H s)(e:H a=some (.ins C dx fs))(c:Cls X.K C)(n:NoAttr X.K C f)(hl:fs.length < 1000)(ry:RelV y u)
  (h:∀s',Inv X pins σ (upd H a (.ins C dx (putF f y fs))) s'->Q () s'):wpAny (model X.prog X.w) A (setAttr (.ref a) f u) Q E s:=by
 obtain⟨mA,O,r,wi,_,ho⟩:=j8 I.hok e;have hz:(fs.map (·.1)).length<=sizeLine:=by rw[ua,sizeLine_eq];lia
 refine QO I.kIn O c.sa c.po n.taker c.hd wi hz fun h' O' sb=>h _ ?_;have hd:∃o,h'.get? dx=some o:=let ⟨o,_,_,e',_⟩:=O'.ns;⟨o,e'⟩
 refine I.write (x:=a) (e:=dx) (by rw[e];exact True.intro) (.inr ho) (fun b q hb z=>(sb.2 b hb).trans z) hd ?_;refine⟨by rw[zj O.ne];exact ho,?_,O.ne,O'.obj,_,O'.ns,fun g=>?_,fun g hg=>?_⟩
 ·have:=w9 f y fs;lia
 ·show RelO ((putF f y fs).lookup g) (if g=f then some u else mA g)
  rw[w6];by_cases q:g=f
  ·rw[if_pos q,if_pos q];exact ry
  ·rw[if_neg q,if_neg q];exact r g
 ·by_cases q:g=f
  ·rw[q];exact(wU f y fs).1
  ·refine(wU f y fs).2 g (wi g fun z=>hg ?_)
   show(if g=f then some u else mA g)=none;rw[if_neg q];exact z
theorem Inv.made(I:Inv X pins σ H s):Inv X pins σ (upd (upd H s.heap.objs.size (.own (s.heap.objs.size+1))) (s.heap.objs.size+1) (.ins C s.heap.objs.size []))
  { s with heap:=(s.heap.push UF).push (UU C s.heap.objs.size) }:=by
 have e1:(s.heap.push UF).get? s.heap.objs.size=some UF:=uv s.heap rfl;have e2:((s.heap.push UF).push (UU C s.heap.objs.size)).get? (s.heap.objs.size+1)=some (UU C s.heap.objs.size):=by
  have:=uv (s.heap.push UF) (o:=UU C s.heap.objs.size) rfl
  rwa [Ug]at this
 have e3:(s.heap.push UF).Ns s.heap.objs.size (fun _=>none):=⟨UF,#[],_,e1,rfl,(fun e he=>absurd he (by simp)),fun _=>rfl⟩;have I1:=I.laid (a:=s.heap.objs.size) (o:=.own (s.heap.objs.size+1)) (h':=s.heap.push UF) (t':=s.toks) (fun b u q=>uc _ q) (uj _) ⟨_,e1⟩;refine I1.laid (a:=s.heap.objs.size+1) (o:=.ins C s.heap.objs.size []) (t':=s.toks) (fun b u q=>uc _ q) (Nat.le_of_eq (Ug _ _)) ?_;have ne:s.heap.objs.size≠s.heap.objs.size+1:=u7 (UW _);refine⟨by rw[zj ne,uX9],uM _,ne,e2,fun _=>none,(Heap.Ns1.of_empty e3).at fun o q=>uc _ q,fun _=>True.intro,fun y hy=>absurd rfl hy⟩
theorem QP{Q:VSP}(hb:attributeBase e f env (eval e env)=eval e env)
  (h:wpAny (model prog w) A (eval e env) (fun o s₁=>wpAny (model prog w) A (getAttr o f true) Q E s₁) E s):wpAny (model prog w) A (eval (.Attribute e f pos) env) Q E s :=
 Attribute_any_ h (by rw[arm_eval_Attribute,hb])
end
def tFld(K:ub)(ta:TE)(f:Str):TE:=fun σ H Q=>ta σ H fun x H1=>∃a C dx fs v,x=.ref a/\H1 a=some (.ins C dx fs)/\Cls K C/\NoAttr K C f/\fs.lookup f=some v/\Q v H1
def sFld(K:ub)(ta tv:TE)(f:Str):TS:=fun D σ H=>tv σ H fun y H1=>ta σ H1 fun x H2=>∃a C dx fs,x=.ref a/\H2 a=some (.ins C dx fs)/\Cls K C/\NoAttr K C f/\fs.length < 1000 /\
 D.nx σ (upd H2 a (.ins C dx (putF f y fs)))
section
variable{o:Expr}{f:Str}{tv:TE}
theorem zcn(he:PE X e ta)(hb:attributeBase e f X.env (eval e X.env)=eval e X.env):PE X (.Attribute e f pos) (tFld X.K ta f):=by
 intro pins s σ H Q I h;refine QP hb (thn (he pins s σ H _ I h) fun u s1 hq_=>?_);obtain⟨x,H1,I1,rx,a,C,dx,fs,v,ex,ea,c,n,l,q⟩:=hq_;subst ex;obtain rfl:u=Value.ref a:=rx;exact Y9 I1 ea c n l fun u' s2 I2 ru=>⟨v,H1,I2,ru,q⟩
theorem zco(ha:PE X o ta)(hv:PE X value tv)(hs:swapsWith value (some (.Attribute o f pos')) pos.line X.env=pure false):PS X (.Assign [.Attribute o f pos'] value pos) (sFld X.K ta tv f):=by
 intro pins s σ H D I h;refine plainObj_wpAny_Assign_Attribute (thn (hv pins s σ H _ I h) fun u s1 ⟨y,H1,I1,ry,q⟩=>thn (ha pins s1 σ H1 _ I1 q) fun ov s2 ⟨x,H2,I2,rx,a,C,dx,fs,ex,ea,c,n,l,q2⟩=>?_) hs;subst ex;obtain rfl:ov=Value.ref a:=rx;exact Xb I2 ea c n l ry fun s3 I3=>⟨σ,_,I3,q2⟩
end
section
variable{Q:VSP}{c:Value}{b:Bool}
inductive TyOf(K:ub)(H:Hp):V->Value->Prop where
 |non:TyOf K H .non (.type "NoneType")
 |bl (x:Bool):TyOf K H (.bl x) (.type "bool")
 |int (i:Int):TyOf K H (.int i) (.type "int")
 |str (x:Str):TyOf K H (.str x) (.type "str")
 |flt (x:UInt64):TyOf K H (.flt x) (.type "float")
 |lst {a:Addr} {xs:List V} (e:H a=some (.lst xs)):TyOf K H (.ref a) (.type "list")
 |frz {a:Addr} {o:Obj} {xs:List V} (e:H a=some (.frz o (.lst xs))):TyOf K H (.ref a) (.type "list")
 |tup {a:Addr} {xs:List V} (e:H a=some (.tup xs)):TyOf K H (.ref a) (.type "tuple")
 |dK {a:Addr} {kvs:List (Key×V)} (e:H a=some (.dK kvs)):TyOf K H (.ref a) (.type "dict")
 |dT {a:Addr} {kvs:List (List Key×V)} (e:H a=some (.dT kvs)):TyOf K H (.ref a) (.type "dict")
 |ins {a C dx:Addr} {fs:List (Str×V)} (e:H a=some (.ins C dx fs)) (cl:Cls K C) (ha:uV K (.ref C) "__class__"=some (some (.builtin "object.__class__")))
   (hn:PySem.W.specialIn K (.builtin "object.__class__") "__get__"=some (some (.builtin "getset_descriptor.__get__"))) (htk:PySem.W.takesIn K (.builtin "object.__class__")=some true)
   (hm:PySem.W.mroIn K C (.type "object")=some true):TyOf K H (.ref a) (.ref C)
end
structure Room(k:Nat)(A:Around):Prop where
 hd:A.handled=none
 dp:A.depth+3*k+5 < recursionLimit
 un:A.units+16*k+200 < cLine
theorem Room.mono{k:Nat}(r:Room k A)(h:j<=k):Room j A:=⟨r.hd,by have:=r.dp;lia,by have:=r.un;lia⟩
theorem Room.deeper{k:Nat}(r:Room (k+1) A)(env:Env):Room k (A.deeper env) :=
 ⟨r.hd,by have:=r.dp;show A.depth+1+3*k+5 < _;lia,by have:=r.un;show A.units+3+16*k+200 < _;lia⟩
theorem Xc{us:List Value}:(A.under (.builtin "type.__call__" ⟨.ref C::us,kw⟩)).depth=A.depth+1:=by
 first|rfl|simp[Around.under,Code.weight,Code.isCreation,Code.isGuard,Code.isCaller,Code.frames,Code.isFrame,guardIds]
theorem Xd{us:List Value}:(A.under (.builtin "type.__call__" ⟨.ref C::us,kw⟩)).units=A.units+1:=by
 first|rfl|simp[Around.under,Code.cUnits,Code.frames,Code.isFrame]
theorem Room.make{k:Nat}(r:Room (k+1) A)(C:Addr)(us:List Value)(kw:List (Str×Value)):Room k (A.under (.builtin "type.__call__" ⟨.ref C::us,kw⟩)) :=
 ⟨r.hd,by have:=r.dp;rw[Xc];lia,by have:=r.un;rw[Xd];lia⟩
theorem Room.depth{k:Nat}(r:Room k A):A.depth < recursionLimit:=by have:=r.dp;lia
theorem Room.units{k:Nat}(r:Room k A):A.units+64 < cLine:=by have:=r.un;lia
theorem Room.units0{k:Nat}(r:Room k A):A.units < cLine:=by have:=r.un;lia
def tNil:TA:=fun _ H Q=>Q [] H
def yh(ta:TE)(tr:TA):TA:=fun σ H Q=>ta σ H fun x H1=>tr σ H1 fun xs H2=>Q (x::xs) H2
section
variable{t:TA}
theorem zcp:PA X [] tNil:=fun _ _ _ _ H Q I h=>Calls.spliced_nil ⟨[],H,I,.nil,h⟩
theorem QQ(ha:PE X e te)(hr:PA X es t)(hs:starEach (e::es) X.env=(false,eval e X.env)::starEach es X.env:=by rfl):PA X (e::es) (yh te t):=by
 intro pos pins s σ H Q I h;rw[hs];show wpAny _ _ (spliced ((false,eval e X.env)::backTo pos (starEach es X.env))) _ _ s;refine Calls.spliced_cons (thn (ha pins s σ H _ I h) fun u s1 hq_=>?_);obtain⟨x,H1,I1,r1,q1⟩:=hq_;exact thn (hr pos pins s1 σ H1 _ I1 q1) fun us s2 ⟨xs,H2,I2,r2,q2⟩=>⟨x::xs,H2,I2,.cons r1 r2,q2⟩
def tTup(t:TA):TE:=fun σ H Q=>t σ H fun xs H1=>xs.length<=sizeLine/\∀p,H1 p=none->Q (.ref p) (upd H1 p (.tup xs))
def tLst(t:TA):TE:=fun σ H Q=>t σ H fun xs H1=>xs.length<=sizeLine/\∀p,H1 p=none->Q (.ref p) (upd H1 p (.lst xs))
theorem zcq{x1}(h:PA X es t):PE X (.Tuple es x1 pos) (tTup t):=by
 intro pins s σ H Q I hq;refine wpAny_Tuple_spliced (thn (h pos pins s σ H _ I hq) fun us s1 ⟨xs,H1,I1,r,z,q⟩=>⟨by rw[<- r.length];exact z,?_⟩);have hf:H1 s1.heap.objs.size=none:=I1.hok.fresh (uj _);refine⟨.ref s1.heap.objs.size,upd H1 s1.heap.objs.size (.tup xs),I1.laid (t':=s1.toks) (fun b u e=>uc _ e) (uj _) ?_,rfl,q _ hf⟩;exact⟨z,us,r,⟨_,uv _ rfl,rfl,rfl,_,rfl⟩⟩
theorem zcr(h:PA X es t):PE X (.List es pos) (tLst t):=by
 intro pins s σ H Q I hq;refine wpAny_List_spliced (thn (h pos pins s σ H _ I hq) fun us s1 ⟨xs,H1,I1,r,z,q⟩=>⟨by rw[<- r.length];exact z,?_⟩);have hf:H1 s1.heap.objs.size=none:=I1.hok.fresh (uj _);refine⟨.ref s1.heap.objs.size,upd H1 s1.heap.objs.size (.lst xs),I1.laid (t':=s1.toks) (fun b u e=>uc _ e) (uj _) ?_,rfl,q _ hf⟩;exact⟨z,us,0,r,uv _ rfl⟩
end
abbrev Sp:=List V->Hp->VK->XK->Prop
abbrev CXT:=List Env->Hp->Shared->XK->Value->Shared->Prop
variable{CX:CXT}
structure Env0(P:Program)(w:World)(K:ub)(mg:Str->Option Value)(base:Heap)(A:Around)(outer:List Env)(s:Shared)(H:Hp):Prop where
 frames:A.frames=some outer
 mod:Mod K mg base
 bs:∀b o,base.get? b=some o->s.heap.get? b=some o/\H b=none
 bsz:base.objs.size<=s.heap.objs.size
 funs:s.heap.FunFrames base outer
 frf:∀b∈frs outer,H b=none
 hok:HOk P w H s.heap
 bare:AllBare s.gens
def CE(outer:List Env)(P:Program)(w:World)(H:Hp)(s:Shared)(Q:VK)(u:Value)(s':Shared):Prop :=
 ∃v H',s'.os=s.os/\AllBare s'.gens/\Un (frs outer) [] H H' s.heap s'.heap/\HOk P w H' s'.heap/\RelV v u/\Q v H'
def CR(CX:CXT)(outer:List Env)(P:Program)(w:World)(H:Hp)(s:Shared)(Q:VK)(E:XK)(r:Result)(s':Shared):Prop :=
 match r with
 |.ok (.ret u)=>CE outer P w H s Q u s'
 |.ok _=>False
 |.error e=>CX outer H s E e s'
structure FnOk(P:Program)(w:World)(K:ub)(mg:Str->Option Value)(base:Heap)(CX:CXT)(k:Nat)(f:Addr)(fd:FuncData)(ps:lS)(sp:Sp):Prop where
 len:∀vs H Q E,sp vs H Q E->vs.length=ps.length
 run:∀(A:Around)(outer:List Env)(s:Shared)(H:Hp)(args:Args)(us:List Value)(vs:List V)(Q:VK)(E:XK),Room k A->Env0 P w K mg base A outer s H->BindsTo s fd args (ps.zip us)->Vals vs us->sp vs H Q E ->
  codeAny (model P w) A (.call (.ref f) args) (CR CX outer P w H s Q E) s
theorem FnOk.mono{k:Nat}{f:Addr}{sp:Sp}(F:FnOk P w K mg base CX j f fd ps sp)(h:j<=k):
  FnOk P w K mg base CX k f fd ps sp:=⟨F.len,fun A outer s H args us vs Q E hr=>F.run A outer s H args us vs Q E (hr.mono h)⟩
theorem Env0.make{outer:List Env}(e:Env0 P w K mg base A outer s H)(C:Addr)(us:List Value)(kw:List (Str×Value)):
  Env0 P w K mg base (A.under (.builtin "type.__call__" ⟨.ref C::us,kw⟩)) outer s H:=⟨by first|exact e.frames|(simpa[Around.under,Code.envs,Code.isFrame,pushEnvs]using e.frames),e.mod,e.bs,e.bsz,e.funs,e.frf,e.hok,e.bare⟩
theorem Inv.env0(I:Inv X pins σ H s):Env0 X.prog X.w X.K X.mg X.base X.A X.stack s H :=
 ⟨I.ok.frames,I.ok.mod,I.bs,uI I.ok.bsz I.sz,I.stack,I.stkFree,I.hok,I.bare⟩
theorem Inv.after{Q:VK}(I:Inv X pins σ H s)(h:CE X.stack X.prog X.w H s Q u s'):EP X pins σ Q u s':=by
 obtain⟨v,H',os,bare,un,hok,r,q⟩:=h;obtain⟨hh,g,d,t,os'⟩:=s';obtain rfl:os'=s.os:=os;exact⟨v,H',I.call (h':=hh) (g':=g) (d':=d) (t':=t) (ch:=[]) un hok bare (fun b z=>absurd z (by simp)),r,q⟩
def Yc(sp:Sp)(dvs:List V)(E:XK)(t:TA):TE:=fun σ H Q=>t σ H fun vs H1=>sp (vs++dvs) H1 Q E
def zbl(C:Addr)(m:Str)(sp:Sp)(dvs:List V)(E:XK)(ta:TE)(t:TA):TE:=fun σ H Q=>ta σ H fun x H1=>∃a dx fs,x=.ref a/\H1 a=some (.ins C dx fs)/\fs.lookup m=none /\
 t σ H1 fun vs H2=>sp (x::(vs++dvs)) H2 Q E
def zbm(C:Addr)(sp:Sp)(dvs:List V)(E:XK)(t:TA):TE:=fun σ H Q=>t σ H fun vs H1=>∀x dx,H1 x=none->H1 dx=none->dx≠x ->
 sp (.ref x::(vs++dvs)) (upd (upd H1 dx (.own x)) x (.ins C dx [])) (fun v H2=>v=.non/\Q (.ref x) H2) E
def Binds(K:ub)(fd:FuncData)(ps:lS)(ds:List Value):Prop :=
 ∀(s:Shared)(us:List Value),K.In s.heap->(us++ds).length=ps.length->BindsTo s fd ⟨us,[]⟩ (ps.zip (us++ds))
theorem Binds.all(h:∀us:List Value,us.length=ps.length->bindArgs fd ⟨us,[]⟩=pure (ps.zip us)):Binds K fd ps []:=fun s us _ hl=>by
 rw[u6]at hl ⊢;exact .of_eq (h us hl)
def yU(CX:CXT)(X:Cx)(E:XK):Prop:=∀(pins:List (Addr×Obj))(σ:St)(H:Hp)(s:Shared)(e:Value)(s':Shared),Inv X pins σ H s->CX X.stack H s E e s'->X.xe e s'
section
variable{k:Nat}{f:Addr}{sp:Sp}{dvs:List V}{E:XK}{m:Str}{o:Expr}{t:TA}
theorem j9{Q:VK}{us:List Value}{vs:List V}(F:FnOk X.prog X.w X.K X.mg X.base CX k f fd ps sp)(hr:Room k X.A)(hb:Binds X.K fd ps ds)(hd:Vals dvs ds)(hx:yU CX X E)
  (I:Inv X pins σ H s) (r:Vals vs us) (h:sp (vs++dvs) H Q E):wpAny (model X.prog X.w) X.A (call (.ref f) us) (EP X pins σ Q) X.xe s:=by
 have r2:Vals (vs++dvs) (us++ds):=r.append hd;have hl:(us++ds).length=ps.length:=by rw[<- r2.length];exact F.len _ _ _ _ h
 refine wpAny_call (codeAny_mono (F.run X.A X.stack s H ⟨us,[]⟩ (us++ds) (vs++dvs) Q E hr I.env0 (hb s us I.kIn hl) r2 h) fun r s' hq=>?_);cases r with
 |error e=>exact hx pins σ H s e s' I hq
 |ok fl =>
  cases fl with
  |ret u=>exact I.after hq
  |next=>exact False.elim hq
  |brk=>exact False.elim hq
  |cont=>exact False.elim hq
theorem QR(F:FnOk X.prog X.w X.K X.mg X.base CX k f fd ps sp)(hr:Room k X.A)(hg:Gl X x)(hm:X.mg x=some (.ref f))(hk:u4 X.K (.ref f)=true)(hb:Binds X.K fd ps ds)(hd:Vals dvs ds)(hx:yU CX X E)
  (ha:PA X (e::es) t) (hdb:(x == ("__debug__":Str))=false:=by decide) (he:starEach (e::es) X.env=(false,eval e X.env)::starEach es X.env:=by rfl) (hpl:(backTo pos (starEach es X.env)).any (·.1)=false:=by rfl) :
  PE X (.Call (.Name x p) (e::es) [] pos) (Yc sp dvs E t):=by
 intro pins s σ H Q I h;refine wpAny_Call_Name_kw (vh I hg hm ?_ hdb);refine U4 (h₀:=X.base) I.ok.mod.kin hk (thn (ha pos pins s σ H _ I h) fun us s1 ⟨vs,H1,I1,r,q⟩=>⟨I1.kIn,?_⟩) he hpl;exact j9 F hr hb hd hx I1 r q
theorem QS{pl:Sem Bool}(he:PE X o ta)(c:Cls X.K C)(hm:Meth X.K C m f)(F:FnOk X.prog X.w X.K X.mg X.base CX k f fd ps sp)(hr:Room k X.A)(hb:Binds X.K fd ps ds)(hd:Vals dvs ds)(hx:yU CX X E)(ha:PA X (e::es) t)
  (hst:starEach (e::es) X.env=(false,eval e X.env)::starEach es X.env:=by rfl) (hpl:(backTo pos (starEach es X.env)).any (·.1)=false:=by rfl)
  (ht:eval (.Call (.Attribute o m apos) (e::es) [] pos) X.env=(do
   let ov <- eval o X.env
   standAt apos.atName
   let (f,first) <- holding [ov] (getMethod ov m pl)
   callWith pos f first (backTo pos (starEach (e::es) X.env)) (backToKw pos (keywordEach [] X.env))):=by rfl) :
  PE X (.Call (.Attribute o m apos) (e::es) [] pos) (zbl C m sp dvs E ta t):=by
 intro pins s σ H Q I h;refine PySem.W.methodCall_KW (pl:=pl) (thn (he pins s σ H _ I h) fun u s1 ⟨x,H1,I1,rx,a,dx,fs,ex,ea,l,q⟩=>?_) ht;subst ex;obtain rfl:u=Value.ref a:=rx;refine Xa I1 ea c hm l ?_;refine U4 (first:=[.ref a]) (h₀:=X.base) I.ok.mod.kin hm.kp (thn (ha pos pins s1 σ H1 _ I1 q) fun us s2 ⟨vs,H2,I2,r,q2⟩=>⟨I2.kIn,?_⟩) hst hpl;exact j9 (us:=.ref a::us) (vs:=.ref a::vs) F hr hb hd hx I2 (.cons rfl r) q2
structure Mk(K:ub)(C f:Addr):Prop where
 makes:PySem.W.makesIn K C=true
 init:uV K (.ref C) "__init__"=some (some (.ref f))
 fn:PySem.W.isFn K (.ref f)=true
 kp:u4 K (.ref C)=true
theorem VC{Q:VK}{us:List Value}{vs:List V}(M:Mk X.K C f)(F:FnOk X.prog X.w X.K X.mg X.base CX k f fd ps sp)(hr:Room (k+1) X.A)(hb:Binds X.K fd ps ds)(hd:Vals dvs ds)
  (hx:yU CX X E) (I:Inv X pins σ H s) (r:Vals vs us)
  (h:∀x dx,H x=none->H dx=none->dx≠x->sp (.ref x::(vs++dvs)) (upd (upd H dx (.own x)) x (.ins C dx [])) (fun v H2=>v=.non/\Q (.ref x) H2) E) :
  wpAny (model X.prog X.w) X.A (call (.ref C) us) (EP X pins σ Q) X.xe s:=by
 have hq:=h (s.heap.objs.size+1) s.heap.objs.size (I.hok.fresh (Nat.le_succ _)) (I.hok.fresh (uj _)) (u7 (UW _));have I2:=Inv.made (C:=C) I;have r2:Vals (V.ref (s.heap.objs.size+1)::(vs++dvs)) (Value.ref (s.heap.objs.size+1)::(us++ds)):=.cons rfl (r.append hd);have hl:(Value.ref (s.heap.objs.size+1)::us++ds).length=ps.length:=by
  have e:=r2.length;rw[F.len _ _ _ _ hq]at e;exact e.symm
 refine wpAny_call (VB (f:=f) I.kIn M.makes M.init (beq_iff_eq.mp M.fn) (codeAny_mono (F.run _ X.stack _ _ ⟨Value.ref (s.heap.objs.size+1)::us,[]⟩ (Value.ref (s.heap.objs.size+1)::(us++ds)) _ _ E (hr.make C us [])
  (I2.env0.make C us []) (hb _ (Value.ref (s.heap.objs.size+1)::us) I2.kIn hl) r2 hq) fun r s' hq'=>?_))
 cases r with
 |error e=>exact hx pins σ _ _ e s' I2 hq'
 |ok fl =>
  cases fl with
  |ret u =>
   obtain⟨v,H',I3,rv,ev,q3⟩:=I2.after hq';subst ev;exact⟨rv,⟨V.ref (s.heap.objs.size+1),H',I3,rfl,q3⟩⟩
  |next=>exact False.elim hq'
  |brk=>exact False.elim hq'
  |cont=>exact False.elim hq'
theorem QT(M:Mk X.K C f)(F:FnOk X.prog X.w X.K X.mg X.base CX k f fd ps sp)(hr:Room (k+1) X.A)(hg:Gl X x)(hm:X.mg x=some (.ref C))(hb:Binds X.K fd ps ds)(hd:Vals dvs ds)(hx:yU CX X E)
  (ha:PA X (e::es) t) (hdb:(x == ("__debug__":Str))=false:=by decide) (he:starEach (e::es) X.env=(false,eval e X.env)::starEach es X.env:=by rfl) (hpl:(backTo pos (starEach es X.env)).any (·.1)=false:=by rfl) :
  PE X (.Call (.Name x p) (e::es) [] pos) (zbm C sp dvs E t):=by
 intro pins s σ H Q I h;refine wpAny_Call_Name_kw (vh I hg hm ?_ hdb);refine U4 (h₀:=X.base) I.ok.mod.kin M.kp (thn (ha pos pins s σ H _ I h) fun us s1 ⟨vs,H1,I1,r,q⟩=>⟨I1.kIn,?_⟩) he hpl;exact VC M F hr hb hd hx I1 r q
end
structure FnScope(N P:lS)(sc:Scope):Prop where
 kind:sc.kind=.function
 co:sc.isCoroutine=false
 gen:sc.isGenerator=false
 nd:N.Nodup
 pre:N.take P.length=P
 par:∀x∈P,sc.names.lookup x=some .local\/sc.names.lookup x=some .cell
 nofree:∀y∈sc.names,y.2≠.free
theorem FnScope.ok{P:lS}{sc:Scope}(a:N.Nodup:=by decide +kernel)(b:∀x∈P,sc.names.lookup x=some .local\/sc.names.lookup x=some .cell:=by decide +kernel)(c:∀y∈sc.names,y.2≠.free:=by decide +kernel)(d:sc.kind=.function:=by rfl)(e:sc.isCoroutine=false:=by rfl)(f:sc.isGenerator=false:=by rfl)(g:N.take P.length=P:=by rfl):FnScope N P sc:=⟨d,e,f,a,g,b,c⟩
theorem ju{kindOf:Str->Option NameKind}{x:Str}:∀{binds:List (Str×Value)}{m:Str->Option Value},(∀v,(x,v)∉binds)->bindL kindOf binds m x=m x
 |[],_,_=>rfl
 | (n,v)::r,m,h=>by
  unfold bindL;rw[ju fun w hw=>h w (Ur _ hw)];split
  ·have:x≠n:=by rintro rfl;exact h v Uk
   simp[this]
  ·rfl
theorem jw{kindOf:Str->Option NameKind}{x:Str}:∀{binds:List (Str×Value)}{m:Str->Option Value},(∀v,(x,v)∉binds)->bindC kindOf binds m x=m x
 |[],_,_=>rfl
 | (n,v)::r,m,h=>by
  unfold bindC;rw[jw fun w hw=>h w (Ur _ hw)];split
  ·rfl
  ·have:x≠n:=by rintro rfl;exact h v Uk
   simp[this]
theorem jx{kindOf:Str->Option NameKind}{x:Str}{v:Value}:∀{P:lS}{vs:List Value}{i:Nat}{m:Str->Option Value},P.Nodup->P[i]?=some x->vs[i]?=some v->kindOf x=some .local ->
  bindL kindOf (P.zip vs) m x=some v
 |[],_,_,_,_,h,_,_=>by simp at h
 |_::_,[],_,_,_,_,h,_=>by simp at h
 |p::P,w::vs,0,m,nd,h1,h2,hk=>by
  simp at h1 h2;subst h1;subst h2
  show bindL kindOf ((p,w)::P.zip vs) m p=_;unfold bindL;rw[ju fun v hv=>(uX.mp nd).1 (Uv hv).1,if_pos hk];simp
 |p::P,w::vs,i+1,m,nd,h1,h2,hk=>by
  show bindL kindOf ((p,w)::P.zip vs) m x=_;unfold bindL;exact jx (i:=i) (uX.mp nd).2 (by simpa using h1) (by simpa using h2) hk
theorem jy{kindOf:Str->Option NameKind}{x:Str}{v:Value}:∀{P:lS}{vs:List Value}{i:Nat}{m:Str->Option Value},P.Nodup->P[i]?=some x->vs[i]?=some v->kindOf x≠some .local ->
  bindC kindOf (P.zip vs) m x=some v
 |[],_,_,_,_,h,_,_=>by simp at h
 |_::_,[],_,_,_,_,h,_=>by simp at h
 |p::P,w::vs,0,m,nd,h1,h2,hk=>by
  simp at h1 h2;subst h1;subst h2
  show bindC kindOf ((p,w)::P.zip vs) m p=_;unfold bindC;rw[jw fun v hv=>(uX.mp nd).1 (Uv hv).1,if_neg hk];simp
 |p::P,w::vs,i+1,m,nd,h1,h2,hk=>by
  show bindC kindOf ((p,w)::P.zip vs) m x=_;unfold bindC;exact jy (i:=i) (uX.mp nd).2 (by simpa using h1) (by simpa using h2) hk
def xj(N:lS)(vs:List V):St:=vs.map some++uP (N.length-vs.length) none
def cxOf(CX:CXT)(P:Program)(w:World)(K:ub)(mg:Str->Option Value)(base:Heap)(N:lS)(qual:Str)(scope:Scope)(f:Addr)(cd:Value)(A:Around)(outer:List Env)(s:Shared)(H:Hp)(E:XK):Cx where
 prog:=P
 w:=w
 K:=K
 mg:=mg
 base:=base
 A:=A.deeper (envOfC qual scope s.heap.objs.size f cd)
 N:=N
 s₀:=s
 H₀:=H
 env:=envOfC qual scope s.heap.objs.size f cd
 outer:=outer
 stack:=envOfC qual scope s.heap.objs.size f cd::outer
 ex:=[]
 calm:=true
 fn:=fun _=>true
 pn:=[]
 xe:=fun e s'=>wpAny (model P w) (A.deeper (envOfC qual scope s.heap.objs.size f cd)) (leaving (envOfC qual scope s.heap.objs.size f cd) e) (fun _ s''=>CX outer H s E e s'') (fun e' s''=>CX outer H s E e' s'') s'
theorem Yd{sc:Scope}(h:sc.names.lookup x=some .cell):∃c,(cellsFrom n sc.names []).lookup x=some c:=by
 have q:=tW sc.names n [] (.inl h);exact tP.mp q
theorem jz{f:Addr}{cd:Value}{outer:List Env}{s1:Shared}{E:XK}{us:List Value}{vs:List V}
  (S:FnScope N ps scope) (hd:A.handled=none) (e0:Env0 P w K mg base A outer s H) (hl:vs.length=ps.length) (r:Vals vs us)
  (x:InCallC s s.heap.objs.size (bindL (envOfC qual scope s.heap.objs.size f cd).kindOf (ps.zip us) fun _=>none) (cellsFrom (s.heap.objs.size+1) scope.names []) (bindC (envOfC qual scope s.heap.objs.size f cd).kindOf (ps.zip us) fun _=>none) s1) :
  Inv (cxOf CX P w K mg base N qual scope f cd A outer s H E) [] (xj N vs) H s1:=by
 have hpl:ps.length<=N.length:=by have:=congrArg tT S.pre;rw[uq]at this;lia
 obtain⟨h1,tk,rfl,hk⟩:=x.done;have noA:∀b:Addr,b∉(cxOf CX P w K mg base N qual scope f cd A outer s H E).ex:=fun b z=>absurd (show b∈([]:List Addr)from z) (by simp);refine⟨⟨e0.mod,S.kind,rfl,rfl,uj _,fun y z c h1 h2=>?_,fun y hy=>?_,fun y c _ h=>?_,fun _=>hd,Around.frames_deeper e0.frames,.inr ⟨rfl,rfl⟩,fun b z=>absurd z (noA b),e0.bs,e0.bsz,fun b _ _=>noA b,fun b z=>absurd z (noA b),e0.funs,e0.frf⟩,
  rfl,e0.bare,Un.kept hk,⟨_,x.toInCall.ns,fun i y v h1 h2 h3=>?_⟩,fun y c h=>⟨_,x.cell y c h⟩,e0.hok.fresh (uj _),fun y c h=>?_,fun p hp=>absurd (show p∈([]:List (Addr×Obj))from hp) (by simp),e0.hok.kept hk,?_⟩
 ·exact name_of_addr x.apart (uY h1) (uY h2)
 ·have hy:scope.names.lookup y=some .cell\/scope.names.lookup y=some .free:=hy
  rcases hy with hy|hy
  ·exact Yd hy
  ·exact absurd rfl (S.nofree _ (uY hy))
 ·exact Nat.le_of_lt (x.above y c (uY h))
 ·have hi:i < vs.length:=by
   unfold xj at h2;by_cases hi:i < vs.length
   ·exact hi
   ·rw[UC (by simpa using hi)]at h2
    rw[List.getElem?_replicate]at h2;split at h2<;>cases h2
  have ha:vs[i]?=some v:=by
   unfold xj at h2;rw[Us (by simpa using hi),ug]at h2;cases e:vs[i]? with
   |none=>rw[e]at h2;cases h2
   |some a=>rw[e]at h2;cases h2;rfl
  obtain⟨u,hu,rv⟩:=r.get ha;have hp:ps[i]?=some y:=by
   rw[<- S.pre,List.getElem?_take_of_lt (by lia)];exact h1
  have ndP:ps.Nodup:=by rw[<- S.pre];exact S.nd.sublist (List.take_sublist _ _)
  refine⟨u,rv,?_⟩;rcases S.par y (uw hp)with k|k
  ·exact .inl ⟨k,jx ndP hp hu k⟩
  ·obtain⟨c,e⟩:=Yd (n:=s.heap.objs.size+1) k
   refine .inr ⟨.inl k,c,e,?_⟩;have q:=x.cell y c e;rw[jy ndP hp hu (by show scope.names.lookup y≠_;rw[k];decide)]at q;exact q
 ·exact e0.hok.fresh (Nat.le_of_lt (x.above y c (uY h)))
 ·unfold xj
  show _=N.length;rw[uf,ua,UG];lia
theorem zbn{k:Nat}{f:Addr}{dV kV:Value} {sp:Sp} (lk:K.lookup f=some ⟨oc,od,.func (Uh name qual params body scope dV kV doc pm an cdv ct),osl⟩) (hcd:UL K cdv qual=true) (S:FnScope N ps scope)
  (len:∀vs H Q E,sp vs H Q E->vs.length=ps.length)
  (hbody:∀(A:Around)(outer:List Env)(s:Shared)(H:Hp)(vs:List V)(Q:VK)(E:XK),Room k (A.deeper (envOfC qual scope s.heap.objs.size f cdv))->sp vs H Q E ->
   ∃t,PSs (cxOf CX P w K mg base N qual scope f cdv A outer s H E) body t/\t { nx:=fun _ H'=>Q .non H',rt:=Q } (xj N vs) H) :
  FnOk P w K mg base CX (k+1) f (Uh name qual params body scope dV kV doc pm an cdv ct) ps sp:=by
 refine⟨len,fun A outer s H args us vs Q E hr e0 hb r hsp=>?_⟩;have hl:=len _ _ _ _ hsp;have KX:K.In s.heap:=e0.mod.kin.keeps fun b o e=>(e0.bs b o e).1;have lim:s.heap.NoLimit:=e0.mod.nolimit.keeps fun b o e=>(e0.bs b o e).1;have hkind:∀y∈ps.zip us,scope.names.lookup y.1=some .local\/(scope.names.lookup y.1=some .cell/\((cellsFrom (s.heap.objs.size+1) scope.names []).lookup y.1).isSome=true):=fun⟨n,v⟩ hy=>by
  rcases S.par n (Uv hy).1 with q|q
  ·exact .inl q
  ·exact .inr ⟨q,tW _ _ _ (.inl q)⟩
 refine codeAny_call_function hr.depth (KX _ _ lk) rfl S.co S.gen rfl (PySem.W.codeRec_of KX hcd) (hb _ _ _ _ ?_);refine wpAny_newFunctionEnv_cells S.kind hkind fun env he s1 x=>?_;subst he;refine⟨lim.keeps x.toInCall.keep,codeAny_func ?_⟩;obtain⟨t,ht,hq⟩:=hbody A outer s H vs Q E (hr.deeper _) hsp;have I:Inv (cxOf CX P w K mg base N qual scope f cdv A outer s H E) [] (xj N vs) H s1:=jz S hr.hd e0 hl r x;refine wpAny_mono (ht [] s1 (xj N vs) H _ I hq) (fun fl s' hs=>?_) fun e s' hs=>hs;have fin:∀{σ':St}{H':Hp}{v:V}{u:Value},Inv (cxOf CX P w K mg base N qual scope f cdv A outer s H E) [] σ' H' s'->RelV v u->Q v H'->CE outer P w H s Q u s' :=
  fun{σ' H' v u} J rv q=>⟨v,H',J.os,J.bare,J.base,J.hok,rv,q⟩
 cases fl with
 |ret u =>
  obtain⟨v,σ',H',J,rv,q⟩:=hs;exact fin J rv q
 |next =>
  obtain⟨σ',H',J,q⟩:=hs;exact fin (v:=V.non) (u:=Value.none) J rfl q
 |brk =>
  obtain⟨_,_,_,q⟩:=hs;exact False.elim q
 |cont =>
  obtain⟨_,_,_,q⟩:=hs;exact False.elim q
section
variable{t:TA}{T:String}{r:List V->Hp->VK->Prop}
def tCB(r:List V->Hp->VK->Prop)(t:TA):TE:=fun σ H Q=>t σ H fun vs H1=>r vs H1 Q
theorem VD(hc:xH X (.builtin id) r)(hg:Gl X x)(hm:X.mg x=none)(hv:bootBuiltins x=some (.builtin id))(ha:PA X (e::es) t)(hn:x≠"__name__":=by decide)(hdb:(x == ("__debug__":Str))=false:=by decide)
  (he:starEach (e::es) X.env=(false,eval e X.env)::starEach es X.env:=by rfl) (hpl:(backTo pos (starEach es X.env)).any (·.1)=false:=by rfl):PE X (.Call (.Name x p) (e::es) [] pos) (tCB r t):=by
 intro pins s σ H Q I h;refine wpAny_Call_Name_kw (xG I hg hm hv ?_ hn hdb);exact PyProof.Rows.callWith_builtin1 (thn (ha pos pins s σ H _ I h) fun us s1 ⟨vs,H1,I1,r1,q1⟩=>hc pins s1 σ H1 vs us Q I1 r1 q1) he hpl
theorem WM(hc:xH X (.type T) r)(hg:Gl X x)(hm:X.mg x=none)(hv:bootBuiltins x=some (.type T))(ha:PA X (e::es) t)(hn:x≠"__name__":=by decide)(hdb:(x == ("__debug__":Str))=false:=by decide)
  (he:starEach (e::es) X.env=(false,eval e X.env)::starEach es X.env:=by rfl) (hpl:(backTo pos (starEach es X.env)).any (·.1)=false:=by rfl):PE X (.Call (.Name x p) (e::es) [] pos) (tCB r t):=by
 intro pins s σ H Q I h;refine wpAny_Call_Name_kw (xG I hg hm hv ?_ hn hdb);exact Ul (thn (ha pos pins s σ H _ I h) fun us s1 ⟨vs,H1,I1,r1,q1⟩=>hc pins s1 σ H1 vs us Q I1 r1 q1) he hpl
end
end L2
variable{g:L2.TG}{X:L2.Cx}{te ta tb to tl t1 t2 t3 t4 td ty:L2.TE}{r:L2.V->Option Int->Option Int->L2.Hp->L2.VK->Prop}{xs:List L2.V}{σ:L2.St}{H H1 H2 H':L2.Hp}{sp:L2.Sp}{tt:L2.TT}{CX:L2.CXT}{gs:L2.TGs}{D:L2.Ends}{cvs:List (Addr×L2.V)}{kvs:List (L2.Key×L2.V)}
namespace HT
open PySem PyProof.Rows
theorem cat_tup{t:Addr}{ws:List Value}{Q:VSP}(ht:IsTup s.heap t vs.toArray)(hb:IsTup s.heap b ws.toArray)(hv:vs≠[])
  (h1:ws=[]->Q (.ref t) s) (h2:ws≠[]->Q (.ref s.heap.objs.size) { s with heap:=s.heap.push { cls:=.type "tuple",data:=.seq (vs++ws).toArray } })
  (hsz:vs.length+ws.length<=sizeLine):wpAny (model prog w) A (binaryOp .Add (.ref t) (.ref b)) Q E s:=by
 obtain⟨⟨cls,dd,data,sl⟩,ho,hc,n,hd⟩:=id ht;obtain⟨⟨cls2,dd2,data2,sl2⟩,ho2,hc2,n2,hd2⟩:=id hb;simp only at hc hd hc2 hd2
 subst hc hd hc2 hd2;have e:vs.toArray++ws.toArray=(vs++ws).toArray:=by simp
 by_cases hw:ws=[]
 ·exact concat_meets ⟨_,ho,rfl⟩ ⟨_,ho2,rfl⟩ noFill_tuple_add seq_tuple_add PySem.F.slot_tuple_add PySem.F.entry_tuple_add (PySem.F.args_tuple_add_2 _ _)
   (tuple_addW1 t b vs.toArray ws.toArray n n2 dd dd2 sl sl2 (by simpa using hv) (by simp[hw])) ⟨ho,ho2,h1 hw⟩
 ·refine concat_meets ⟨_,ho,rfl⟩ ⟨_,ho2,rfl⟩ noFill_tuple_add seq_tuple_add PySem.F.slot_tuple_add PySem.F.entry_tuple_add (PySem.F.args_tuple_add_2 _ _)
   (tuple_addW2 t b vs.toArray ws.toArray n n2 dd dd2 sl sl2 (by simpa using hv) (by simpa using hw) (by rw[ux,ux];exact hsz)) ⟨ho,ho2,?_⟩
  rw[e];exact h2 hw
def sIx(n d:Nat):Option Int->Nat
 |none=>d
 |some v=>if v < 0 then(v+(n:Int)).toNat else min v.toNat n
theorem zcs(n d:Nat)(hd:d<=n)(o:Option Int):sIx n d o<=n:=by
 cases o with
 |none=>exact hd
 |some v =>
  show(if v < 0 then(v+(n:Int)).toNat else min v.toNat n)<=n;by_cases hv:v < 0
  ·rw[if_pos hv];lia
  ·rw[if_neg hv];exact Nat.min_le_right _ _
theorem XY(v:Int)(n d:Nat):(if v < 0 then max (v+(n:Int)) 0 else min v (n:Int))=((sIx n d (some v):Nat):Int):=by
 show(if v < 0 then max (v+(n:Int)) 0 else min v (n:Int))=(((if v < 0 then(v+(n:Int)).toNat else min v.toNat n):Nat):Int);by_cases hv:v < 0
 ·simp only[if_pos hv];lia
 ·simp only[if_neg hv];lia
theorem Xe(lo hi:Option Int)(n:Nat):Builtin.Slice.sliceAdjust lo hi 1 (n:Int)=(((sIx n 0 lo:Nat):Int),((sIx n n hi:Nat):Int)):=by
 have h1:¬ ((1:Int) < 0):=by lia
 unfold Builtin.Slice.sliceAdjust;simp only[h1,if_false]
 refine Prod.ext ?_ ?_
 ·cases lo with
  |none=>rfl
  |some v=>exact XY v n 0
 ·cases hi with
  |none=>rfl
  |some v=>exact XY v n n
theorem Xf(i j:Nat):Builtin.Slice.slicePlaces (i:Int) (j:Int) 1=j-i:=by
 unfold Builtin.Slice.slicePlaces;have h1:(1:Int) > 0:=by lia
 simp only[h1,if_true,Int.ediv_one]
 split<;>lia
theorem vG{o:Option Int}{Q:Option Int->Shared->Prop}(p:IsPart v o)(h:Q o s):wpAny (model prog w) A (Builtin.Slice.slicePartIndex v) Q E s:=by
 cases p with
 |none=>exact slicePart_none h
 |int i t=>exact slicePart_int h
theorem xq{Q:Int×Int×Nat->Shared->Prop}(hs:s.heap.IsSliceOf sl vl vu .none)(pl:IsPart vl lo)(pu:IsPart vu hi)
  (h:Q (((sIx n 0 lo:Nat):Int),1,sIx n n hi-sIx n 0 lo) s):wpAny (model prog w) A (Builtin.Slice.sliceApplied (.ref sl) (pure (n:Int))) Q E s:=by
 obtain⟨os,hos,hcs,hds⟩:=id hs;unfold Builtin.Slice.sliceApplied Builtin.Slice.sliceFields;refine wpAny_bind (wpAny_bind (wpAny_field hos hds (x:=vl) rfl (wpAny_bind (wpAny_field hos hds (x:=vu) rfl (wpAny_bind (wpAny_field hos hds (x:=.none) rfl (wpAny_pure ?_)))))));refine wpAny_bind (slicePart_none ?_);show wpAny _ _ (if((1:Int) == 0)=true then _ else _) _ _ s;rw[if_neg (by decide)];refine wpAny_bind (vG pl (wpAny_bind (vG pu (wpAny_bind (wpAny_pure ?_)))));show wpAny _ _ (match Builtin.Slice.sliceAdjust lo hi 1 (n:Int)with|(lo,hi)=>pure (lo,(1:Int),Builtin.Slice.slicePlaces lo hi 1)) _ _ s;rw[Xe lo hi n];show wpAny _ _ (pure (((sIx n 0 lo:Nat):Int),(1:Int),Builtin.Slice.slicePlaces ((sIx n 0 lo:Nat):Int) ((sIx n n hi:Nat):Int) 1)) _ _ s;rw[Xf];exact wpAny_pure h
theorem VE(xs:Array Value)(i k:Nat):((uK k).filterMap fun(m:Nat)=>xs[((i:Int)+(m:Int)*1).toNat]?).toArray=((xs.toList.drop i).take k).toArray:=by
 have e:(fun(m:Nat)=>xs[((i:Int)+(m:Int)*1).toNat]?)=fun m=>xs[i+m]?:=by
  funext m
  have:((i:Int)+(m:Int)*1).toNat=i+m:=by lia
  rw[this]
 rw[e]
 have:=pick_run xs i k
 rw[List.filterMap_map]at this;have e2:((fun x=>xs[x]?) ∘ fun x=>i+x)=fun m=>xs[i+m]?:=rfl;rw[e2]at this;rw[this]
theorem getItem_tuple_cut{t:Addr}{Q:VSP}(ht:IsTup s.heap t items)(hs:s.heap.IsSliceOf sl vl vu .none)(pl:IsPart vl lo)(pu:IsPart vu hi)
  (hw:¬ (sIx items.size 0 lo=0/\sIx items.size items.size hi=items.size))
  (h:Q (.ref s.heap.objs.size) { s with heap:=s.heap.push { cls:=.type "tuple",data:=.seq ((items.toList.drop (sIx items.size 0 lo)).take (sIx items.size items.size hi-sIx items.size 0 lo)).toArray } })
  (hsz:items.size<=sizeLine):wpAny (model prog w) A (getItem (.ref t) (.ref sl)) Q E s:=by
 have htake:sizeOk (.seq ((items.toList.drop (sIx items.size 0 lo)).take (sIx items.size items.size hi-sIx items.size 0 lo)).toArray):=by
  show((items.toList.drop (sIx items.size 0 lo)).take (sIx items.size items.size hi-sIx items.size 0 lo)).toArray.size<=sizeLine;rw[ux,uq,List.length_drop,Array.length_toList];lia
 have hj:sIx items.size items.size hi<=items.size:=zcs _ _ (uj _) hi;obtain⟨os,hos,hcs,hds⟩:=id hs;have hTs:s.TypeIs (.ref sl) "slice":=⟨os,hos,hcs⟩;unfold getItem
 try with_reducible refine wpAny_holding ?_
 first|refine wpAny_bind (wpAny_pure ?_)|skip
 refine wpAny_bind (wpAny_sequenceKey ht.typeIs (by decide) ?_);refine wpAny_bind (wpAny_callSpecial?_slot (name:=Str.ofString "__getitem__") ht.typeIs Uo
  (wpAny_call_entry Uo ht.typeIs entry_tuple_getitem ?_ (args_tuple_getitem _ _)))
 show wpAny _ _ (Builtin.Tuple.tupleItemsOf (.ref t) >>= _) _ _ s;refine wpAny_bind (tupleItemsOf_ ht ?_);refine wpAny_bind (wpAny_typeOf hTs ?_);rw[if_pos (by decide)];refine wpAny_bind (xq hs pl pu ?_);have hno:¬ ((((sIx items.size 0 lo:Nat):Int) == 0 && (1:Int) == 1 && (sIx items.size items.size hi-sIx items.size 0 lo) == items.size)=true):=by
  intro q;rw[uJ,uJ]at q;have q1:((sIx items.size 0 lo:Nat):Int)=0:=eq_of_beq q.1.1;have q2:sIx items.size items.size hi-sIx items.size 0 lo=items.size:=eq_of_beq q.2;exact hw ⟨by lia,by lia⟩
 show wpAny _ _ (if(((sIx items.size 0 lo:Nat):Int) == 0 && (1:Int) == 1 && (sIx items.size items.size hi-sIx items.size 0 lo) == items.size)=true then _ else _) _ _ s;rw[if_neg hno,VE]
 first
  |exact wpAny_bind (m:=Builtin.Tuple.tupleExact _) (wpAny_newObj_type (wpAny_pure ⟨_,rfl,wpAny_pure h⟩) htake)
  |exact wpAny_bind (m:=Builtin.Tuple.tupleExact _) (wpAny_newObj_type (wpAny_bind (wpAny_pure (wpAny_pure ⟨_,rfl,wpAny_pure h⟩))) htake)
  |exact wpAny_bind (wpAny_bind (m:=Builtin.Tuple.tupleExact _) (wpAny_newObj_type (wpAny_pure (wpAny_pure ⟨_,rfl,wpAny_pure h⟩)) htake))
  |exact wpAny_bind (wpAny_bind (m:=Builtin.Tuple.tupleExact _) (wpAny_newObj_type (wpAny_pure ⟨_,rfl,wpAny_pure h⟩) htake))
end HT
namespace L2
open PySem PySem.Spec PyProof.Rows
variable{x:V}{T:String}
abbrev TO:=St->Hp->(Option Int->Hp->Prop)->Prop
def PO(X:Cx)(e:Option Expr)(t:TO):Prop :=
 ∀(pins:List (Addr×Obj))(s:Shared)(σ:St)(H:Hp)(Q:Option Int->Hp->Prop),Inv X pins σ H s->t σ H Q ->
  wpAny (model X.prog X.w) X.A (evalPart e X.env) (fun u s'=>∃o H',Inv X pins σ H' s'/\IsPart u o/\Q o H') X.xe s
def XZ:TO:=fun _ H Q=>Q none H
def zbo(t:TE):TO:=fun σ H Q=>t σ H fun x H1=>∃i,x=.int i/\Q (some i) H1
section
variable{lo hi:Option Expr}{tl th:TO}
theorem QU:PO X none XZ:=by
 intro pins s σ H Q I h;rw[evalPart_none];exact wpAny_pure ⟨none,H,I,.none,h⟩
theorem QV(h:PE X e te):PO X (some e) (zbo te):=by
 intro pins s σ H Q I hw;rw[evalPart_some];refine thn (h pins s σ H _ I hw) fun u s1 hq_=>?_;obtain⟨x,H1,I1,r1,q1⟩:=hq_;obtain⟨i,rfl,q⟩:=q1;obtain⟨t,rfl⟩:=r1;exact⟨some i,H1,I1,.int i t,q⟩
def SlR(X:Cx)(r:V->Option Int->Option Int->Hp->VK->Prop):Prop :=
 ∀(pins:List (Addr×Obj))(s:Shared)(σ:St)(H:Hp)(x:V)(v vl vu:Value)(lo hi:Option Int)(sl:Addr)(Q:VK),Inv X pins σ H s->RelV x v->s.heap.IsSliceOf sl vl vu .none->IsPart vl lo->IsPart vu hi->r x lo hi H Q ->
  ∃T id,typeLookup (.type T) "__getitem__"=pure (some (.builtin id))/\s.TypeIs v T/\wpAny (model X.prog X.w) X.A (getItem v (.ref sl)) (EP X pins σ Q) X.xe s
def tSl(r:V->Option Int->Option Int->Hp->VK->Prop)(te:TE)(tl th:TO):TE:=fun σ H Q=>te σ H fun x H1=>tl σ H1 fun l H2=>th σ H2 fun u H3=>r x l u H3 Q
theorem VF(hr:SlR X r)(he:PE X e te)(hl:PO X lo tl)(hu:PO X hi th):PE X (.Subscript e (.Slice lo hi none p2) pos) (tSl r te tl th):=by
 intro pins s σ H Q I h;refine Subscript_ (thn (he pins s σ H _ I h) fun v s1 hq_=>?_);obtain⟨x,H1,I1,r1,q1⟩:=hq_;refine wpAny_Slice (thn (hl pins s1 σ H1 _ I1 q1) fun vl s2 ⟨l,H2,I2,pl,q2⟩=>thn (hu pins s2 σ H2 _ I2 q2) fun vu s3 hq_=>?_);obtain⟨u,H3,I3,pu,q3⟩:=hq_;rw[evalPart_none];refine wpAny_pure ?_;have I4:Inv X pins σ H3 { s3 with heap:=s3.heap.push { cls:=.type "slice",data:=.fields #[vl,vu,.none] } }:=I3.kept (t':=s3.toks) fun b ob q=>uc _ q;obtain⟨T,id,hT,ht,hg⟩:=hr pins { s3 with heap:=s3.heap.push { cls:=.type "slice",data:=.fields #[vl,vu,.none] } } σ H3 x v vl vu l u s3.heap.objs.size Q I4 r1 (Heap.IsSliceOf.new ..) pl pu q3;show wpAny (model X.prog X.w) X.A (subscriptTail e (.Slice lo hi none p2) v (.ref s3.heap.objs.size)) (EP X pins σ Q) X.xe { s3 with heap:=s3.heap.push { cls:=.type "slice",data:=.fields #[vl,vu,.none] } };exact tail_any (ops:=[.ref s3.heap.objs.size,v]) ht hT hg (by with_unfolding_all rfl)
def cutV(xs:List V)(lo hi:Option Int):List V:=(xs.drop (HT.sIx xs.length 0 lo)).take (HT.sIx xs.length xs.length hi-HT.sIx xs.length 0 lo)
theorem vc(xs:List V)(lo hi:Option Int):(cutV xs lo hi).length<=xs.length:=by
 unfold cutV;rw[uq,List.length_drop];lia
def rSlT(K:ub):V->Option Int->Option Int->Hp->VK->Prop:=fun x lo hi H Q=>∃a xs,x=.ref a/\SqT K H a xs /\
 ¬ (HT.sIx xs.length 0 lo=0/\HT.sIx xs.length xs.length hi=xs.length)/\∀p,H p=none->Q (.ref p) (upd H p (.tup (cutV xs lo hi)))
theorem zct:SlR X (rSlT X.K):=by
 intro pins s σ H x v vl vu lo hi sl Q I rx hs pl pu h;obtain⟨a,xs,rfl,hx,hw,q⟩:=h;cases rx;obtain⟨its,r,ht,hz⟩:=I.tuple hx;have hlen:its.toArray.size=xs.length:=by rw[ux];exact r.length.symm
 refine⟨"tuple",_,Uo.lookup,ht.typeIs,?_⟩;refine HT.getItem_tuple_cut ht hs pl pu (by rw[hlen];exact hw) ?_ (by rw[hlen];exact hz);rw[hlen];refine⟨.ref s.heap.objs.size,_,I.laid (t':=s.toks) (o:=.tup (cutV xs lo hi)) (fun b ob q=>uc _ q) (uj _) ?_,rfl,q _ (I.hok.fresh (uj _))⟩;exact⟨uI (vc xs lo hi) hz,_,(r.drop (HT.sIx xs.length 0 lo)).take (HT.sIx xs.length xs.length hi-HT.sIx xs.length 0 lo),IsTupN.new _ _⟩
def zbp(K:ub):R2:=fun x y H Q=>∃a b xs ys,x=.ref a/\y=.ref b/\SqT K H a xs/\SqT K H b ys/\xs≠[]/\xs.length+ys.length<=sizeLine /\
 (ys=[]->Q (.ref a) H)/\(ys≠[]->∀p,H p=none->Q (.ref p) (upd H p (.tup (xs++ys))))
theorem Vals.nil_iff{us:List Value}(r:Vals xs us):us=[]↔xs=[]:=by
 cases r with
 |nil=>simp
 |cons _ _=>simp
theorem QW:OpR X (binaryOp .Add) (zbp X.K):=by
 intro pins s σ H x y v u Q I rx ry h;obtain⟨a,b,xs,ys,rfl,rfl,ha,hb,hx,hz,q1,q2⟩:=h;cases rx;cases ry;obtain⟨its,r1,p1,_⟩:=I.tuple ha;obtain⟨its2,r2,p2,_⟩:=I.tuple hb;refine HT.cat_tup p1 p2 (fun z=>hx (r1.nil_iff.mp z)) (fun z=>⟨.ref a,H,I,rfl,q1 (r2.nil_iff.mp z)⟩) (fun z=>?_) (by rw[<- r1.length,<- r2.length];exact hz);refine⟨.ref s.heap.objs.size,_,I.laid (t':=s.toks) (o:=.tup (xs++ys)) (fun b ob q=>uc _ q) (uj _) ?_,rfl,q2 (fun w=>z (r2.nil_iff.mpr w)) _ (I.hok.fresh (uj _))⟩;exact⟨by rw[uf];exact hz,_,r1.append r2,IsTupN.new _ _⟩
end
def ixN(n:Nat)(i:Int):Option Nat:=if 0<=i then(if i < n then some i.toNat else none)else if -(n:Int)<=i then some (i+n).toNat else none
def atI{α:Type}(xs:List α)(i:Int):Option α:=(ixN xs.length i).bind fun j=>xs[j]?
theorem X0{i:Int}(h:ixN n i=some j):seqIndex? i n=some j/\j < n/\-(n:Int)<=i/\i < n:=by
 unfold ixN at h;by_cases h0:0<=i
 ·rw[if_pos h0]at h
  by_cases h1:i < n
  ·rw[if_pos h1]at h
   have e:i.toNat=j:=uZ.inj h;exact⟨by rw[seqIndex_of h0 h1,e],by lia,by lia,h1⟩
  ·rw[if_neg h1]at h;cases h
 ·rw[if_neg h0]at h
  by_cases h1:-(n:Int)<=i
  ·rw[if_pos h1]at h
   have e:(i+n).toNat=j:=uZ.inj h;exact⟨by rw[seqIndex_neg (by lia) h1,e],by lia,h1,by lia⟩
  ·rw[if_neg h1]at h;cases h
theorem Za{α:Type}{xs:List α}{i:Int}{v:α}(h:atI xs i=some v):∃j,seqIndex? i xs.length=some j/\xs[j]?=some v/\j < xs.length/\-(xs.length:Int)<=i/\i < xs.length:=by
 unfold atI at h;cases e:ixN xs.length i with
 |none=>rw[e]at h;cases h
 |some j =>
  rw[e]at h;obtain⟨h1,h2,h3,h4⟩:=X0 e;exact⟨j,h1,h,h2,h3,h4⟩
theorem yB{α:Type}{xs:List α}{v:α}(h:xs[j]?=some v):atI xs (j:Int)=some v:=by
 have hj:j < xs.length:=(ud.mp h).1;have e:ixN xs.length (j:Int)=some j:=by
  unfold ixN;rw[if_pos (by lia),if_pos (by lia)];simp
 unfold atI;rw[e];exact h
theorem aI0{α:Type}{a:α}{r:List α}:atI (a::r) 0=some a:=yB (j:=0) rfl
theorem aI1{α:Type}{a b:α}{r:List α}:atI (a::b::r) 1=some b:=yB (j:=1) rfl
theorem aI2{α:Type}{a b c:α}{r:List α}:atI (a::b::c::r) 2=some c:=yB (j:=2) rfl
theorem aI3{α:Type}{a b c d:α}{r:List α}:atI (a::b::c::d::r) 3=some d:=yB (j:=3) rfl
theorem vH{α:Type}(xs:List α)(v:α):atI (xs++[v]) (-1)=some v:=by
 have hl:(xs++[v]).length=xs.length+1:=by simp
 have e:ixN (xs++[v]).length (-1)=some xs.length:=by
  unfold ixN;rw[hl,if_neg (by decide),if_pos (by lia)]
  congr 1
  lia
 unfold atI;rw[e];show(xs++[v])[xs.length]?=some v;simp
def Zb(b:Expr):Prop:=∀o i,subscripted b false o i=operate [o,i] (getItem o i)
def IxR(X:Cx)(r:R2):Prop :=
 ∀(value slice:Expr)(pins:List (Addr×Obj))(s:Shared)(σ:St)(H:Hp)(x y:V)(v u:Value)(Q:VK),Inv X pins σ H s->RelV x v->RelV y u->r x y H Q ->
  subscripted slice false v u=operate [v,u] (getItem v u)->wpAny (model X.prog X.w) X.A (subscriptTail value slice v u) (EP X pins σ Q) X.xe s
def MtR(X:Cx)(id:String)(r:V->List V->Hp->VK->Prop):Prop :=
 ∀(pins:List (Addr×Obj))(s:Shared)(σ:St)(H:Hp)(x:V)(xs:List V)(v:Value)(us:List Value)(Q:VK),Inv X pins σ H s->RelV x v->Vals xs us->r x xs H Q ->
  wpAny (model X.prog X.w) X.A (call (.builtin id) (v::us)) (EP X pins σ Q) X.xe s
section
variable{a b:Expr}
theorem zdP{r:R2}(hr:IxR X r)(ha:PE X a ta)(hb:PE X b tb)(hs:Zb b):PE X (.Subscript a b pos) (tOp r ta tb):=by
 intro pins s σ H Q I h;exact Subscript_ (binT ha hb I h fun v u s2 x y H2 I2 rx ry q=>hr a b pins s2 σ H2 x y v u Q I2 rx ry q (hs _ _))
def rIxL(K:ub):R2:=fun x y H Q=>∃p xs i v,x=.ref p/\y=.int i/\SqL K H p xs/\atI xs i=some v/\Q v H
def rIxT(K:ub):R2:=fun x y H Q=>∃p xs i v,x=.ref p/\y=.int i/\SqT K H p xs/\atI xs i=some v/\Q v H
def rIxS:R2:=fun x y H Q=>∃z i c,x=.str z/\y=.int i/\z.length<=sizeLine/\atI z.cps.toList i=some c/\Q (.str ⟨#[c]⟩) H
theorem QX:IxR X (rIxL X.K):=by
 intro value slice pins s σ H x y v u Q I rx ry h hs;obtain⟨p,xs,i,z,rfl,rfl,hq,he,q⟩:=h;cases rx;obtain⟨t,rfl⟩:=ry;obtain⟨its,r,pl,hz⟩:=I.list hq;obtain⟨j,h1,h2,h3,h4,h5⟩:=Za he;obtain⟨w,ew,rw'⟩:=r.get h2;have hl:=r.length;have hn:=vF;have fin:EP X pins σ Q w s:=⟨z,H,I,rw',q⟩;by_cases h0:0<=i
 ·have hj:i.toNat=j:=by
   rw[seqIndex_of h0 h5]at h1;exact uZ.inj h1
  exact item_listR pl.isList h0 (by lia) (by rw[hj];simpa using ew) fin hs
 ·have hj:(i+(its.toArray.size:Int)).toNat=j:=by
   rw[seqIndex_neg (by lia) h4]at h1;rw[ux,<- hl];exact uZ.inj h1
  exact subscriptTail_builtinR (x:=w) pl.isList.typeIs slot_list_getitem.lookup
   (wpAny_getItem_list_neg (Q:=fun r s'=>r=w/\EP X pins σ Q r s') pl.isList (by lia) (by rw[ux]<;>lia) (by lia) (by rw[hj];simpa using ew) ⟨rfl,fin⟩) hs
theorem zcu:IxR X (rIxT X.K):=by
 intro value slice pins s σ H x y v u Q I rx ry h hs;obtain⟨p,xs,i,z,rfl,rfl,hq,he,q⟩:=h;cases rx;obtain⟨t,rfl⟩:=ry;obtain⟨its,r,pl,hz⟩:=I.tuple hq;obtain⟨j,h1,h2,h3,h4,h5⟩:=Za he;obtain⟨w,ew,rw'⟩:=r.get h2;have hl:=r.length;have hn:=vF;have fin:EP X pins σ Q w s:=⟨z,H,I,rw',q⟩;exact subscriptTail_builtinR (x:=w) pl.typeIs slot_tuple_getitem.lookup
  (getItem_tuple (j:=j) (Q:=fun r s'=>r=w/\EP X pins σ Q r s') pl (by lia) (by lia) (by rw[ux,<- hl];exact h1) (by simpa using ew) ⟨rfl,fin⟩) hs
theorem zcv:IxR X rIxS:=by
 intro value slice pins s σ H x y v u Q I rx ry h hs;obtain⟨z,i,c,rfl,rfl,hz,he,q⟩:=h;obtain⟨t,rfl⟩:=rx;obtain⟨t',rfl⟩:=ry;obtain⟨j,h1,h2,h3,h4,h5⟩:=Za he;have hl:z.cps.toList.length=z.length:=by simp[Str.length]
 rw[hl]at h1 h4 h5;have hn:=vF;exact tail_any (typeIs_str s z t) slot_str_getitem.lookup (getItem_str (c:=c) (by
  have e1:decide (i < -(2 ^ 63:Int))=false:=decide_eq_false (by lia);have e2:decide (i ≥ 2 ^ 63)=false:=decide_eq_false (by lia);rw[e1,e2,Bool.or_false]) (by rw[h1];simpa using h2) ⟨.str ⟨#[c]⟩,H,I.tok _,⟨_,rfl⟩,q⟩) hs
theorem Xg(its:List Value)(n j:Nat)(u:Value):Obj.mapSeq (·.setIfInBounds j u) { cls:=.type "list",data:=.seq its.toArray n }={ cls:=.type "list",data:=.seq (its.set j u).toArray n }:=by
 simp[Obj.mapSeq]
theorem Inv.lst(I:Inv X pins σ H s)(h:H p=some (.lst xs)):
  ∃(its:List Value)(n:Nat),Vals xs its/\s.heap.get? p=some { cls:=.type "list",data:=.seq its.toArray n }/\xs.length<=sizeLine:=by
 obtain⟨z,its,n,r,e⟩:=I.hok p _ h;exact⟨its,n,r,e,z⟩
theorem Inv.lstUpd{ys:List V}{n':Nat}{f:Obj->Obj}(I:Inv X pins σ H s)(h:H p=some (.lst xs))
  (ho:s.heap.get? p=some { cls:=.type "list",data:=.seq its.toArray n }) (hf:f { cls:=.type "list",data:=.seq its.toArray n }={ cls:=.type "list",data:=.seq its'.toArray n' }) (r:Vals ys its') (hz:ys.length<=sizeLine) (t:Nat) :
  Inv X pins σ (upd H p (.lst ys)) { s with heap:=s.heap.update p f,toks:=t }:=by
 have e:(s.heap.update p f).get? p=some { cls:=.type "list",data:=.seq its'.toArray n' }:=by
  rw[UH f ho (by rw[hf]<;>rfl),hf]
 refine I.write (x:=p) (e:=p) (by rw[h];trivial) (.inl rfl) (fun b u hb q=>(UD _ _ (Ne.symm hb)).trans q) ⟨_,e⟩ ?_;exact⟨hz,its',n',r,e⟩
def zbq:V->V->V->Hp->(Hp->Prop)->Prop:=fun o i v H Q=>∃p xs k j,o=.ref p/\i=.int k/\H p=some (.lst xs)/\ixN xs.length k=some j/\Q (upd H p (.lst (xs.set j v)))
theorem VG:PSet X zbq:=by
 intro pins s σ H o i v ov iv u Q I ro ri rv h;obtain⟨p,xs,k,j,rfl,rfl,hp,hj,q⟩:=h;cases ro;obtain⟨t,rfl⟩:=ri;obtain⟨its,n,r,ho,hz⟩:=I.lst hp;obtain⟨h1,h2,h3,h4⟩:=X0 hj;have hl:=r.length;have hn:=vF;have I':Inv X pins σ (upd H p (.lst (xs.set j v))) { s with heap:=s.heap.update p (Obj.mapSeq (·.setIfInBounds j u)) } :=
  I.lstUpd hp ho (Xg its n j u) (r.set rv j) (by rw[List.length_set];exact hz) s.toks
 by_cases h0:0<=k
 ·have hk:k.toNat=j:=by
   rw[seqIndex_of h0 h4]at h1;exact uZ.inj h1
  exact PySem.W.ki_setAt ho h0 (by lia) (by rw[ux,<- hl];exact h4) (by rw[hk];exact⟨_,I',q⟩)
 ·have hk:(k+(its.toArray.size:Int)).toNat=j:=by
   rw[seqIndex_neg (by lia) h3]at h1;rw[ux,<- hl];exact uZ.inj h1
  exact PySem.W.ki_setBack ho (by lia) (by rw[ux,<- hl];exact h3) (by lia) (by rw[hk];exact⟨_,I',q⟩)
theorem Zc(lo hi:Option Int)(n:Nat):(sliceBounds lo hi none n).1=((HT.sIx n 0 lo:Nat):Int)/\(sliceBounds lo hi none n).2.1=((HT.sIx n n hi:Nat):Int)/\(sliceBounds lo hi none n).2.2=1:=by
 refine⟨?_,?_,rfl⟩
 ·cases lo with
  |none=>simp[sliceBounds,HT.sIx]
  |some i =>
   simp only[sliceBounds,HT.sIx,Option.getD_none,show(1:Int) > 0 by decide,if_true]
   by_cases h:i < 0
   ·simp only[h,if_true]<;>lia
   ·simp only[h,if_false]<;>lia
 ·cases hi with
  |none=>simp[sliceBounds,HT.sIx]
  |some i =>
   simp only[sliceBounds,HT.sIx,Option.getD_none,show(1:Int) > 0 by decide,if_true]
   by_cases h:i < 0
   ·simp only[h,if_true]<;>lia
   ·simp only[h,if_false]<;>lia
theorem jn(its:List Value)(lo hi:Option Int):slicePick its.toArray lo hi none=((its.drop (HT.sIx its.length 0 lo)).take (HT.sIx its.length its.length hi-HT.sIx its.length 0 lo)).toArray:=by
 obtain⟨h1,h2,h3⟩:=Zc lo hi its.toArray.size;unfold slicePick;rw[h1,h2,h3];simp only[sliceRange_one,pick_run,ux]<;>rfl
def rSlL(K:ub):V->Option Int->Option Int->Hp->VK->Prop:=fun x lo hi H Q=>∃a xs,x=.ref a/\SqL K H a xs/\∀p,H p=none->Q (.ref p) (upd H p (.lst (cutV xs lo hi)))
theorem QY:SlR X (rSlL X.K):=by
 intro pins s σ H x v vl vu lo hi sl Q I rx hs pl pu h;obtain⟨a,xs,rfl,hx,q⟩:=h;cases rx;obtain⟨its,r,ht,hz⟩:=I.list hx;have hlen:=r.length;refine⟨"list",_,slot_list_getitem.lookup,ht.isList.typeIs,?_⟩;refine wpAny_getItem_list_slice ht.isList hs pl pu .none (by simp) ?_ (by rw[ux]<;>lia);rw[jn,<- hlen];refine⟨.ref s.heap.objs.size,_,I.laid (t':=s.toks) (o:=.lst (cutV xs lo hi)) (fun b ob q=>uc _ q) (uj _) ?_,rfl,q _ (I.hok.fresh (uj _))⟩;exact⟨uI (vc xs lo hi) hz,_,0,(r.drop (HT.sIx xs.length 0 lo)).take (HT.sIx xs.length xs.length hi-HT.sIx xs.length 0 lo),uv _ rfl⟩
def xJ:V->Bool
 |.non=>true
 |.bl _=>true
 |.int _=>true
 |.str _=>true
 |_=>false
def eqV:V->V->Bool
 |.non,.non=>true
 |.bl a,.bl b=>a == b
 |.bl a,.int b=>(if a then 1 else 0) == b
 |.int a,.bl b=>a == (if b then 1 else 0)
 |.int a,.int b=>a == b
 |.str a,.str b=>a == b
 |_,_=>false
theorem VH{y:V}(ry:RelV y u)(rx:RelV x v)(fy:xJ y=true)(fx:xJ x=true):SeqAt.EqAt A s u v (eqV y x):=by
 cases y with
 |non =>
  cases ry;cases x with
  |non=>cases rx;exact SeqAt.EqAt.same _
  |bl b=>cases rx;exact SeqAt.EqAt.none_bool b
  |int b=>obtain⟨t,rfl⟩:=rx;exact SeqAt.EqAt.none_int b t
  |str b=>obtain⟨t,rfl⟩:=rx;exact SeqAt.EqAt.none_str b t
  |_=>exact absurd (show false=true from fx) uA
 |bl a =>
  cases ry;cases x with
  |non=>cases rx;exact SeqAt.EqAt.bool_none a
  |bl b=>cases rx;exact SeqAt.EqAt.bool_bool a b
  |int b=>obtain⟨t,rfl⟩:=rx;exact SeqAt.EqAt.bool_int a b t
  |str b=>obtain⟨t,rfl⟩:=rx;exact SeqAt.EqAt.bool_str a b t
  |_=>exact absurd (show false=true from fx) uA
 |int a =>
  obtain⟨t',rfl⟩:=ry;cases x with
  |non=>cases rx;exact SeqAt.EqAt.int_none a t'
  |bl b=>cases rx;exact SeqAt.EqAt.int_bool a t' b
  |int b=>obtain⟨t,rfl⟩:=rx;exact SeqAt.EqAt.int_int a t' b t
  |str b=>obtain⟨t,rfl⟩:=rx;exact SeqAt.EqAt.int_str a t' b t
  |_=>exact absurd (show false=true from fx) uA
 |str a =>
  obtain⟨t',rfl⟩:=ry;cases x with
  |non=>cases rx;exact SeqAt.EqAt.str_none a t'
  |bl b=>cases rx;exact SeqAt.EqAt.str_bool a t' b
  |int b=>obtain⟨t,rfl⟩:=rx;exact SeqAt.EqAt.str_int a t' b t
  |str b=>obtain⟨t,rfl⟩:=rx;exact SeqAt.EqAt.str_str a t' b t
  |_=>exact absurd (show false=true from fx) uA
 |_=>exact absurd (show false=true from fy) uA
def eqU(x:V)(u:Value):Bool:=match u with
 |.none=>eqV .non x
 |.bool b=>eqV (.bl b) x
 |.int i _=>eqV (.int i) x
 |.str z _=>eqV (.str z) x
 |_=>false
theorem VI{y:V}(r:RelV y u)(f:xJ y=true):eqU x u=eqV y x:=by
 cases y with
 |non=>cases r;rfl
 |bl b=>cases r;rfl
 |int i=>obtain⟨t,rfl⟩:=r;rfl
 |str z=>obtain⟨t,rfl⟩:=r;rfl
 |_=>exact absurd (show false=true from f) uA
theorem wp{x:V}:∀{xs:List V}{us:List Value},Vals xs us->xs.all xJ=true->us.any (eqU x)=xs.any fun y=>eqV y x
 |_,_,.nil,_=>rfl
 |y::xs,u::us,.cons r t,f=>by
  rw[List.all_cons,uJ]at f;rw[List.any_cons,List.any_cons,VI r f.1,wp t f.2]
theorem xK{A:Around}{s:Shared}{x:V}{v:Value}(rx:RelV x v)(fx:xJ x=true):∀{xs:List V}{us:List Value},Vals xs us->xs.all xJ=true->∀u∈us,SeqAt.EqAt A s u v (eqU x u)
 |_,_,.nil,_=>fun u hu=>by cases hu
 |y::xs,u::us,.cons r t,f=>fun u' hu=>by
  rw[List.all_cons,uJ]at f;rcases uk.mp hu with rfl|hu
  ·rw[VI r f.1];exact VH r rx f.1 fx
  ·exact xK rx fx t f.2 u' hu
def inV(x:V)(xs:List V):Bool:=xs.any fun y=>eqV y x
def rIn(K:ub)(neg:Bool):R2:=fun x y H Q=>∃p xs,y=.ref p/\(SqL K H p xs\/SqT K H p xs)/\xJ x=true/\xs.all xJ=true/\Q (.bl (if neg then !inV x xs else inV x xs)) H
theorem WN:OpR X (compareOp .In) (rIn X.K false):=by
 intro pins s σ H x y v u Q I rx ry h;obtain⟨p,xs,rfl,hq,fx,fs,q⟩:=h;cases ry;rcases hq with hq|hq
 ·obtain⟨its,r,pl,hz⟩:=I.list hq
  refine SeqAt.in_listAt (eqU x) pl.isList (fun w hw=>xK rx fx r fs w (by simpa using hw)) ⟨.bl _,H,I,rfl,?_⟩;rw[show its.toArray.any (eqU x)=its.any (eqU x) by simp,wp r fs];exact q
 ·obtain⟨its,r,pl,hz⟩:=I.tuple hq
  refine SeqAt.in_tupleAt (eqU x) pl (fun w hw=>xK rx fx r fs w (by simpa using hw)) ⟨.bl _,H,I,rfl,?_⟩;rw[show its.toArray.any (eqU x)=its.any (eqU x) by simp,wp r fs];exact q
theorem Zd:OpR X (compareOp .NotIn) (rIn X.K true):=by
 intro pins s σ H x y v u Q I rx ry h;obtain⟨p,xs,rfl,hq,fx,fs,q⟩:=h;cases ry;rcases hq with hq|hq
 ·obtain⟨its,r,pl,hz⟩:=I.list hq
  refine SeqAt.notIn_listAt (eqU x) pl.isList (fun w hw=>xK rx fx r fs w (by simpa using hw)) ⟨.bl _,H,I,rfl,?_⟩;rw[show its.toArray.any (eqU x)=its.any (eqU x) by simp,wp r fs];exact q
 ·obtain⟨its,r,pl,hz⟩:=I.tuple hq
  refine SeqAt.notIn_tupleAt (eqU x) pl (fun w hw=>xK rx fx r fs w (by simpa using hw)) ⟨.bl _,H,I,rfl,?_⟩;rw[show its.toArray.any (eqU x)=its.any (eqU x) by simp,wp r fs];exact q
theorem Ze:xH X (.builtin "len") (fun xs H Q=>∃p ys,xs=[.ref p]/\(SqL X.K H p ys\/SqT X.K H p ys)/\Q (.int ys.length) H):=by
 intro pins s σ H xs us Q I r h;obtain⟨p,ys,rfl,hq,q⟩:=h;obtain⟨u,rfl,rx⟩:=jt r;cases rx;have hn:=vF;rcases hq with hq|hq
 ·obtain⟨its,r',pl,hz⟩:=I.list hq
  have hlen:=r'.length;exact Calls.call_len_list pl.isList (by simp only[ux]<;>lia) ⟨.int ys.length,H,I.tok _,⟨s.toks+1,by rw[ux,hlen]⟩,q⟩
 ·obtain⟨its,r',pl,hz⟩:=I.tuple hq
  have hlen:=r'.length;exact len_tuple pl (by simp only[ux]<;>lia) ⟨.int ys.length,H,I.tok _,⟨s.toks+1,by rw[ux,hlen]⟩,q⟩
theorem Zf:xH X (.type "list") (fun xs H Q=>∃p ys,xs=[.ref p]/\(SqL X.K H p ys\/SqT X.K H p ys)/\∀l,H l=none->Q (.ref l) (upd H l (.lst ys))):=by
 intro pins s σ H xs us Q I r h;obtain⟨p,ys,rfl,hq,q⟩:=h;obtain⟨u,rfl,rx⟩:=jt r;cases rx;have fin:∀(its:List Value),Vals ys its->ys.length<=sizeLine->∀(h':Heap)(c':Nat),(∀b o',s.heap.get? b=some o'->h'.get? b=some o') ->
   h'.get? s.heap.objs.size=some { cls:=.type "list",dict:=none,data:=.seq its.toArray c',slots:=#[] }->EP X pins σ Q (.ref s.heap.objs.size) { s with heap:=h' }:=fun its r' hz h' c' kp e =>
  ⟨.ref s.heap.objs.size,_,I.laid (t':=s.toks) kp (uj _) (show ObjOk X.prog X.w _ h' _ (.lst ys)from⟨hz,its,c',r',e⟩),rfl,q _ (I.hok.fresh (uj _))⟩
 rcases hq with hq|hq
 ·obtain⟨its,r',pl,hz⟩:=I.list hq
  have hlen:=r'.length;obtain⟨o,ho,hc,n,hd⟩:=pl.isList;exact call_list_seq p (.inl rfl) ho hc hd (fun h' c' kp e=>fin its r' hz h' c' kp e) (by simp only[ux]<;>lia)
 ·obtain⟨its,r',pl,hz⟩:=I.tuple hq
  have hlen:=r'.length;obtain⟨o,ho,hc,n,hd⟩:=pl;exact call_list_seq p (.inr rfl) ho hc hd (fun h' c' kp e=>fin its r' hz h' c' kp e) (by simp only[ux]<;>lia)
theorem jo:xH X (.type "tuple") (fun xs H Q=>∃p ys,xs=[.ref p]/\((SqL X.K H p ys/\∀l,H l=none->Q (.ref l) (upd H l (.tup ys)))\/(SqT X.K H p ys/\Q (.ref p) H))):=by
 intro pins s σ H xs us Q I r h;obtain⟨p,ys,rfl,h⟩:=h;obtain⟨u,rfl,rx⟩:=jt r;cases rx;rcases h with⟨hq,q⟩|⟨hq,q⟩
 ·obtain⟨its,r',pl,hz⟩:=I.list hq
  have hlen:=r'.length;refine call_tuple_list pl.isList (fun h' kp=>?_) (by simp only[ux]<;>lia);have I1:Inv X pins σ H { s with heap:=h' }:=I.kept (t':=s.toks) kp;have I2:Inv X pins σ (upd H h'.objs.size (.tup ys)) { s with heap:=h'.push { cls:=.type "tuple",data:=.seq its.toArray } } :=
   I1.laid (t':=s.toks) (fun b o e=>uc _ e) (uj _) (show ObjOk X.prog X.w _ _ _ (.tup ys)from⟨hz,its,r',IsTupN.new _ _⟩)
  exact⟨.ref h'.objs.size,_,I2,rfl,q _ (I1.hok.fresh (uj _))⟩
 ·obtain⟨its,r',pl,hz⟩:=I.tuple hq
  exact call_tuple_same pl ⟨.ref p,H,I,rfl,q⟩
def tyV(K:ub)(T:String)(x:V)(H:Hp):Prop:=match x with
 |.str _=>T="str"
 |.int _=>T="int"
 |.ref p=>(T="list"/\∃xs,SqL K H p xs)\/(T="tuple"/\((∃o,K.lookup p=some o/\o.cls=.type "tuple"/\o.dict=none)\/∃xs,H p=some (.tup xs))) \/
   (T="dict"/\((∃kvs,H p=some (.dK kvs))\/∃kvs,H p=some (.dT kvs)))\/(T="set"/\∃S n,H p=some (.set S n))
 |_=>False
theorem VJ(I:Inv X pins σ H s)(r:RelV x v)(ty:tyV X.K T x H):
  s.TypeIs v T/\∀a,v=.ref a->∃ob,s.heap.get? a=some ob/\ob.dict=none:=by
 cases x with
 |str z =>
  obtain⟨t,rfl⟩:=r;cases(show T="str"from ty);exact⟨typeIs_str s z t,fun _ e=>nomatch e⟩
 |int i =>
  obtain⟨t,rfl⟩:=r;cases(show T="int"from ty);exact⟨typeIs_int s i t,fun _ e=>nomatch e⟩
 |ref p =>
  cases r;rcases ty with⟨rfl,xs,hq⟩|⟨rfl,⟨o,hk,hc,hd⟩|⟨xs,hk⟩⟩|⟨rfl,hk⟩|⟨rfl,S,n,hk⟩
  ·obtain⟨its,_,pl,_⟩:=I.list hq
   refine⟨pl.isList.typeIs,fun a e=>?_⟩;cases e;obtain⟨o,n,e,c,hd,_⟩:=pl;exact⟨o,e,hd⟩
  ·refine⟨⟨o,I.kIn p o hk,hc⟩,fun a e=>?_⟩
   cases e;exact⟨o,I.kIn _ o hk,hd⟩
  ·obtain⟨_,_,_,o,ho,hc,hd,_⟩:=I.hok p _ hk
   refine⟨⟨o,ho,hc⟩,fun a e=>?_⟩;cases e;exact⟨o,ho,hd⟩
  ·have z:∃o,s.heap.get? p=some o/\o.ExactDict:=by
    rcases hk with⟨kvs,hk⟩|⟨kvs,hk⟩
    ·obtain⟨_,_,_,_,o,_,_,e,ex,_⟩:=I.hok p _ hk
     exact⟨o,e,ex⟩
    ·obtain⟨_,_,_,_,o,_,_,e,ex,_⟩:=I.hok p _ hk
     exact⟨o,e,ex⟩
   obtain⟨o,e,ex⟩:=z;refine⟨⟨o,e,ex.1⟩,fun a e2=>?_⟩;cases e2;exact⟨o,e,ex.2.1⟩
  ·obtain⟨o,_,_,_,e,ex,_⟩:=I.hok p _ hk
   refine⟨⟨o,e,ex.1⟩,fun a e2=>?_⟩;cases e2;exact⟨o,e,ex.2.1⟩
 |_=>exact False.elim ty
def tBM0(K:ub)(T:String)(r:V->List V->Hp->VK->Prop)(to:TE):TE:=fun σ H Q=>to σ H fun x H1=>tyV K T x H1/\r x [] H1 Q
def tBM(K:ub)(T:String)(r:V->List V->Hp->VK->Prop)(to:TE)(t:TA):TE:=fun σ H Q=>to σ H fun x H1=>tyV K T x H1/\t σ H1 fun xs H2=>r x xs H2 Q
variable{t:TA}{r:V->List V->Hp->VK->Prop}
theorem zcw(pa:PlainAttrs T)(slot:Slot T name id)(hty:typeOf (.builtin id)=pure (.type "method_descriptor"))(hm:MtR X id r)(ho:PE X o to)
  (hbase:attributeBase o name X.env (eval o X.env)=eval o X.env:=by rfl) (hline:(apos.endLine == cpos.line)=true:=by rfl):PE X (.Call (.Attribute o name apos) [] [] cpos) (tBM0 X.K T r to):=by
 intro pins s σ H Q I h;refine wpAny_Call_method0_late hbase hline (thn (ho pins s σ H _ I h) fun v s1 hq_=>?_);obtain⟨x,H1,I1,r1,ty,q1⟩:=hq_;obtain⟨h1,h2⟩:=VJ I1 r1 ty;exact⟨T,id,pa,slot,hty,h1,h2,Calls.callWith_builtin rfl (PySem.evalArgs_none (hm pins s1 σ H1 x [] v [] Q I1 r1 .nil q1))⟩
theorem zdQ(pa:PlainAttrs T)(slot:Slot T name id)(hty:typeOf (.builtin id)=pure (.type "method_descriptor"))(hm:MtR X id r)(ho:PE X o to)(ha:PA X (e::es) t)
  (hbase:attributeBase o name X.env (eval o X.env)=eval o X.env:=by rfl)
  (hfew:((backTo cpos (starEach (e::es) X.env)).all (fun x=>!x.1) && (backToKw cpos (keywordEach [] X.env)).all (fun x=>x.1.isSome)
   && decide ((e::es).length+([]:List Keyword).length+(if([]:List Keyword).isEmpty then 0 else 1) < 30))=true:=by rfl)
  (hline:(apos.endLine == cpos.line)=true:=by rfl) (hs:starEach (e::es) X.env=(false,eval e X.env)::starEach es X.env:=by rfl) (hplain:(backTo cpos (starEach es X.env)).any (·.1)=false:=by rfl) :
  PE X (.Call (.Attribute o name apos) (e::es) [] cpos) (tBM X.K T r to t):=by
 intro pins s σ H Q I h;refine wpAny_Call_method_late hbase hfew hline rfl (thn (ho pins s σ H _ I h) fun v s1 hq_=>?_);obtain⟨x,H1,I1,r1,ty,q1⟩:=hq_;obtain⟨h1,h2⟩:=VJ I1 r1 ty;refine⟨T,id,pa,slot,hty,h1,h2,?_⟩;have hA:=ha cpos pins s1 σ H1 _ I1 q1;rw[hs]at hA ⊢;refine Calls.callWith_builtin (by show(false || (backTo cpos (starEach es X.env)).any (·.1))=false;rw[hplain]<;>rfl) (Calls.evalArgs_plain ?_);exact thn hA fun us s2 ⟨vs,H2,I2,r2,q2⟩=>hm pins s2 σ H2 x vs v us Q I2 r1 r2 q2
end
def MtM(X:Cx)(id:String)(r:V->List V->Hp->VK->Prop):Prop :=
 ∀(pins:List (Addr×Obj))(s:Shared)(σ:St)(H:Hp)(x:V)(xs:List V)(v:Value)(us:List Value)(Q:VK),Inv X pins σ H s->RelV x v->Vals xs us->r x xs H Q ->
  wpAny (model X.prog X.w) X.A (call (.builtin id) (v::us)) (EP X pins σ Q) X.xe s
theorem Vals.one:∀{x:V}{us:List Value},Vals [x] us->∃u,us=[u]/\RelV x u
 |_,_,.cons r .nil=>⟨_,rfl,r⟩
theorem Vals.zero:∀{us:List Value},Vals [] us->us=[]
 |_,.nil=>rfl
theorem Vals.dropLast{us:List Value}(h:Vals xs us):Vals xs.dropLast us.dropLast:=by
 induction h with
 |nil=>exact .nil
 |cons r t ih =>
  cases t with
  |nil=>exact .nil
  |cons q t'=>exact .cons r ih
theorem Vals.reverse{us:List Value}(h:Vals xs us):Vals xs.reverse us.reverse:=by
 induction h with
 |nil=>exact .nil
 |cons r t ih=>rw[tj,tj];exact Vals.append ih (.cons r .nil)
theorem Vals.rep{xs:List V}{us:List Value}(h:Vals xs us):∀k:Nat,Vals (uP k xs).flatten (uP k us).flatten
 |0=>.nil
 |k+1=>by
  rw[UE,UE,tm,tm];exact Vals.append h (Vals.rep h k)
theorem Xh{α:Type}(l:List α):l.eraseIdx (l.length-1)=l.dropLast:=by
 induction l with
 |nil=>rfl
 |cons a r ih =>
  cases r with
  |nil=>rfl
  |cons b r =>
   have e:(a::b::r).length-1=((b::r).length-1)+1:=by
    have h1:(a::b::r).length=r.length+2:=rfl;have h2:(b::r).length=r.length+1:=rfl;lia
   rw[e,List.eraseIdx_cons_succ,ih]
   all_goals rfl
theorem jB(its:List Value):∀(k:Nat)(acc:List Value),
  List.foldl (fun x1 x2=>x1++x2) acc.toArray (uP k its.toArray)=(acc++(uP k its).flatten).toArray
 |0,acc=>by simp
 |k+1,acc=>by
  have e:acc.toArray++its.toArray=(acc++its).toArray:=by simp
  have e2:(acc++its)++(uP k its).flatten=acc++(uP (k+1) its).flatten:=by
   rw[UE,tm,UA]
  rw[<- e2,<- jB its k (acc++its),<- e,UE,UI]
section
variable{l:Addr}{ys zs:List V}
theorem Inv.lset{f:Array Value->Array Value}(I:Inv X pins σ H s)(hH:H l=some (.lst xs))
  (e:s.heap.get? l=some { cls:=.type "list",data:=.seq its.toArray n }) (hf:f its.toArray=its'.toArray) (hv:Vals ys its') (hz:ys.length<=sizeLine) :
  Inv X pins σ (upd H l (.lst ys)) { s with heap:=s.heap.update l (Obj.mapSeq f),toks:=t' }:=by
 have q:=PySem.IsL.update e f;rw[hf]at q;refine I.write (x:=l) (e:=l) (by rw[hH];exact trivial) (.inl rfl) (fun b' u hb hu=>(UD s.heap (Obj.mapSeq f) (Ne.symm hb)).trans hu) ⟨_,q⟩ ?_;exact⟨hz,its',_,hv,q⟩
theorem Inv.lnew(I:Inv X pins σ H s)(hv:Vals ys its)(hz:ys.length<=sizeLine):
  Inv X pins σ (upd H s.heap.objs.size (.lst ys)) { s with heap:=s.heap.push { cls:=.type "list",data:=.seq its.toArray },toks:=t' } :=
 I.laid (fun _ _ q=>uc _ q) (uj _) ⟨hz,its,0,hv,uv _ rfl⟩
theorem Inv.fresh(I:Inv X pins σ H s):H s.heap.objs.size=none:=I.hok.fresh (uj _)
theorem Inv.lstM(I:Inv X pins σ H s)(hH:H l=some (.lst xs)):xs.length<=sizeLine/\∃(its:List Value)(n:Nat),Vals xs its/\xs.length=its.length/\s.heap.get? l=some { cls:=.type "list",data:=.seq its.toArray n }:=by
 obtain⟨z,its,n,r,e⟩:=I.hok l _ hH;exact⟨z,its,n,r,r.length,e⟩
theorem VL(h:n<=sizeLine):Builtin.List.listTooLong n=false:=by
 unfold Builtin.List.listTooLong;exact decide_eq_false (by lia)
end
def Zg:V->List V->Hp->VK->Prop:=fun x vs H Q=>∃l xs y,x=.ref l/\vs=[y]/\H l=some (.lst xs)/\xs.length < sizeLine/\Q .non (upd H l (.lst (xs++[y])))
theorem WO:MtM X "list.append" Zg:=by
 intro pins s σ H x vs v us Q I rx rv h;obtain⟨l,xs,y,rfl,rfl,hH,hz,q⟩:=h;cases rx;obtain⟨u,rfl,ru⟩:=rv.one;obtain⟨z,its,n,r,hl,e⟩:=I.lstM hH;refine call_meets F.slot_list_append ⟨_,e,rfl⟩ F.entry_list_append (F.args_list_append_2 _ _) (PySem.list_append l its.toArray n u (by rw[ux];lia)) ⟨e,?_⟩;refine⟨.non,_,I.lset (its':=its++[u]) hH e (by simp) (r.append (.cons ru .nil)) ?_,rfl,q⟩;rw[uf,uO];lia
def rPop:V->List V->Hp->VK->Prop:=fun x vs H Q=>∃l xs y,x=.ref l/\vs=[]/\H l=some (.lst xs)/\xs[xs.length-1]?=some y/\Q y (upd H l (.lst xs.dropLast))
theorem zcx:MtM X "list.pop" rPop:=by
 intro pins s σ H x vs v us Q I rx rv h;obtain⟨l,xs,y,rfl,rfl,hH,hy,q⟩:=h;cases rx;have hus:=rv.zero;subst hus;obtain⟨z,its,n,r,hl,e⟩:=I.lstM hH;obtain⟨u,hu,ru⟩:=r.get hy;have hy':its.toArray[its.toArray.size-1]?=some u:=by
  show its.toArray[its.length-1]?=some u;rw[<- Array.getElem?_toList,<- hl];exact hu
 refine call_meets F.slot_list_pop ⟨_,e,rfl⟩ F.entry_list_pop (F.args_list_pop_1 _) (MeetsSeq.list_pop_last l its.toArray n u hy' (by rw[ux];lia)) ⟨e,?_⟩;refine⟨y,_,I.lset (its':=its.dropLast) hH e ?_ r.dropLast ?_,ru,q⟩
 ·show its.toArray.eraseIdxIfInBounds (its.toArray.size-1)=its.dropLast.toArray
  rw[ux,List.eraseIdxIfInBounds_toArray,Xh]
 ·rw[List.length_dropLast]
  lia
def Ye:V->List V->Hp->VK->Prop:=fun x vs H Q=>∃l xs,x=.ref l/\vs=[]/\H l=some (.lst xs)/\Q .non (upd H l (.lst xs.reverse))
theorem Xi:MtM X "list.reverse" Ye:=by
 intro pins s σ H x vs v us Q I rx rv h;obtain⟨l,xs,rfl,rfl,hH,q⟩:=h;cases rx;have hus:=rv.zero;subst hus;obtain⟨z,its,n,r,hl,e⟩:=I.lstM hH;refine call_meets F.slot_list_reverse ⟨_,e,rfl⟩ F.entry_list_reverse (F.args_list_reverse_1 _) (AutoSeq1.list_reverse_list_0 l its.toArray n (by rw[ux];lia)) ⟨e,?_⟩;refine⟨.non,_,I.lset (its':=its.reverse) hH e (by simp) r.reverse ?_,rfl,q⟩;rw[Uz];lia
def rCat:R2:=fun x y H Q=>∃l b xs zs,x=.ref l/\y=.ref b/\H l=some (.lst xs)/\H b=some (.lst zs)/\xs.length+zs.length<=sizeLine/\∀p,H p=none->Q (.ref p) (upd H p (.lst (xs++zs)))
theorem zcy:OpR X (binaryOp .Add) rCat:=by
 intro pins s σ H x y v u Q I rx ry h;obtain⟨l,b,xs,zs,rfl,rfl,hH,hB,hz,q⟩:=h;cases rx;cases ry;obtain⟨z,its,n,r,hl,e⟩:=I.lstM hH;obtain⟨z2,its2,n2,r2,hl2,e2⟩:=I.lstM hB;refine PySem.P.add_list e e2 ?_ (by rw[ux,ux];lia);have ea:its.toArray++its2.toArray=(its++its2).toArray:=by simp
 rw[ea];exact⟨.ref _,_,I.lnew (t':=s.toks) (r.append r2) (by rw[uf];lia),rfl,q _ I.fresh⟩
def rRep:R2:=fun x y H Q=>∃l k xs,x=.ref l/\y=.int k/\H l=some (.lst xs)/\-(2 ^ 63)<=k/\k < 2 ^ 63/\xs.length*k.toNat<=sizeLine /\
 ∀p,H p=none->Q (.ref p) (upd H p (.lst (uP k.toNat xs).flatten))
theorem QZ{α:Type}(xs:List α)(k:Nat):(uP k xs).flatten.length=k*xs.length:=by
 induction k with
 |zero=>simp
 |succ k ih=>rw[UE,tm,uf,ih,Nat.succ_mul,Nat.add_comm]
theorem zcz:OpR X (binaryOp .Mult) rRep:=by
 intro pins s σ H x y v u Q I rx ry h;obtain⟨l,k,xs,rfl,rfl,hH,h1,h2,hz,q⟩:=h;cases rx;obtain⟨t,rfl⟩:=ry;obtain⟨z,its,n,r,hl,e⟩:=I.lstM hH;have hlen:its.toArray.size*k.toNat<=sizeLine:=by rw[ux,<- hl];exact hz
 have hcap:¬ its.toArray.size*k.toNat > (2 ^ 63-1) / 8:=by
  have:(sizeLine:Nat)<=(2 ^ 63-1) / 8:=by decide
  lia
 have hfit:¬ (!Builtin.List.listFitsIndex k)=true:=by
  rw[fitsIndex_both h1 h2];exact uA
 have hlong:¬ Builtin.List.listTooLong (its.toArray.size*k.toNat)=true:=by
  rw[VL hlen];exact uA
 have hnew:List.foldl (fun x1 x2=>x1++x2) #[] (uP (if its.toArray.isEmpty=true then 0 else k.toNat) its.toArray)=(uP k.toNat its).flatten.toArray:=by
  have f0:∀m:Nat,List.foldl (fun x1 x2=>x1++x2) #[] (uP m its.toArray)=(uP m its).flatten.toArray:=fun m=>by
   have:=jB its m []
   rw[List.nil_append]at this;exact this
  rw[f0];cases its with
  |nil=>simp
  |cons a r'=>rw[if_neg (by simp)]
 refine wpAny_binaryOp_repeat_ref (T:="list") (U:="int") (by decide) ⟨_,e,rfl⟩ (fun s'=>typeIs_int s' k t) noFill_list_mul F.fills_int_mul F.slot_int_rmul repeat_list F.slot_int_index.lookup
  (call_meets F.slot_int_rmul (typeIs_int s k t) F.entry_int_rmul (F.args_int_rmul_2 _ _) (int___rmul___int_list k t l its.toArray n)
   ⟨e,rfl,⟨_,e,rfl⟩,call_meets F.slot_list_mul ⟨_,e,rfl⟩ F.entry_list_mul (F.args_list_mul_2 _ _) (AutoListH.list___mul___list_int_3 l its.toArray n k t hfit hcap hlong) ⟨e,?_⟩⟩)
 rw[hnew];exact⟨.ref _,_,I.lnew (t':=s.toks) (r.rep k.toNat) (by rw[QZ,Nat.mul_comm];exact hz),rfl,q _ I.fresh⟩
end L2
namespace Att
open PySem PySem.W PySem.Calls PyProof.Rows
variable{P:Params}
theorem vg:∀(ns:List Int)(vs:List Value),WellAll P h vs (ns.map WData.int)->IntsAre vs ns:=by
 intro ns
 induction ns with
 |nil =>
  intro vs w;rw[List.map_nil]at w;cases w;exact .nil
 |cons n ns ih =>
  intro vs w;rw[uC]at w;cases w with
  |cons a b =>
   cases a;exact .cons _ _ (ih _ b)
theorem WP{l:OpenLaw}(hn:l.most=some n){args:List WData}{vals:List Value}
  (hpre:l.row.toRowW.claim.pre args=true) (hwl:WellAll P h vals args) :
  ∃a vs ns,vals=[Value.ref a]/\args=[WData.list (ns.map WData.int)]/\h.get? a=some { cls:=.type "list",data:=.seq vs.toArray }/\IntsAre vs ns/\ns.length<=n:=by
 have hsh:WShape.hasAll [] args [.list .int]=true:=(pre_splitW hpre).1;have hc:l.pre.holds [] { args:=args }=true:=(pre_splitW hpre).2;obtain⟨d,r,rfl,h1,h2⟩:=hasAllW_cons hsh;obtain rfl:=hasAllW_nil h2;obtain⟨xs,rfl,h3⟩:=hasW_list h1;obtain⟨ns,rfl⟩:=items_int h3;have hlen:ns.length<=n:=by
  unfold OpenLaw.pre at hc;have h4:(WTm.not (.lt (.lit (.int (n:Int))) (.len (.arg 0)))).holds [] { args:=[.list (ns.map .int)] }=true:=by
   have h4:=(holds_andW hc).1;rw[hn]at h4;exact h4
  have h5:=condW_of h4 (w_not (w_lt w_lit (w_len_list (w_arg rfl))));rw[ua]at h5;refine Nat.le_of_not_lt fun q=>?_;have q':(n:Int) < ((ns.length:Nat):Int):=by lia
  first
   | (rw[decide_eq_true q']at h5;exact absurd h5 (by decide))
   | (simp at h5;lia)
 cases hwl with
 |cons w1 w2 =>
  cases w2;cases w1 with
  |list ho hall=>exact⟨_,_,ns,rfl,rfl,ho,vg ns _ hall,hlen⟩
theorem WQ(l:OpenLaw)(args:List WData):l.row.toRowW.claim.post args (.bool true) args=true :=
 postW_of (r:=l.row.toRowW) (X:=(true == true))
  (show WShape.has [] (.bool true) .bool=true by first|rfl|decide|simp[WShape.has,WShape.arms,WShape.armsAll])
  (show(WTm.eq .res (.lit (.bool true))).value [] { args:=args,res:=some (.bool true),after:=args }=some (.bool (true == true))from w_eq_bool (w_res rfl) w_lit) rfl
theorem attach_call{l:OpenLaw}{q:Program}{loose:lS}{YP:World->Heap->Prop}{d:DefRec}
  (hn:l.most=some n) (hdf:d.params.defaults=[])
  (call:∀(w:World)(s₀ s₁:Shared)(mg mb:Str->Option Value)(fa:Addr)(o:Obj)(pm cd doc:Value)(a:Addr)(vs:List Value)(ns:List Int),
   Ground q loose [] XP w s₀ mg mb s₁.heap->YP w s₁.heap ->
   s₁.heap.get? fa=some o->o.data=.func (docDef d.name d.params d.body d.scope pm cd doc)->s₁.heap.CodeRec cd d.name->mg d.name=some (.ref fa) ->
   s₁.heap.get? a=some { cls:=.type "list",data:=.seq vs.toArray }->IntsAre vs ns->ns.length<=n->s₁.gens=#[] ->
   codeAny (model l.prog w) callerA (.call (.ref fa) ⟨[.ref a],[]⟩) (fun r s'=>r=.ok (.ret (.bool true))/\OldK s₁.heap s'.heap/\s'.os=s₁.os/\AllBare s'.gens) s₁) :
  WalkO q loose XP YP l.row.toRowW d [] (fun f vs=>PySem.call f vs):=by
 intro w s₀ s₁ mg mb G Y fa o pm cd doc dV kV ho hd hcd hD hmg hg args vals as hpre hlay hrd hwl hlo;obtain rfl:dV=.none:=Dflts.none hD hdf;obtain rfl:kV=.none:=Dflts.noKw hD;obtain⟨a,vs,ns,rfl,rfl,hobj,hints,hlen⟩:=WP hn hpre hwl;refine enter_call (codeAny_mono (call w s₀ s₁ mg mb fa o pm cd doc a vs ns G Y ho (fd_plain hd) hcd hmg hobj hints hlen hg) fun r s' hq=>?_);obtain⟨rfl,h2,h3,h4⟩:=hq;exact⟨.inl ⟨.bool true,.bool true,[],rfl,fun _=>rfl,.bool true,WQ l _,fun _=>⟨List.Pairwise.nil,fun _ hm=>(nomatch hm)⟩⟩,h2,h3,h4⟩
section
variable{K:Frag}
def zd8(h:Heap)(L d:Addr):List (Addr×Obj):=(uK h.objs.size).filterMap fun a=>if a=L\/a=d then none else(h.get? a).map fun o=>(a,o)
end
end Att
namespace L2
open PySem PySem.Spec PyProof.Rows
theorem jC:∀{vs:List Value}{ns:List Int},IntsAre vs ns->Vals (ns.map V.int) vs
 |_,_,.nil=>.nil
 |_,_,.cons n t h=>.cons ⟨t,rfl⟩ (jC h)
end L2
/- THE LAST THEOREM (shape; LID, My.* are yours):
   My.Adr: a structure of the addresses that your layer names (classes,functions);My.Txt K t: a structure (Prop) of the equations over K;
   My.txt_mk:{K} {implicit addresses ..} (e1:nsIn K mainGlobals "law"=some (some (.ref f))) (e2:K.lookup f=some ⟨oc,od,.func (fnOf "law" "law" params body scope dV kV doc pm an cdv ct),sl⟩) (e3:codeIn K cdv "law"=true) ..:∃t,My.Txt K t
set_option maxRecDepth 100000 in
set_option maxHeartbeats 0 in
theorem PySem.Challenge.cw_LID_holds : PySem.Challenge.rw_LID.Holds := by
 w_on;o_law;k_head;(case hw=>w_witness2)
 k_fill
 refine L2.walk_of (l:=PySem.Challenge.rw_LID) (n:=63) (k:=40) (x:="script") (CX:=fun w=>..) (sp:=fun _=>My.sp_law) rfl (by decide) rfl ⟨rfl,by decide,by decide⟩ (fun w h Y=>PySem.W.kIn_of Y) ?F ?S ?C
 case F =>
  intro w mg fa h KX G hmg;have T:∃t,My.Txt (L2.KOf KX) t:=by
   dsimp only [L2.KOf]                          -- K must stand as «<heap const> w.params» for k_is
   refine' My.txt_mk ?e1 ?e2 ?e3 ..
   (case e1 => PySem.W.k_is)                    -- in the order: a name -> its address -> its object -> its parts
   (case e2=>PySem.W.k_is)
   ..
  obtain⟨t,T⟩:=T;have e0:=hmg.symm.trans (U7 KX G T.law);cases e0                                       -- fa is the law's own address;exact ⟨_, fun s u => .of_eq rfl, fun base kb nb => My.law_fn T kb nb⟩     -- if «.of_eq rfl» comes too early: refine' ⟨_, ?b, fun base kb nb => My.law_fn T kb nb⟩; exact fun s u => .of_eq rfl
 case S=>exact fun w H a ns hl hO hS=>..
 case C=>exact ..
(the tactic k_is has no namespace: write k_is) -/
namespace L2
open PySem PySem.Spec PyProof.Rows
def xR(s:Stmt)(j:Nat):Stmt:=match s with
 |.ClassDef _ _ _ body _ _ _ _ _ _ _=>body.getD j (.Pass ⟨0,0,0,0⟩)
 |_=>.Pass ⟨0,0,0,0⟩
def yk(s:Stmt):Arguments:=match s with
 |.FunctionDef _ a _ _ _ _ _ _ _ _=>a
 |_=>{ posonlyargs:=[],args:=[],vararg:=none,kwonlyargs:=[],kw_defaults:=[],kwarg:=none,defaults:=[] }
def zP(s:Stmt):List Stmt:=match s with
 |.FunctionDef _ _ b _ _ _ _ _ _ _=>b
 |_=>[]
def zp(s:Stmt):Scope:=match s with
 |.FunctionDef _ _ _ _ _ _ sc _ _ _=>sc
 |_=>{ kind:=.function,names:=[],isGenerator:=false,isCoroutine:=false }
abbrev CX0:CXT:=fun _ _ _ _ _ _=>False
abbrev E0:XK:=fun _ _ _=>False
theorem yJ:yU CX0 X E0:=fun _ _ _ _ _ _ _ h=>h.elim
structure Fun(K:ub)(x qual:Str)(st:Stmt)(f:Addr)(fd:FuncData):Prop where
 ex:∃(oc:Value)(od:Option Addr)(kV doc pm:Value)(an:Option Addr)(cdv ct:Value)(osl:Array (Option Value)),
  fd=Uh x qual (yk st) (zP st) (zp st) .none kV doc pm an cdv ct/\K.lookup f=some ⟨oc,od,.func fd,osl⟩/\UL K cdv qual=true
 kp:u4 K (.ref f)=true
theorem Fun.ok{k:Nat}(F:Fun K x qual st f fd)(S:FnScope N ps (zp st))(len:∀vs H Q E,sp vs H Q E->vs.length=ps.length)
  (hbody:∀(cdv:Value)(A:Around)(outer:List Env)(s:Shared)(H:Hp)(vs:List V)(Q:VK)(E:XK),Room k (A.deeper (envOfC qual (zp st) s.heap.objs.size f cdv))->sp vs H Q E ->
   ∃t,PSs (cxOf CX0 P w K mg base N qual (zp st) f cdv A outer s H E).nox (zP st) t/\t { nx:=fun _ H'=>Q .non H',rt:=Q } (xj N vs) H):FnOk P w K mg base CX0 (k+1) f fd ps sp:=by
 obtain⟨oc,od,kV,doc,pm,an,cdv,ct,osl,rfl,lk,hcd⟩:=F.ex;refine zbn lk hcd S len fun A outer s H vs Q E hr hsp=>?_;obtain⟨t,h,q⟩:=hbody cdv A outer s H vs Q E hr hsp;exact⟨t,h.nox,q⟩
theorem Fun.binds(F:Fun K x qual st f fd)
  (h:∀(kV doc pm:Value)(an:Option Addr)(cdv ct:Value)(us:List Value),us.length=ps.length->bindArgs (Uh x qual (yk st) (zP st) (zp st) .none kV doc pm an cdv ct) ⟨us,[]⟩=pure (ps.zip us)):Binds K fd ps []:=by
 obtain⟨oc,od,kV,doc,pm,an,cdv,ct,osl,rfl,lk,hcd⟩:=F.ex;exact .all (h kV doc pm an cdv ct)
theorem VM{kV:Value}(l:K.lookup f=some ⟨oc,od,.func (Uh x qual (yk st) (zP st) (zp st) .none kV doc pm an cdv ct),osl⟩)
  (c:UL K cdv qual=true) (k:u4 K (.ref f)=true):Fun K x qual st f (Uh x qual (yk st) (zP st) (zp st) .none kV doc pm an cdv ct):=⟨⟨oc,od,kV,doc,pm,an,cdv,ct,osl,rfl,l,c⟩,k⟩
theorem zbr{k:Nat}(hr:Room k A):A.units+1 < cLine:=uQ (Nat.add_le_add_left (by decide:1<=64) _) hr.units
theorem pv(i:Nat)(hN:X.N[i]?=some x:=by rfl)(hv:Vis X.env.scope x:=by first|exact Or.inl rfl|exact Or.inr (Or.inl rfl)|exact Or.inr (Or.inr rfl))(hd:(x == ("__debug__":Str))=false:=by decide)
  (hcd:(x == ("__classdict__":Str))=false:=by decide):PE X (.Name x pos) (tVar i):=zb1 hN hv hd hcd
theorem iteF{A B:Prop}(h:B):if false=true then A else B:=by
 rw[if_neg uA];exact h
theorem iteT{A B:Prop}(h:A):if true=true then A else B:=by
 rw[if_pos rfl];exact h
theorem ite2{c A B:Prop}[Decidable c](h1:c->A)(h2:¬ c->B):if c then A else B:=by
 by_cases h:c
 ·rw[if_pos h]
  exact h1 h
 ·rw[if_neg h]
  exact h2 h
def Same(H H':Hp):Prop:=∀b o,H b=some o->H' b=some o
theorem Same.refl(H:Hp):Same H H:=fun _ _ h=>h
theorem Same.trans(a:Same H H1)(b:Same H1 H2):Same H H2:=fun c o h=>b c o (a c o h)
theorem Same.free(e:Same H H'){l:Addr}(h:H' l=Option.none):H l=Option.none:=by
 cases q:H l with
 |none=>rfl
 |some o =>
  rw[e l o q]at h;cases h
theorem Same.seq(e:Same H H')(h:SqL K H a xs):SqL K H' a xs:=by
 rcases h with(h|⟨o,h⟩)|h
 ·exact .inl (.inl (e _ _ h))
 ·exact .inl (.inr ⟨o,e _ _ h⟩)
 ·exact .inr h
def AllIn(env:Env):List (Str×Addr)->Prop
 |[]=>True
 |p::r=>env.cells.lookup p.1=some p.2/\AllIn env r
theorem AllIn.get{env:Env}:∀{cl:List (Str×Addr)}{y:Str}{c:Addr},AllIn env cl->cl.lookup y=some c->env.cells.lookup y=some c
 |[],_,_,_,h=>by simp at h
 | (n,a)::r,y,c,⟨e,t⟩,h=>by
  rw[Ux]at h;by_cases q:y=n
  ·subst q
   rw[beq_self_eq_true]at h;cases h;exact e
  ·have q':(y == n)=false:=beq_eq_false_iff_ne.mpr q
   rw[q']at h;exact AllIn.get t h
def wq:List Nat->St->St
 |[],σ=>σ
 |i::S,σ=>wq S (σ.set i none)
theorem xS:∀(S:List Nat)(σ:St),(wq S σ).length=σ.length
 |[],_=>rfl
 |i::S,σ=>by rw[wq,xS S,List.length_set]
theorem jD:∀(S:List Nat)(σ:St){j:Nat}{v:V},(wq S σ)[j]?=some (some v)->σ[j]?=some (some v)/\j∉S
 |[],_,_,_,h=>⟨h,by simp⟩
 |i::S,σ,j,v,h=>by
  obtain⟨h1,h2⟩:=jD S (σ.set i none) h;rw[List.getElem?_set]at h1;by_cases e:i=j
  ·rw[if_pos e]at h1
   split at h1<;>cases h1
  ·rw[if_neg e]at h1
   exact⟨h1,fun z=>(uk.mp z).elim (fun z=>e z.symm) h2⟩
structure LcOk(X:Cx)(scope:Scope)(cl:List (Str×Addr))(S:List Nat):Prop where
 clos:closureFor scope X.env=pure cl
 kind:scope.kind=.function
 noC:scope.names.all (fun y=>y.2 != .cell)=true
 loc:scope.names.all (fun y=>y.2 != .local || scope.names.lookup y.1 == some .local)=true
 own:X.N.zipIdx.all (fun y=>S.contains y.2 || scope.names.lookup y.1 != some .local)=true
 sub:AllIn X.env cl
 has:scope.names.all (fun p=>p.2 != .free || ((cl.lookup p.1).isSome && (X.env.kindOf p.1 == some .cell || X.env.kindOf p.1 == some .free)))=true
section
variable{cl:List (Str×Addr)}
theorem LcOk.nocell(L:LcOk X scope cl S):∀y∈scope.names,y.2≠.cell:=fun y hy=>by
 have h:=Ui.mp L.noC y hy;exact bne_iff_ne.mp h
theorem LcOk.locs(L:LcOk X scope cl S):∀y∈scope.names,y.2=.local->scope.names.lookup y.1=some .local:=fun y hy e=>by
 have h:=Ui.mp L.loc y hy;rw[e]at h;simpa using h
theorem LcOk.apart(L:LcOk X scope cl S):∀(i:Nat)(y:Str),X.N[i]?=some y->i∉S->scope.names.lookup y≠some .local:=fun i y hy hi=>by
 have h:=Ui.mp L.own (y,i) (List.mem_zipIdx_iff_getElem?.mpr hy);have hc:S.contains i=false:=by simpa using hi
 rw[hc,tQ]at h;exact bne_iff_ne.mp h
theorem LcOk.free(L:LcOk X scope cl S)(h:scope.names.lookup y=some .free):(∃c,cl.lookup y=some c)/\(X.env.kindOf y=some .cell\/X.env.kindOf y=some .free):=by
 have h1:=Ui.mp L.has _ (uY h);simp only[bne_self_eq_false,tQ,uJ,U6,beq_iff_eq]at h1
 exact⟨tP.mp h1.1,h1.2⟩
theorem xc(names:List (Str×NameKind))(env:Env)(y:Str):
  (names.map fun(n,k)=>if(k == NameKind.free && env.scope.kind == .function && env.kindOf n == some .cell)then(n,NameKind.cell)else(n,k)).lookup y =
   (names.lookup y).map fun k=>if(k == NameKind.free && env.scope.kind == .function && env.kindOf y == some .cell)then NameKind.cell else k:=by
 induction names with
 |nil=>rfl
 |cons p r ih =>
  obtain⟨n,k⟩:=p;rw[uC];by_cases q:y=n
  ·subst q
   by_cases hc:(k == NameKind.free && env.scope.kind == .function && env.kindOf y == some .cell)=true
   ·show UV y ((if(k == NameKind.free && env.scope.kind == .function && env.kindOf y == some .cell)=true then(y,NameKind.cell)else(y,k))::_)=_
    rw[if_pos hc,Ux,Ux,beq_self_eq_true];show some NameKind.cell=some (if _ then _ else _);rw[if_pos hc]
   ·show UV y ((if(k == NameKind.free && env.scope.kind == .function && env.kindOf y == some .cell)=true then(y,NameKind.cell)else(y,k))::_)=_
    rw[if_neg hc,Ux,Ux,beq_self_eq_true];show some k=some (if _ then _ else _);rw[if_neg hc]
  ·have q':(y == n)=false:=beq_eq_false_iff_ne.mpr q
   by_cases hc:(k == NameKind.free && env.scope.kind == .function && env.kindOf n == some .cell)=true
   ·show UV y ((if(k == NameKind.free && env.scope.kind == .function && env.kindOf n == some .cell)=true then(n,NameKind.cell)else(n,k))::_)=_
    rw[if_pos hc,Ux,Ux,q'];exact ih
   ·show UV y ((if(k == NameKind.free && env.scope.kind == .function && env.kindOf n == some .cell)=true then(n,NameKind.cell)else(n,k))::_)=_
    rw[if_neg hc,Ux,Ux,q'];exact ih
theorem LcOk.kinds(L:LcOk X scope cl S)(h:(relabel scope X.env).names.lookup y=some .cell\/(relabel scope X.env).names.lookup y=some .free):scope.names.lookup y=some .free:=by
 have e:(relabel scope X.env).names.lookup y=(scope.names.lookup y).map fun k=>if(k == NameKind.free && X.env.scope.kind == .function && X.env.kindOf y == some .cell)then NameKind.cell else k:=xc scope.names X.env y
 rw[e]at h;cases q:scope.names.lookup y with
 |none=>rw[q]at h;rcases h with h|h<;>cases h
 |some k =>
  have hk:k≠.cell:=L.nocell _ (uY q);rw[q]at h;by_cases hf:k=.free
  ·rw[hf]
  ·have z:(k == NameKind.free)=false:=beq_eq_false_iff_ne.mpr hf
   rw[UY,z,Bool.false_and,Bool.false_and,if_neg uA]at h;rcases h with h|h
   ·exact absurd (uZ.inj h) hk
   ·exact absurd (uZ.inj h) hf
def cxLC(X:Cx)(scope:Scope)(cl:List (Str×Addr))(M:lS)(C:Addr)(s₀:Shared)(H₀:Hp)(ex:List Addr)(E:VSP):Cx where
 prog:=X.prog
 w:=X.w
 K:=X.K
 mg:=X.mg
 base:=X.base
 A:=X.A
 N:=X.N++M
 s₀:=s₀
 H₀:=H₀
 env:=compEnvC scope cl C X.env
 outer:=X.stack
 stack:=X.stack
 ex:=ex
 fn:=fun _=>false
 calm:=X.calm
 pn:=[]
 xe:=E
variable{ex:List Addr}{M:lS}
theorem VN{h1:Heap}{tk:Nat}{m:Str->Option Value}(I:Inv X pins σ H s)(L:LcOk X scope cl S)(hf:∀b∈ex,FpOk X pins H b)(hlt:∀b∈ex,b < s.heap.objs.size)
  (hk:∀b o,s.heap.get? b=some o->h1.get? b=some o) (hC:s.heap.objs.size<=C) (hns:h1.Ns C m) :
  Inv (cxLC X scope cl M C s H ex E) [] (wq S σ++uP M.length none) H { s with heap:=h1,toks:=tk }:=by
 refine⟨⟨I.ok.mod,L.kind,I.ok.glob,I.ok.blt,hC,fun x y c a b=>I.ok.inj x y c (L.sub.get a) (L.sub.get b),fun y hy=>(L.free (L.kinds hy)).1,(fun x c z=>nomatch z),I.ok.hd,I.ok.frames,.inl rfl,fun b hb=>⟨?_,fun x c e=>?_⟩,
   I.bs,uI I.ok.bsz I.sz,fun b o e hb=>?_,fun b hb z=>?_,I.stack,I.stkFree⟩,
  rfl,I.bare,Un.kept hk,⟨m,hns,fun i y v e1 e2 e3=>?_⟩,fun y c e=>?_,I.hok.fresh hC,fun y c e=>I.freeC y c (L.sub.get e),fun p hp=>absurd (show p∈([]:List (Addr×Obj))from hp) (by simp),I.hok.kept hk,?_⟩
 ·exact u7 (uH (hlt b hb) hC)
 ·exact(hf b hb).2.2.2.2.1 x c (L.sub.get e)
 ·rcases(hf b hb).2.2.2.1 with z|z
  ·exact I.ok.noex b o e z
  ·exact absurd (uH (uB e) (uI I.ok.bsz z)) (Uw _)
 ·rcases uk.mp (I.stkSub b z)with q|q
  ·exact(hf b hb).2.1 q
  ·exact(hf b hb).2.2.1 q
 ·have e1':(X.N++M)[i]?=some y:=e1
  by_cases hi:i < σ.length
  ·rw[Us (by rw[xS];exact hi)]at e2
   obtain⟨e2,hiS⟩:=jD S σ e2;rw[Us (by rw[<- I.len];exact hi)]at e1';obtain⟨m0,hn0,hl⟩:=I.loc;have hy:scope.names.lookup y=some .free:=by
    rcases e3 with e3|e3
    ·have q:=xc scope.names X.env y
     have e3':(relabel scope X.env).names.lookup y=some .local:=e3;cases z:scope.names.lookup y with
     |none =>
      rw[z]at q;have q':(relabel scope X.env).names.lookup y=none:=q;rw[e3']at q';cases q'
     |some k =>
      have hk1:k≠.local:=fun w=>L.apart i y e1' hiS (w ▸ z);rw[z,UY]at q;have q':some NameKind.local=some (if(k == NameKind.free && X.env.scope.kind == .function && X.env.kindOf y == some .cell)=true then NameKind.cell else k):=e3'.symm.trans q;have q2:=uZ.inj q';by_cases hc:(k == NameKind.free && X.env.scope.kind == .function && X.env.kindOf y == some .cell)=true
      ·rw[if_pos hc]at q2;cases q2
      ·rw[if_neg hc]at q2;exact absurd q2.symm hk1
    ·exact L.kinds e3
   obtain⟨⟨c,hc⟩,hk2⟩:=L.free hy;obtain⟨u,r,l⟩:=hl i y v e1' e2 (.inr hk2);refine⟨u,r,.inr ⟨?_,c,hc,?_⟩⟩
   ·have q:=xc scope.names X.env y
    rw[hy,UY]at q;have q':(relabel scope X.env).names.lookup y=some (if(NameKind.free == NameKind.free && X.env.scope.kind == .function && X.env.kindOf y == some .cell)=true then NameKind.cell else NameKind.free):=q;by_cases hc:(NameKind.free == NameKind.free && X.env.scope.kind == .function && X.env.kindOf y == some .cell)=true
    ·rw[if_pos hc]at q';exact .inl q'
    ·rw[if_neg hc]at q';exact .inr q'
   ·rcases l with⟨l1,_⟩|⟨_,c',e',z⟩
    ·rcases hk2 with w|w<;>(rw[l1]at w;cases w)
    ·have ec:c'=c:=by
      have w:=L.sub.get hc;rw[e']at w;exact uZ.inj w
     subst ec;obtain⟨o,ho,hd⟩:=z;exact⟨o,hk _ _ ho,hd⟩
  ·rw[UC (by rw[xS];exact Nat.not_lt.mp hi),List.getElem?_replicate]at e2
   split at e2<;>cases e2
 ·obtain⟨v,o,ho,hd⟩:=I.cell y c (L.sub.get e)
  exact⟨v,o,hk _ _ ho,hd⟩
 ·show(wq S σ++uP M.length none).length=(X.N++M).length
  rw[uf,uf,UG,xS,I.len]
def PTs(X:Cx)(ifs:List Expr)(t:TT):Prop :=
 ∀(pins:List (Addr×Obj))(s:Shared)(σ:St)(H:Hp)(Q:Bool->Hp->Prop),Inv X pins σ H s->t σ H Q ->
  wpAny (model X.prog X.w) X.A (forIn ifs true fun c r=>if r=true then do let ok <- isTrue c X.env (eval c X.env);pure (ForInStep.yield ok)else pure (ForInStep.yield r)) (TP X pins σ Q) X.xe s
def tYes:TT:=fun _ H Q=>Q true H
theorem Q0:PTs X [] tYes:=fun _ _ _ H _ I h=>wpAny_tests_nil ⟨H,I,h⟩
theorem Q3{c:Expr}{t:TT}(h:PT X c t):PTs X [c] t:=fun pins s σ H Q I q=>wpAny_tests_one (h pins s σ H Q I q)
def lcBy(J:It)(g:TG)(tt:TT)(te:TE)(Q:VK)(W:Nat->Nat->St->List V->Hp->Prop):Prop:=∀i m τ ys H,W i m τ ys H ->
 (J.stop i H/\∀p,H p=none->Q (.ref p) (upd H p (.lst ys))) \/
 (J.go i H/\∃N:St->List V->Hp->Prop,(∀τ' ys' H',N τ' ys' H'->∃m',m' < m/\W (i+1) m' τ' ys' H')/\∀x H',J.yld i H x H'->g x τ H' fun τ2 H2=>tt τ2 H2 fun b H3 =>
  if b=true then te τ2 H3 fun y H4=>ys.length < sizeLine/\N τ2 (ys++[y]) H4 else N τ2 ys H3)
def tLC(wi:TI)(g:TG)(tt:TT)(te:TE)(n:Nat):TE:=fun σ H Q=>wi σ H fun J H1=>∃W,(∃m,W 0 m (σ++uP n none) [] H1)/\lcBy J g tt te Q W
def tLCS(S:List Nat)(wi:TI)(g:TG)(tt:TT)(te:TE)(n:Nat):TE:=fun σ H Q=>wi σ H fun J H1=>∃W,(∃m,W 0 m (wq S σ++uP n none) [] H1)/\lcBy J g tt te Q W
theorem X1{J:It}{tn:Nat->Heap->Prop}{Q:VK}{R:Value->Addr->Result->Shared->Prop}{Al:Addr->(Value->Shared->Prop)->Prop}
  {W:Nat->Nat->St->List V->Hp->Prop} {m0:Nat} (L:LcOk X scope cl S) (hc:X.calm=true) (I:Inv X pins σ H s) (T:Turn X.prog X.w X.K tg J fp it tn) (st:tn 0 s.heap) (hf:∀b∈fp,FpOk X pins H b)
  (hg:∀C s H ex E,PG (cxLC X scope cl M C s H ex E) tg g) (ht:∀C s H ex E,PTs (cxLC X scope cl M C s H ex E) ifs tt) (he:∀C E,Al C E->PE (cxLC X scope cl M C s H fp E) elt te)
  (hal:∀C,s.heap.objs.size < C->Al C (notedBy (model X.prog X.w) X.A (compEnvC scope cl C X.env) (fun e s'=>R (.ref s.heap.objs.size) C (.error e) s')))
  (w0:W 0 m0 (wq S σ++uP M.length none) [] H) (turn:lcBy J g tt te Q W)
  (hR:∀D C s' H' ys m,Inv X pins σ (upd H' D (.lst ys)) s'->FpOk X pins (upd H' D (.lst ys)) C->s'.heap.Ns C m->Q (.ref D) (upd H' D (.lst ys))->R (.ref D) C (.ok .next) s') :
  wpAny (model X.prog X.w) X.A (newList []) (fun acc s₃=>wpAny (model X.prog X.w) X.A (newFunctionEnv scope X.env.globals cl [] X.env.qual none .none (some X.env)) (fun cenv s₄ =>
   codeAny (model X.prog X.w) X.A (.compStart (.ListComp elt [⟨tg,iter,ifs,0⟩] scope pos) 0 (.ref it) acc { cenv with scope:=relabel scope X.env }) (R acc cenv.locals) s₄) E s₃) E s:=by
 refine wpAny_newObj_type (wpAny_newFunctionEnv L.nocell (by intro y hy;simp at hy) (fun h₁ hns₁ hsb₁=>?_) L.kind);dsimp only at hns₁ hsb₁ ⊢
 generalize hG:s.heap.push { cls:=.type "list",dict:=none,data:=.seq ([]:List Value).toArray }=G at hns₁ hsb₁ ⊢;have hC:G.objs.size=s.heap.objs.size+1:=by rw[<- hG,Ug]
 have hDC:s.heap.objs.size≠G.objs.size:=by rw[hC];exact u7 (UW _)
 have hCle:s.heap.objs.size<=G.objs.size:=by rw[hC];exact Nat.le_succ _
 have old:∀b o,s.heap.get? b=some o->h₁.get? b=some o:=fun b o e =>
  hsb₁.extBut b o (by rw[hC];exact u7 (Nat.lt_succ_of_lt (uB e))) (uc _ (hG ▸ uc _ e))
 have hacc:h₁.get? s.heap.objs.size=some { cls:=.type "list",data:=.seq ([]:List Value).toArray }:=hsb₁.extBut _ _ hDC (uc _ (hG ▸ uv _ rfl));have fpo:∀b∈fp,b < s.heap.objs.size:=fun b hb=>let ⟨o,e,_⟩:=T.obj 0 _ st b hb;uB e
 have st1:tn 0 h₁:=T.keep 0 _ _ st fun b _ o e=>old b o e;have nofs:s.heap.objs.size∉frs X.stack:=fun z=>by
  rcases uk.mp (I.stkSub _ z)with q|q
  ·exact absurd (q ▸ I.lt) (Uw _)
  ·exact I.nofs (uj _) q
 have nocl:∀y c,cl.lookup y=some c->c≠s.heap.objs.size:=fun y c e z=>by
  obtain⟨v,o,ho,_⟩:=I.cell y c (L.sub.get e);exact absurd (z ▸ uB ho) (Uw _)
 have loop:∀s₃:Shared,s₃={ s with heap:=h₁,toks:=s.toks+([]:List (Str×Value)).length } ->
   codeAny (model X.prog X.w) X.A (.compLoop (.ListComp elt [⟨tg,iter,ifs,0⟩] scope pos) 0 (.ref it) (.ref s.heap.objs.size) (compEnvC scope cl G.objs.size X.env)) (R (.ref s.heap.objs.size) G.objs.size) s₃:=by
  rintro s₃ rfl;have hAl:=hal G.objs.size (by rw[hC];exact UW _);generalize hE:notedBy (model X.prog X.w) X.A (compEnvC scope cl G.objs.size X.env) (fun e s'=>R (.ref s.heap.objs.size) G.objs.size (.error e) s')=E' at hAl ⊢;have IY:Inv (cxLC X scope cl M G.objs.size s H fp E') [] (wq S σ++uP M.length none) H { s with heap:=h₁,toks:=s.toks+([]:List (Str×Value)).length }:=VN I L hf fpo old hCle hns₁;refine codeAny_loop rfl (fun n s'=>∃(i:Nat)(τ:St)(H':Hp)(ys:List V)(its:List Value)(k:Nat),Inv (cxLC X scope cl M G.objs.size s H fp E') [] τ H' s'/\tn i s'.heap/\(∀b∈fp,H' b=none) /\
   s'.heap.get? s.heap.objs.size=some { cls:=.type "list",data:=.seq its.toArray k }/\H' s.heap.objs.size=none/\Vals ys its/\ys.length<=sizeLine/\W i n τ ys H') (fun n s' hI=>?_) m0
   ⟨0,_,H,[],[],_,IY,st1,fun b hb=>(hf b hb).1,hacc,I.hok.fresh (uj _),.nil,uM _,w0⟩
  obtain⟨i,τ,H1,ys,its,k,I1,st1,fr1,eD,fD,rv,hz,w1⟩:=hI;show wpAny _ X.A ((compTurn (.ListComp elt [⟨tg,iter,ifs,0⟩] scope pos) 0 (.ref it) (.ref s.heap.objs.size) (compEnvC scope cl G.objs.size X.env)).onRaise (fun x=>do noteFrame x (compEnvC scope cl G.objs.size X.env);theTreesLotGoes x)) _ _ s';refine wpAny_noted ?_;rw[hE,compTurn_list];have I1':Inv (cxLC X scope cl M G.objs.size s H fp E') [(s.heap.objs.size,{ cls:=.type "list",data:=.seq its.toArray k })] τ H1 s':=I1.pins_of fun p hp=>by
   have e:p=(s.heap.objs.size,{ cls:=.type "list",data:=.seq its.toArray k }):=by simpa using hp
   subst e;exact⟨eD,fD,hDC,nofs,(fun v z=>nomatch z)⟩
  have stat:∀{H':Hp},(∀b∈fp,H' b=none)->∀b∈fp,FpOk (cxLC X scope cl M G.objs.size s H fp E') [(s.heap.objs.size,{ cls:=.type "list",data:=.seq its.toArray k })] H' b:=fun hn b hb=>by
   refine⟨hn b hb,?_,?_,.inl hb,fun x c e=>(hf b hb).2.2.2.2.1 x c (L.sub.get e),fun p hp z=>?_⟩
   ·exact u7 (uH (fpo b hb) hCle)
   ·intro z
    rcases uk.mp (I.stkSub b z)with q|q
    ·exact(hf b hb).2.1 q
    ·exact(hf b hb).2.2.1 q
   ·have e:p=(s.heap.objs.size,{ cls:=.type "list",data:=.seq its.toArray k }):=by
     have hp':p∈[(s.heap.objs.size,({ cls:=.type "list",data:=.seq its.toArray k }:Obj))]:=hp;simpa using hp'
    subst e;exact absurd (z ▸ fpo b hb) (Uw _)
  refine wpAny_bind (wpAny_standAt (wpAny_bind ?_));rcases turn i n τ ys H1 w1 with⟨stop,q⟩|⟨go,N,hN,step⟩
  ·refine thn (T.done (cxLC X scope cl M G.objs.size s H fp E') rfl rfl rfl hc i _ s' τ H1 E' I1' (stat fr1) st1 stop) fun r s4 hq_=>?_
   obtain⟨hr,I4⟩:=hq_;subst hr;refine wpAny_pure ?_;obtain⟨eD4,_,_⟩:=I4.pin (s.heap.objs.size,{ cls:=.type "list",data:=.seq its.toArray k }) (uE _ Uk);have base4:Un (frs X.stack) fp H H1 s.heap s4.heap:=I4.base;have un:Un (frs X.stack) fp H (upd H1 s.heap.objs.size (.lst ys)) s.heap s4.heap:=⟨base4.keep,base4.slot,fun b o e n hx=>by rw[zj (u7 (uB e))];exact base4.free b o e n hx,base4.there,
    fun b xs e=>by rw[zj (zi (base4.tups b xs e) fD)];exact base4.tups b xs e,fun b o u e=>by rw[zj (zi (base4.frzs b o u e) fD)];exact base4.frzs b o u e,
    fun b ps e=>by
     obtain⟨more,w⟩:=base4.tbls b ps e;exact⟨more,by rw[zj (zi w fD)];exact w⟩⟩
   have hok:HOk X.prog X.w (upd H1 s.heap.objs.size (.lst ys)) s4.heap:=fun b u e=>by
    by_cases hb:b=s.heap.objs.size
    ·subst hb
     rw[uX9]at e;cases e;exact⟨hz,its,k,rv,eD4⟩
    ·rw[zj hb]at e
     exact(I4.hok b u e).stay (fun c v _ q=>q) (fun c q=>by rw[zj (zi q fD)];exact q) fun c xs q=>by rw[zj (zi q fD)];exact q
   have IX:Inv X pins σ (upd H1 s.heap.objs.size (.lst ys)) s4:=I.call' I4.os un hok I4.bare fun b hb=>⟨(hf b hb).2.2.2.1,(hf b hb).2.1,(hf b hb).2.2.2.2.1,(hf b hb).2.2.2.2.2⟩;have fC:H1 G.objs.size=none:=I4.free;obtain⟨m4,n4,_⟩:=I4.loc;exact hR _ _ s4 H1 ys m4 IX (I.fpOk hCle (by rw[zj (Ne.symm hDC)];exact fC)) n4 (q _ fD)
  ·refine thn (T.item (cxLC X scope cl M G.objs.size s H fp E') rfl rfl rfl hc i _ s' τ H1 E' I1' (stat fr1) st1 go) fun r s4 hq_=>?_
   obtain⟨u,hr,h4⟩:=hq_;subst hr;refine wpAny_bind (thn h4 fun _ s5 hq_=>?_);obtain⟨x,H5,I5,r5,y5,st5,fr5⟩:=hq_;have I5':=I5.pinned (stat fr5) (T.obj _ _ st5);have kept:∀{τ6:St}{H6:Hp}{s6:Shared},Inv (cxLC X scope cl M G.objs.size s H fp E') ([(s.heap.objs.size,{ cls:=.type "list",data:=.seq its.toArray k })]++vC fp s5.heap) τ6 H6 s6 ->
     Inv (cxLC X scope cl M G.objs.size s H fp E') [] τ6 H6 s6/\tn (i+1) s6.heap/\(∀b∈fp,H6 b=none)/\s6.heap.get? s.heap.objs.size=some { cls:=.type "list",data:=.seq its.toArray k }/\H6 s.heap.objs.size=none:=fun{τ6 H6 s6} I6=>by
    have pin:∀b∈fp,∀o,s5.heap.get? b=some o->s6.heap.get? b=some o/\H6 b=none:=fun b hb o e =>
     let w:=I6.pin (b,o) (uE _ (uE _ (we hb e)))
     ⟨w.1,w.2.1⟩
    have pD:=I6.pin (s.heap.objs.size,{ cls:=.type "list",data:=.seq its.toArray k }) (uE _ (uU _ Uk));refine⟨I6.pins_of (fun p hp=>nomatch hp),T.keep _ _ _ st5 fun b hb o e=>(pin b hb o e).1,fun b hb=>?_,pD.1,pD.2.1⟩;obtain⟨o,e,_⟩:=T.obj _ _ st5 b hb;exact(pin b hb o e).2
   refine wpAny_bind (thn (hg _ _ _ _ _ _ s5 τ H5 x u _ I5' r5 (step x H5 y5)) fun _ s6 hq_=>?_);obtain⟨σ6,H6,I6,q6⟩:=hq_;refine wpAny_bind (thn (ht _ _ _ _ _ _ s6 σ6 H6 _ I6 q6) fun ok s7 hq_=>?_);obtain⟨H7,I7,q7⟩:=hq_;cases ok with
   |false =>
    have q7':N σ6 ys H7:=by simpa using q7
    obtain⟨m',hm,w7⟩:=hN _ _ _ q7';obtain⟨K1,K2,K3,K4,K5⟩:=kept I7;exact wpAny_pure ⟨rfl,m',hm,i+1,σ6,H7,ys,its,k,K1,K2,K3,K4,K5,rv,hz,w7⟩
   |true =>
    have q7':te σ6 H7 fun y H4=>ys.length < sizeLine/\N σ6 (ys++[y]) H4:=by simpa using q7
    refine wpAny_bind (wpAny_bind (thn (he _ _ hAl _ s7 σ6 H7 _ I7 q7') fun y s8 hq_=>?_));obtain⟨v8,H8,I8,r8,hz8,n8⟩:=hq_;obtain⟨m',hm,w8⟩:=hN _ _ _ n8;obtain⟨K1,K2,K3,K4,K5⟩:=kept I8;have hl:=rv.length;refine wpAny_bind (wpAny_list_append_plain (hsz:=by rw[ux];lia) ⟨k,K4⟩ fun h9 hl9 hs9=>wpAny_pure (wpAny_pure ⟨rfl,m',hm,?_⟩));obtain⟨k9,e9⟩:=hl9;have I9:Inv (cxLC X scope cl M G.objs.size s H fp E') [] σ6 H8 { s8 with heap:=h9 }:=K1.turned (t':=s8.toks) (it:=s.heap.objs.size) (fun b o hb e=>(hs9.2 b hb).trans e) K5 hDC (.inr (uj _))
     (fun y c e=>nocl y c e) fun p hp=>nomatch hp
    refine⟨i+1,σ6,H8,ys++[v8],its++[y],k9,I9,T.keep _ _ _ K2 fun b hb o e=>(hs9.2 b (u7 (fpo b hb))).trans e,K3,?_,K5,rv.append (.cons r8 .nil),?_,w8⟩
    ·rw[e9]
     simp
    ·rw[uf,uO]
     lia
 exact codeAny_compStart_list (loop _ rfl) (T.self X.A 0 _ _ _ st1 (loop _ rfl))
variable{wi:TI}
theorem zbs(L:LcOk X scope cl S)(hc:X.calm=true)(hi:PI X tg iter wi)(hg:∀C s H ex E,PG (cxLC X scope cl M C s H ex E) tg g)(ht:∀C s H ex E,PTs (cxLC X scope cl M C s H ex E) ifs tt)(he:∀C s H ex E,PE (cxLC X scope cl M C s H ex E) elt te)
  (hs:∀x,foldedSetIterable iter X.env x=pure x:=by intro _;rfl):PE X (.ListComp elt [⟨tg,iter,ifs,0⟩] scope pos) (tLCS S wi g tt te M.length):=by
 intro pins s σ H Q I h;rw[eval_ListComp];refine wpAny_comprehension_free (use:=none) rfl hs L.clos L.kind L.locs (thn (hi pins s σ H _ I h) fun v s1 h1=>thn h1 fun itv s2 h2=>?_);obtain⟨it,fp,tn,J,H2,rfl,I2,T,st2,f2,W,⟨m0,w0⟩,turn⟩:=h2;refine X1 (R:=fun acc C=>compPost (model X.prog X.w) X.A X.xe none (EP X pins σ Q) acc C) (Al:=fun _ _=>True) L hc I2 T st2 f2 hg ht (fun C E _=>he C _ _ _ E) (fun _ _=>trivial) w0 turn ?_;intro D C s' H' ys m IX fC ns q;exact⟨m,ns,fun h' sb=>⟨.ref D,_,IX.turned (t':=s'.toks) (fun b o hb e=>(sb.2 b hb).trans e) fC.1 fC.2.1 fC.2.2.2.1 fC.2.2.2.2.1 fC.2.2.2.2.2,rfl,q⟩⟩
theorem jF(hN:X.N.Nodup)(hi':X.N[i]?=some y)(hy:Loc X.env.scope y)(L:LcOk X scope cl S)(hc:X.calm=true)(hi:PI X tg iter wi)(hg:∀C s H ex E,PG (cxLC X scope cl M C s H ex E) tg g)
  (ht:∀C s H ex E,PTs (cxLC X scope cl M C s H ex E) ifs tt) (he:∀C s H ex E,PE (cxLC X scope cl M C s H ex E) elt te) (hs:∀x,foldedSetIterable iter X.env x=pure x:=by intro _;rfl)
  (hsw:swapsWith (.ListComp elt [⟨tg,iter,ifs,0⟩] scope pos) (some (.Name y py)) spos.line X.env=pure true:=by rfl)
  (hf:X.fn y=true\/X.env.scope.names.lookup y=some .local:=by first|exact .inl rfl|exact .inr rfl|assumption) :
  PS X (.Assign [.Name y py] (.ListComp elt [⟨tg,iter,ifs,0⟩] scope pos) spos) (fun D σ H=>tLCS S wi g tt te M.length σ H fun v H1=>D.nx (σ.set i (some v)) H1):=by
 intro pins s σ H D I h;rw[exec_Assign_Name_used _ _ _ _ hsw];refine wpAny_bind (wpAny_standAt (wpAny_bind ?_));show wpAny _ X.A (do let _ <- comprehension (.ListComp elt [⟨tg,iter,ifs,0⟩] scope pos) scope X.env _ (newList []) false (eval iter X.env) (some (assign (.Name y py) X.env))) _ _ s;refine wpAny_bind (wpAny_mono (wpAny_comprehension_free (use:=some (assign (.Name y py) X.env)) (Q:=fun _ s'=>SP X pins D .next s') rfl hs L.clos L.kind L.locs
  (thn (hi pins s σ H _ I h) fun v s1 h1=>thn h1 fun itv s2 h2=>?_)) (fun _ s' hq=>wpAny_pure (wpAny_pure hq)) fun _ _ e=>e)
 obtain⟨it,fp,tn,J,H2,rfl,I2,T,st2,f2,W,⟨m0,w0⟩,turn⟩:=h2;refine X1 (R:=fun acc C=>compPost (model X.prog X.w) X.A X.xe (some (assign (.Name y py) X.env)) (fun _ s'=>SP X pins D .next s') acc C) (Al:=fun _ _=>True) L hc I2 T st2 f2 hg ht (fun C E _=>he C _ _ _ E) (fun _ _=>trivial) w0 turn ?_;intro D' C s' H' ys m IX fC ns q;show wpAny _ X.A (assign (.Name y py) X.env (.ref D')) _ _ s';refine wpAny_assign_Name (jq IX hN hi' hy (v:=.ref D') rfl (fun s'' I'' ⟨a,sb,ha⟩=>?_) hf);refine⟨m,ns.sameBut sb ?_,fun h' sb'=>⟨_,_,I''.turned (t':=s''.toks) (fun b o hb e=>(sb'.2 b hb).trans e) fC.1 fC.2.1 fC.2.2.2.1 fC.2.2.2.2.1 fC.2.2.2.2.2,q⟩⟩;rcases ha with ha|ha
 ·rw[ha];exact fC.2.1
 ·exact Ne.symm (fC.2.2.2.2.1 y a ha)
end
def clOf(scope:Scope)(env:Env):List (Str×Addr):=scope.names.foldl (fun cs p=>if p.2 == .free then(match env.cells.lookup p.1 with|some a=>(p.1,a)::cs|none=>cs)else cs) []
theorem X2(env:Env):∀(names:List (Str×NameKind))(acc:List (Str×Addr)),AllIn env acc->AllIn env (names.foldl (fun cs p=>if p.2 == .free then(match env.cells.lookup p.1 with|some a=>(p.1,a)::cs|none=>cs)else cs) acc)
 |[],_,h=>h
 | (n,k)::r,acc,h=>by
  rw[UI];refine X2 env r _ ?_;by_cases hk:(k == NameKind.free)=true
  ·rw[if_pos hk]
   cases e:env.cells.lookup n with
   |none=>exact h
   |some a=>exact⟨e,h⟩
  ·rw[if_neg hk]
   exact h
section
variable{M:lS}{wi:TI}
theorem VO(h1:closureFor scope X.env=pure (clOf scope X.env))(h2:scope.kind=.function)(h3:scope.names.all (fun y=>y.2 != .cell)=true)(h4:scope.names.all (fun y=>y.2 != .local || scope.names.lookup y.1 == some .local)=true)
  (h5:X.N.zipIdx.all (fun y=>S.contains y.2 || scope.names.lookup y.1 != some .local)=true) (h6:scope.names.all (fun p=>p.2 != .free || (((clOf scope X.env).lookup p.1).isSome && (X.env.kindOf p.1 == some .cell || X.env.kindOf p.1 == some .free)))=true) :
  LcOk X scope (clOf scope X.env) S:=⟨h1,h2,h3,h4,h5,X2 X.env scope.names [] trivial,h6⟩
theorem lcOk(h1:closureFor scope X.env=pure (clOf scope X.env))(h2:scope.kind=.function)(h3:scope.names.all (fun y=>y.2 != .cell)=true)(h4:scope.names.all (fun y=>y.2 != .local || scope.names.lookup y.1 == some .local)=true)
  (h5:X.N.all (fun y=>scope.names.lookup y != some .local)=true) (h6:scope.names.all (fun p=>p.2 != .free || (((clOf scope X.env).lookup p.1).isSome && (X.env.kindOf p.1 == some .cell || X.env.kindOf p.1 == some .free)))=true) :
  LcOk X scope (clOf scope X.env) []:=VO h1 h2 h3 h4 (Ui.mpr fun y hy=>by
   have hm:y.1∈X.N:=uw (List.mem_zipIdx_iff_getElem?.mp hy);rw[Ui.mp h5 y.1 hm,Bool.or_true]) h6
theorem Q4(M:lS)(hc:X.calm=true)(hi:PI X tg iter wi)(hg:∀C s H ex E,PG (cxLC X scope (clOf scope X.env) M C s H ex E) tg g)(ht:∀C s H ex E,PTs (cxLC X scope (clOf scope X.env) M C s H ex E) ifs tt)
  (he:∀C s H ex E,PE (cxLC X scope (clOf scope X.env) M C s H ex E) elt te) (hs:∀x,foldedSetIterable iter X.env x=pure x:=by intro _;rfl)
  (h1:closureFor scope X.env=pure (clOf scope X.env):=by with_unfolding_all rfl) (h2:scope.kind=.function:=by rfl) (h3:scope.names.all (fun y=>y.2 != .cell)=true:=by rfl) (h4:scope.names.all (fun y=>y.2 != .local || scope.names.lookup y.1 == some .local)=true:=by rfl)
  (h5:X.N.all (fun y=>scope.names.lookup y != some .local)=true:=by rfl) (h6:scope.names.all (fun p=>p.2 != .free || (((clOf scope X.env).lookup p.1).isSome && (X.env.kindOf p.1 == some .cell || X.env.kindOf p.1 == some .free)))=true:=by rfl) :
  PE X (.ListComp elt [⟨tg,iter,ifs,0⟩] scope pos) (tLC wi g tt te M.length):=zbs (lcOk h1 h2 h3 h4 h5 h6) hc hi hg ht he hs
theorem Q5(M:lS)(hN:X.N.Nodup)(hi':X.N[i]?=some y)(hy:Loc X.env.scope y)(hc:X.calm=true)(hi:PI X tg iter wi)(hg:∀C s H ex E,PG (cxLC X scope (clOf scope X.env) M C s H ex E) tg g)
  (ht:∀C s H ex E,PTs (cxLC X scope (clOf scope X.env) M C s H ex E) ifs tt) (he:∀C s H ex E,PE (cxLC X scope (clOf scope X.env) M C s H ex E) elt te) (hs:∀x,foldedSetIterable iter X.env x=pure x:=by intro _;rfl)
  (hsw:swapsWith (.ListComp elt [⟨tg,iter,ifs,0⟩] scope pos) (some (.Name y py)) spos.line X.env=pure true:=by rfl)
  (hf:X.fn y=true\/X.env.scope.names.lookup y=some .local:=by first|exact .inl rfl|exact .inr rfl|assumption)
  (h1:closureFor scope X.env=pure (clOf scope X.env):=by with_unfolding_all rfl) (h2:scope.kind=.function:=by rfl) (h3:scope.names.all (fun y=>y.2 != .cell)=true:=by rfl) (h4:scope.names.all (fun y=>y.2 != .local || scope.names.lookup y.1 == some .local)=true:=by rfl)
  (h5:X.N.all (fun y=>scope.names.lookup y != some .local)=true:=by rfl) (h6:scope.names.all (fun p=>p.2 != .free || (((clOf scope X.env).lookup p.1).isSome && (X.env.kindOf p.1 == some .cell || X.env.kindOf p.1 == some .free)))=true:=by rfl) :
  PS X (.Assign [.Name y py] (.ListComp elt [⟨tg,iter,ifs,0⟩] scope pos) spos) (fun D σ H=>tLC wi g tt te M.length σ H fun v H1=>D.nx (σ.set i (some v)) H1):=jF hN hi' hy (lcOk h1 h2 h3 h4 h5 h6) hc hi hg ht he hs hsw hf
theorem VP(S:List Nat)(M:lS)(hc:X.calm=true)(hi:PI X tg iter wi)(hg:∀C s H ex E,PG (cxLC X scope (clOf scope X.env) M C s H ex E) tg g)(ht:∀C s H ex E,PTs (cxLC X scope (clOf scope X.env) M C s H ex E) ifs tt)
  (he:∀C s H ex E,PE (cxLC X scope (clOf scope X.env) M C s H ex E) elt te) (hs:∀x,foldedSetIterable iter X.env x=pure x:=by intro _;rfl)
  (h1:closureFor scope X.env=pure (clOf scope X.env):=by with_unfolding_all rfl) (h2:scope.kind=.function:=by rfl) (h3:scope.names.all (fun y=>y.2 != .cell)=true:=by rfl) (h4:scope.names.all (fun y=>y.2 != .local || scope.names.lookup y.1 == some .local)=true:=by rfl)
  (h5:X.N.zipIdx.all (fun y=>S.contains y.2 || scope.names.lookup y.1 != some .local)=true:=by rfl) (h6:scope.names.all (fun p=>p.2 != .free || (((clOf scope X.env).lookup p.1).isSome && (X.env.kindOf p.1 == some .cell || X.env.kindOf p.1 == some .free)))=true:=by rfl) :
  PE X (.ListComp elt [⟨tg,iter,ifs,0⟩] scope pos) (tLCS S wi g tt te M.length):=zbs (VO h1 h2 h3 h4 h5 h6) hc hi hg ht he hs
theorem VQ(S:List Nat)(M:lS)(hN:X.N.Nodup)(hi':X.N[i]?=some y)(hy:Loc X.env.scope y)(hc:X.calm=true)(hi:PI X tg iter wi)(hg:∀C s H ex E,PG (cxLC X scope (clOf scope X.env) M C s H ex E) tg g)
  (ht:∀C s H ex E,PTs (cxLC X scope (clOf scope X.env) M C s H ex E) ifs tt) (he:∀C s H ex E,PE (cxLC X scope (clOf scope X.env) M C s H ex E) elt te) (hs:∀x,foldedSetIterable iter X.env x=pure x:=by intro _;rfl)
  (hsw:swapsWith (.ListComp elt [⟨tg,iter,ifs,0⟩] scope pos) (some (.Name y py)) spos.line X.env=pure true:=by rfl)
  (hf:X.fn y=true\/X.env.scope.names.lookup y=some .local:=by first|exact .inl rfl|exact .inr rfl|assumption)
  (h1:closureFor scope X.env=pure (clOf scope X.env):=by with_unfolding_all rfl) (h2:scope.kind=.function:=by rfl) (h3:scope.names.all (fun y=>y.2 != .cell)=true:=by rfl) (h4:scope.names.all (fun y=>y.2 != .local || scope.names.lookup y.1 == some .local)=true:=by rfl)
  (h5:X.N.zipIdx.all (fun y=>S.contains y.2 || scope.names.lookup y.1 != some .local)=true:=by rfl) (h6:scope.names.all (fun p=>p.2 != .free || (((clOf scope X.env).lookup p.1).isSome && (X.env.kindOf p.1 == some .cell || X.env.kindOf p.1 == some .free)))=true:=by rfl) :
  PS X (.Assign [.Name y py] (.ListComp elt [⟨tg,iter,ifs,0⟩] scope pos) spos) (fun D σ H=>tLCS S wi g tt te M.length σ H fun v H1=>D.nx (σ.set i (some v)) H1):=jF hN hi' hy (VO h1 h2 h3 h4 h5 h6) hc hi hg ht he hs hsw hf
end
section
variable{Q:VK}
theorem ym(Pv:Nat->St->List V->Hp->Prop)(h0:Pv 0 σ [] H)(hl:∀i τ ys H,i<=xs.length->Pv i τ ys H->SqL K H a xs)
  (hs:∀i x τ ys H,xs[i]?=some x->Pv i τ ys H->g x τ H fun τ2 H2=>tt τ2 H2 fun b H3=>if b=true then te τ2 H3 fun y H4=>ys.length < sizeLine/\Pv (i+1) τ2 (ys++[y]) H4 else Pv (i+1) τ2 ys H3)
  (hd:∀τ ys H,Pv xs.length τ ys H->∀p,H p=none->Q (.ref p) (upd H p (.lst ys))):∃W,(∃m,W 0 m σ [] H)/\lcBy (Itl K a) g tt te Q W:=by
 refine⟨fun i m τ ys H=>m=xs.length-i/\i<=xs.length/\Pv i τ ys H,⟨xs.length,by simp,uM _,h0⟩,?_⟩;rintro i m τ ys H ⟨rfl,hi,p⟩;have q:=hl i τ ys H hi p;by_cases hlt:i < xs.length
 ·refine .inr ⟨⟨xs,xs[i],q,by simp[hlt]⟩,Pv (i+1),fun τ' ys' H' p'=>⟨xs.length-(i+1),by lia,rfl,hlt,p'⟩,fun x H' y=>?_⟩
  obtain⟨e,y⟩:=y;subst e;exact hs i x τ ys _ (y xs q) p
 ·have e:i=xs.length:=by lia
  subst e;exact .inl ⟨⟨xs,q,uj _⟩,hd τ ys H p⟩
theorem xf{lo:Int}(Pv:Nat->St->List V->Hp->Prop)(h0:Pv 0 σ [] H)
  (hs:∀i τ ys H,i < n->Pv i τ ys H->g (.int (lo+i)) τ H fun τ2 H2=>tt τ2 H2 fun b H3=>if b=true then te τ2 H3 fun y H4=>ys.length < sizeLine/\Pv (i+1) τ2 (ys++[y]) H4 else Pv (i+1) τ2 ys H3)
  (hd:∀τ ys H,Pv n τ ys H->∀p,H p=none->Q (.ref p) (upd H p (.lst ys))):∃W,(∃m,W 0 m σ [] H)/\lcBy (Itr lo n) g tt te Q W:=by
 refine⟨fun i m τ ys H=>m=n-i/\i<=n/\Pv i τ ys H,⟨n,by simp,uM _,h0⟩,?_⟩;rintro i m τ ys H ⟨rfl,hi,p⟩;by_cases hlt:i < n
 ·refine .inr ⟨hlt,Pv (i+1),fun τ' ys' H' p'=>⟨n-(i+1),by lia,rfl,hlt,p'⟩,fun x H' y=>?_⟩
  obtain⟨e,y⟩:=y;subst e y;exact hs i τ ys _ hlt p
 ·have e:i=n:=by lia
  subst e;exact .inl ⟨uj _,hd τ ys H p⟩
end
end L2
namespace L2
open PySem PySem.Spec PyProof.Rows Builtin Builtin.Str
theorem Xj:OpR X (binaryOp .Mult) (fun x y H Q=>∃z n,x=.str z/\y=.int n/\MulOk z n/\Q (.str (Txt.mul z n)) H):=by
 intro pins s σ H x y v u Q I rx ry h;obtain⟨z,n,rfl,rfl,ok,q⟩:=h;obtain⟨t,rfl⟩:=rx;obtain⟨t',rfl⟩:=ry;exact SB.mul ok fun t'' k=>⟨.str (Txt.mul z n),H,I.tok k,⟨t'',rfl⟩,q⟩
end L2
namespace L2
open PySem PySem.Spec PyProof.Rows
variable{T:String}
def zy:Expr->Bool
 |.Starred ..=>true
 |_=>false
theorem zG(h:zy e=false):starEach (e::es) env=(false,eval e env)::starEach es env:=by
 cases e<;>first
  |rfl
  |exact absurd (show true=false from h) (by decide)
theorem yF{env:Env}{pos:Pos}:∀{es:List Expr},es.all (fun e=>!zy e)=true->(backTo pos (starEach es env)).any (·.1)=false
 |[],_=>rfl
 |e::es,h=>by
  rw[List.all_cons,uJ]at h;have h1:zy e=false:=by simpa using h.1
  rw[zG h1];show(false || (backTo pos (starEach es env)).any (·.1))=false;rw[yF h.2]
  rfl
section
variable{k:Nat}{dvs:List V}{E:XK}{m:Str}{p:Pos}{t:TA}{r:List V->Hp->VK->Prop}
theorem pa_c(ha:PE X e te)(hr:PA X es t)(h:zy e=false:=by rfl):PA X (e::es) (yh te t):=QQ ha hr (zG h)
theorem zdR(F:FnOk X.prog X.w X.K X.mg X.base CX k f fd ps sp)(hr:Room k X.A)(hg:Gl X x)(hm:X.mg x=some (.ref f))(hk:u4 X.K (.ref f)=true)(hb:Binds X.K fd ps ds)(hd:Vals dvs ds)(hx:yU CX X E)
  (ha:PA X (e::es) t) (hdb:(x == ("__debug__":Str))=false:=by decide) (h1:zy e=false:=by rfl) (h2:es.all (fun e=>!zy e)=true:=by rfl) :
  PE X (.Call (.Name x p) (e::es) [] pos) (Yc sp dvs E t):=QR F hr hg hm hk hb hd hx ha hdb (zG h1) (yF h2)
theorem zcA(hc:xH X (.builtin id) r)(hg:Gl X x)(hm:X.mg x=none)(hv:bootBuiltins x=some (.builtin id))(ha:PA X (e::es) t)(hn:x≠"__name__":=by decide)(hdb:(x == ("__debug__":Str))=false:=by decide)
  (h1:zy e=false:=by rfl) (h2:es.all (fun e=>!zy e)=true:=by rfl):PE X (.Call (.Name x p) (e::es) [] pos) (tCB r t):=VD hc hg hm hv ha hn hdb (zG h1) (yF h2)
theorem Q6(hc:xH X (.type T) r)(hg:Gl X x)(hm:X.mg x=none)(hv:bootBuiltins x=some (.type T))(ha:PA X (e::es) t)(hn:x≠"__name__":=by decide)(hdb:(x == ("__debug__":Str))=false:=by decide)
  (h1:zy e=false:=by rfl) (h2:es.all (fun e=>!zy e)=true:=by rfl):PE X (.Call (.Name x p) (e::es) [] pos) (tCB r t):=WM hc hg hm hv ha hn hdb (zG h1) (yF h2)
end
structure jE(X:Cx)(e:Expr)(t:TE):Prop where
 out:PE X e t
structure jT(X:Cx)(e:Expr)(t:TT):Prop where
 out:PT X e t
structure jW(X:Cx)(e:Expr)(t:TT):Prop where
 out:PW X e t
structure jA(X:Cx)(es:List Expr)(t:TA):Prop where
 out:PA X es t
structure jS(X:Cx)(st:Stmt)(t:TS):Prop where
 out:PS X st t
structure jSs(X:Cx)(sts:List Stmt)(t:TS):Prop where
 out:PSs X sts t
structure jG(X:Cx)(tg:Expr)(t:TG):Prop where
 out:PG X tg t
structure jGs(X:Cx)(tg:List Expr)(t:TGs):Prop where
 out:PGs X tg t
structure jI(X:Cx)(tg iter:Expr)(t:TI):Prop where
 out:PI X tg iter t
structure jO(X:Cx)(e:Option Expr)(t:TO):Prop where
 out:PO X e t
structure jTs(X:Cx)(ifs:List Expr)(t:TT):Prop where
 out:PTs X ifs t
structure jOp(X:Cx)(f:Value->Value->Sem Value)(r:R2):Prop where
 out:OpR X f r
structure jIx(X:Cx)(r:R2):Prop where
 out:IxR X r
structure jSl(X:Cx)(r:V->Option Int->Option Int->Hp->VK->Prop):Prop where
 out:SlR X r
structure jMt(X:Cx)(id:String)(r:V->List V->Hp->VK->Prop):Prop where
 out:MtR X id r
structure jCa(X:Cx)(f:Value)(r:List V->Hp->VK->Prop):Prop where
 out:xH X f r
section
variable{a b c:Expr}{rest:List Expr}{tc:TE}{t u:TA}{tA tB':TT}{p px:Pos}{m:Str}{op':CmpOp}{bop:Operator}{r r':R2}
theorem jv(i:Nat)(hN:X.N[i]?=some x:=by rfl)(hv:Vis X.env.scope x:=by first|exact Or.inl rfl|exact Or.inr (Or.inl rfl)|exact Or.inr (Or.inr rfl))(hd:(x == ("__debug__":Str))=false:=by decide)
  (hcd:(x == ("__classdict__":Str))=false:=by decide):jE X (.Name x pos) (tVar i):=⟨pv i hN hv hd hcd⟩
theorem zt{i j}:jE X (.Constant (.int i) j pos) (tC (.int i)):=⟨zb2⟩
theorem xk{b j}:jE X (.Constant (.bool b) j pos) (tC (.bl b)):=⟨zdE⟩
theorem zw{x j}:jE X (.Constant (.str x) j pos) (tC (.str x)):=⟨zb3⟩
theorem Q7{v:V}{w:Value}(hg:Gl X x)(hm:X.mg x=some w)(r:RelV v w)(hd:(x == ("__debug__":Str))=false:=by decide):jE X (.Name x pos) (tC v):=⟨QD hg hm r hd⟩
theorem zA(ho:jOp X (binaryOp bop) r)(ha:jE X a ta)(hb:jE X b tb):jE X (.BinOp a bop b pos) (tOp r ta tb):=⟨zdH ho.out ha.out hb.out⟩
theorem wg(ha:jE X a ta):jE X (.UnaryOp .USub a pos) (tUn (rU fun i=>.int (-i)) ta):=⟨zbk zcl ha.out⟩
theorem yO(ho:jOp X (compareOp op) r)(ha:jE X a ta)(hb:jE X b tb)(hm:behindInMarks op b=false):jE X (.Compare a [op] [b] pos) (tOp r ta tb):=⟨QL ho.out ha.out hb.out hm⟩
theorem Zh(ho:jOp X (compareOp op) r)(ha:jE X a ta)(hb:jE X b tb)(hm:behindInMarks op b=false):jT X (.Compare a [op] [b] pos) (vE (tOp r ta tb)):=⟨QM ho.out ha.out hb.out hm⟩
theorem yr(h:jE X e te)(he:∀whole,isTrue e X.env whole=(do let v <- whole;standAt e.pos;holding [v] (truthy v)):=by intro _;rfl):jT X e (tB te):=⟨zb4 h.out he⟩
theorem wr(ha:jT X a tA):jW X (.BoolOp .And [a] pos) tA:=⟨pw_and1 ha.out⟩
theorem xM(ha:jT X a tA):jW X (.BoolOp .Or [a] pos) tA:=⟨pw_or1 ha.out⟩
theorem vI(ha:jT X a tA)(hb:jW X (.BoolOp .And (b::rest) pos) tB'):jW X (.BoolOp .And (a::b::rest) pos) (tAnd tA tB'):=⟨pw_and ha.out hb.out⟩
theorem wu(ha:jT X a tA)(hb:jW X (.BoolOp .Or (b::rest) pos) tB'):jW X (.BoolOp .Or (a::b::rest) pos) (tOr tA tB'):=⟨pw_or ha.out hb.out⟩
theorem jW.pt(h:jW X e tA):jT X e tA:=⟨PW.pt h.out⟩
theorem xn(ha:jT X a tA):jT X (.UnaryOp .Not a pos) (tNot tA):=⟨zb5 ha.out⟩
theorem vJ{op}(h:jE X a te):jE X (.BoolOp op [a] pos) te:=⟨zb6 h.out⟩
theorem Xk(ha:jE X a ta)(hb:jE X (.BoolOp .And (b::rest) pos) tb):jE X (.BoolOp .And (a::b::rest) pos) (Vp ta tb):=⟨zb7 ha.out hb.out⟩
theorem zbt(ha:jE X a ta)(hb:jE X (.BoolOp .Or (b::rest) pos) tb):jE X (.BoolOp .Or (a::b::rest) pos) (tOrV ta tb):=⟨zdF ha.out hb.out⟩
theorem zcB(ha:jE X a ta):jE X (.UnaryOp .Not a pos) (zbh ta):=⟨zb8 ha.out⟩
theorem ww(hc:jT X c tA)(ha:jE X a ta)(hb:jE X b tb):jE X (.IfExp c a b pos) (tIf tA ta tb):=⟨Vq hc.out ha.out hb.out⟩
theorem zL:jA X [] tNil:=⟨zcp⟩
theorem ja_c(ha:jE X e te)(hr:jA X es t)(h:zy e=false:=by rfl):jA X (e::es) (yh te t):=⟨pa_c ha.out hr.out h⟩
theorem zD(h:jA X es t):jE X (.List es pos) (tLst t):=⟨zcr h.out⟩
theorem zB{x1}(h:jA X es t):jE X (.Tuple es x1 pos) (tTup t):=⟨zcq h.out⟩
theorem Yf(hr:jIx X r)(ha:jE X a ta)(hb:jE X b tb)(hs:Zb b):jE X (.Subscript a b pos) (tOp r ta tb):=⟨zdP hr.out ha.out hb.out hs⟩
theorem yW:jO X none XZ:=⟨QU⟩
theorem yX(h:jE X e te):jO X (some e) (zbo te):=⟨QV h.out⟩
theorem yL{r:V->Option Int->Option Int->Hp->VK->Prop}{lo hi:Option Expr}{tl th:TO}(hr:jSl X r)(he:jE X e te)(hl:jO X lo tl)(hu:jO X hi th):jE X (.Subscript e (.Slice lo hi none p2) pos) (tSl r te tl th):=⟨VF hr.out he.out hl.out hu.out⟩
variable{k:Nat}{dvs:List V}{E:XK}{rc:List V->Hp->VK->Prop}{rm:V->List V->Hp->VK->Prop}
theorem zdS(F:FnOk X.prog X.w X.K X.mg X.base CX k f fd ps sp)(hr:Room k X.A)(hg:Gl X x)(hm:X.mg x=some (.ref f))(hk:u4 X.K (.ref f)=true)(hb:Binds X.K fd ps ds)(hd:Vals dvs ds)(hx:yU CX X E)
  (ha:jA X (e::es) t) (hdb:(x == ("__debug__":Str))=false:=by decide) (h1:zy e=false:=by rfl) (h2:es.all (fun e=>!zy e)=true:=by rfl) :
  jE X (.Call (.Name x p) (e::es) [] pos) (Yc sp dvs E t):=⟨zdR F hr hg hm hk hb hd hx ha.out hdb h1 h2⟩
theorem yu(hc:jCa X (.builtin id) rc)(hg:Gl X x)(hm:X.mg x=none)(hv:bootBuiltins x=some (.builtin id))(ha:jA X (e::es) t)(hn:x≠"__name__":=by decide)(hdb:(x == ("__debug__":Str))=false:=by decide)
  (h1:zy e=false:=by rfl) (h2:es.all (fun e=>!zy e)=true:=by rfl):jE X (.Call (.Name x p) (e::es) [] pos) (tCB rc t):=⟨zcA hc.out hg hm hv ha.out hn hdb h1 h2⟩
theorem zS(hc:jCa X (.type T) rc)(hg:Gl X x)(hm:X.mg x=none)(hv:bootBuiltins x=some (.type T))(ha:jA X (e::es) t)(hn:x≠"__name__":=by decide)(hdb:(x == ("__debug__":Str))=false:=by decide)
  (h1:zy e=false:=by rfl) (h2:es.all (fun e=>!zy e)=true:=by rfl):jE X (.Call (.Name x p) (e::es) [] pos) (tCB rc t):=⟨Q6 hc.out hg hm hv ha.out hn hdb h1 h2⟩
theorem Xl(pa:PlainAttrs T)(slot:Slot T name id)(hty:typeOf (.builtin id)=pure (.type "method_descriptor"))(hm:jMt X id rm)(ho:jE X o to)
  (hbase:attributeBase o name X.env (eval o X.env)=eval o X.env:=by rfl) (hline:(apos.endLine == cpos.line)=true:=by rfl):jE X (.Call (.Attribute o name apos) [] [] cpos) (tBM0 X.K T rm to):=⟨zcw pa slot hty hm.out ho.out hbase hline⟩
theorem yP(pa:PlainAttrs T)(slot:Slot T name id)(hty:typeOf (.builtin id)=pure (.type "method_descriptor"))(hm:jMt X id rm)(ho:jE X o to)(ha:jA X (e::es) t)
  (hbase:attributeBase o name X.env (eval o X.env)=eval o X.env:=by rfl)
  (hfew:((backTo cpos (starEach (e::es) X.env)).all (fun x=>!x.1) && (backToKw cpos (keywordEach [] X.env)).all (fun x=>x.1.isSome)
   && decide ((e::es).length+([]:List Keyword).length+(if([]:List Keyword).isEmpty then 0 else 1) < 30))=true:=by rfl)
  (hline:(apos.endLine == cpos.line)=true:=by rfl) (h1:zy e=false:=by rfl) (h2:es.all (fun e=>!zy e)=true:=by rfl) :
  jE X (.Call (.Attribute o name apos) (e::es) [] cpos) (tBM X.K T rm to t):=⟨zdQ pa slot hty hm.out ho.out ha.out hbase hfew hline (zG h1) (yF h2)⟩
variable{sts:List Stmt}{s1 s2:TS}{wi:TI}{tb1:TS}
theorem zx:jSs X [] jr:=⟨QE⟩
theorem zh(h1:jS X st s1)(h2:jSs X sts s2):jSs X (st::sts) (tSeq s1 s2):=⟨Vr h1.out h2.out⟩
theorem zk(h1:jS X st s1):jSs X [st] s1:=⟨QF h1.out⟩
theorem yw(he:jE X e te)(hs:swapsWith e none pos.line X.env=pure false:=by rfl):jS X (.Expr e pos) (Vs te):=⟨QG he.out hs⟩
theorem zv(he:jE X e te):jS X (.Return (some e) pos) (tRet te):=⟨zb9 he.out⟩
theorem zE{A B:List Stmt}(hc:jT X c tA)(ha:jSs X A s1)(hb:jSs X B s2):jS X (.If c A B pos) (tIfS tA s1 s2):=⟨zdG hc.out ha.out hb.out⟩
theorem zcC(hN:X.N.Nodup)(hi:X.N[i]?=some x)(hx:Loc X.env.scope x)(he:jE X e te)(hs:swapsWith e (some (.Name x pos')) pos.line X.env=pure false:=by rfl)
  (hf:X.fn x=true\/X.env.scope.names.lookup x=some .local:=by first|exact .inl rfl|exact .inr rfl|assumption):jS X (.Assign [.Name x pos'] e pos) (tAsg te (w5 i)):=⟨zcd hN hi hx he.out hs hf⟩
theorem xN(he:jE X e te)(hg:jG X tg g)(hs:swapsWithSole [tg] e pos.line X.env=pure false:=by rfl)(hw:swappedStores [tg] e X.env=pure none:=by rfl)(h1:(assignEach [tg] X.env).map (·.2)=[assign tg X.env]:=by rfl):jS X (.Assign [tg] e pos) (tAsg te g):=⟨zcc he.out hg.out hs hw h1⟩
theorem Q8(hN:X.N.Nodup)(hi:X.N[i]?=some x)(hx:Loc X.env.scope x)(hf:X.fn x=true\/X.env.scope.names.lookup x=some .local:=by first|exact .inl rfl|exact .inr rfl|assumption):jG X (.Name x pos) (w5 i):=⟨QH hN hi hx hf⟩
theorem zM:jGs X [] gNil:=⟨QI⟩
theorem zu(h1:jG X e g)(h2:jGs X es gs)(hs:(assignEach (e::es) X.env).map (·.2)=assign e X.env::(assignEach es X.env).map (·.2):=by rfl):jGs X (e::es) (zbi g gs):=⟨Vt h1.out h2.out hs⟩
theorem zcD(hc:X.calm=true)(h:jGs X es gs)(hn:(assignEach es X.env).length=n:=by rfl)(hst:(assignEach es X.env).findIdx? (·.1)=none:=by rfl):jG X (.Tuple es k pos) (gTup X.K n gs):=⟨zca hc h.out hn hst⟩
theorem Q9{l:Expr}(hl:jE X l tl):jI X tg l (Vv X.K tl):=⟨QJ hl.out⟩
theorem zcE{l:Expr}(hl:jE X l tl):jI X tg l (iTup X.K tl):=⟨zce hl.out⟩
theorem yC(hg:Gl X "range")(hm:X.mg "range"=none)(ha:jA X [a] t)(h:zy a=false:=by rfl):jI X tg (.Call (.Name "range" p) [a] [] pos) (zbj t):=⟨WH hg hm ha.out (zG h)⟩
theorem yt(hp:PassesOwn (model X.prog X.w) X.A X.env X.xe)(hc:X.calm=true)(hi:jI X tg iter wi)(hg:jG X tg g)(hb:jSs X sts tb1)(hs:∀x,foldedSetIterable iter X.env x=pure x:=by intro _;rfl):jS X (.For tg iter sts [] pos) (tFor wi g tb1):=⟨zcf hp hc hi.out hg.out hb.out hs⟩
theorem vK(hp:PassesOwn (model X.prog X.w) X.A X.env X.xe)(hc:jT X c tA)(hb:jSs X sts tb1):jS X (.While c sts [] pos) (tWhile tA tb1):=⟨Vu hp hc.out hb.out⟩
theorem yn:jTs X [] tYes:=⟨Q0⟩
theorem z5(h:jT X c tA):jTs X [c] tA:=⟨Q3 h.out⟩
theorem yf(M:lS)(hc:X.calm=true)(hi:jI X tg iter wi)(hg:∀C s H ex E,jG (cxLC X scope (clOf scope X.env) M C s H ex E) tg g)(ht:∀C s H ex E,jTs (cxLC X scope (clOf scope X.env) M C s H ex E) ifs tt)
  (he:∀C s H ex E,jE (cxLC X scope (clOf scope X.env) M C s H ex E) elt te) (hs:∀x,foldedSetIterable iter X.env x=pure x:=by intro _;rfl)
  (h1:closureFor scope X.env=pure (clOf scope X.env):=by with_unfolding_all rfl) (h2:scope.kind=.function:=by rfl) (h3:scope.names.all (fun y=>y.2 != .cell)=true:=by rfl) (h4:scope.names.all (fun y=>y.2 != .local || scope.names.lookup y.1 == some .local)=true:=by rfl)
  (h5:X.N.all (fun y=>scope.names.lookup y != some .local)=true:=by rfl) (h6:scope.names.all (fun p=>p.2 != .free || (((clOf scope X.env).lookup p.1).isSome && (X.env.kindOf p.1 == some .cell || X.env.kindOf p.1 == some .free)))=true:=by rfl) :
  jE X (.ListComp elt [⟨tg,iter,ifs,0⟩] scope pos) (tLC wi g tt te M.length):=⟨Q4 M hc hi.out (fun C s H ex E=>(hg C s H ex E).out) (fun C s H ex E=>(ht C s H ex E).out) (fun C s H ex E=>(he C s H ex E).out) hs h1 h2 h3 h4 h5 h6⟩
theorem yx(M:lS)(hN:X.N.Nodup)(hi':X.N[i]?=some y)(hy:Loc X.env.scope y)(hc:X.calm=true)(hi:jI X tg iter wi)(hg:∀C s H ex E,jG (cxLC X scope (clOf scope X.env) M C s H ex E) tg g)
  (ht:∀C s H ex E,jTs (cxLC X scope (clOf scope X.env) M C s H ex E) ifs tt) (he:∀C s H ex E,jE (cxLC X scope (clOf scope X.env) M C s H ex E) elt te) (hs:∀x,foldedSetIterable iter X.env x=pure x:=by intro _;rfl)
  (hsw:swapsWith (.ListComp elt [⟨tg,iter,ifs,0⟩] scope pos) (some (.Name y py)) spos.line X.env=pure true:=by rfl)
  (hf:X.fn y=true\/X.env.scope.names.lookup y=some .local:=by first|exact .inl rfl|exact .inr rfl|assumption)
  (h1:closureFor scope X.env=pure (clOf scope X.env):=by with_unfolding_all rfl) (h2:scope.kind=.function:=by rfl) (h3:scope.names.all (fun y=>y.2 != .cell)=true:=by rfl) (h4:scope.names.all (fun y=>y.2 != .local || scope.names.lookup y.1 == some .local)=true:=by rfl)
  (h5:X.N.all (fun y=>scope.names.lookup y != some .local)=true:=by rfl) (h6:scope.names.all (fun p=>p.2 != .free || (((clOf scope X.env).lookup p.1).isSome && (X.env.kindOf p.1 == some .cell || X.env.kindOf p.1 == some .free)))=true:=by rfl) :
  jS X (.Assign [.Name y py] (.ListComp elt [⟨tg,iter,ifs,0⟩] scope pos) spos) (fun D σ H=>tLC wi g tt te M.length σ H fun v H1=>D.nx (σ.set i (some v)) H1) :=
 ⟨Q5 M hN hi' hy hc hi.out (fun C s H ex E=>(hg C s H ex E).out) (fun C s H ex E=>(ht C s H ex E).out) (fun C s H ex E=>(he C s H ex E).out) hs hsw hf h1 h2 h3 h4 h5 h6⟩
theorem Yg(S:List Nat)(M:lS)(hc:X.calm=true)(hi:jI X tg iter wi)(hg:∀C s H ex E,jG (cxLC X scope (clOf scope X.env) M C s H ex E) tg g)(ht:∀C s H ex E,jTs (cxLC X scope (clOf scope X.env) M C s H ex E) ifs tt)
  (he:∀C s H ex E,jE (cxLC X scope (clOf scope X.env) M C s H ex E) elt te) (hs:∀x,foldedSetIterable iter X.env x=pure x:=by intro _;rfl)
  (h1:closureFor scope X.env=pure (clOf scope X.env):=by with_unfolding_all rfl) (h2:scope.kind=.function:=by rfl) (h3:scope.names.all (fun y=>y.2 != .cell)=true:=by rfl) (h4:scope.names.all (fun y=>y.2 != .local || scope.names.lookup y.1 == some .local)=true:=by rfl)
  (h5:X.N.zipIdx.all (fun y=>S.contains y.2 || scope.names.lookup y.1 != some .local)=true:=by rfl) (h6:scope.names.all (fun p=>p.2 != .free || (((clOf scope X.env).lookup p.1).isSome && (X.env.kindOf p.1 == some .cell || X.env.kindOf p.1 == some .free)))=true:=by rfl) :
  jE X (.ListComp elt [⟨tg,iter,ifs,0⟩] scope pos) (tLCS S wi g tt te M.length):=⟨VP S M hc hi.out (fun C s H ex E=>(hg C s H ex E).out) (fun C s H ex E=>(ht C s H ex E).out) (fun C s H ex E=>(he C s H ex E).out) hs h1 h2 h3 h4 h5 h6⟩
theorem Yh(S:List Nat)(M:lS)(hN:X.N.Nodup)(hi':X.N[i]?=some y)(hy:Loc X.env.scope y)(hc:X.calm=true)(hi:jI X tg iter wi)(hg:∀C s H ex E,jG (cxLC X scope (clOf scope X.env) M C s H ex E) tg g)
  (ht:∀C s H ex E,jTs (cxLC X scope (clOf scope X.env) M C s H ex E) ifs tt) (he:∀C s H ex E,jE (cxLC X scope (clOf scope X.env) M C s H ex E) elt te) (hs:∀x,foldedSetIterable iter X.env x=pure x:=by intro _;rfl)
  (hsw:swapsWith (.ListComp elt [⟨tg,iter,ifs,0⟩] scope pos) (some (.Name y py)) spos.line X.env=pure true:=by rfl)
  (hf:X.fn y=true\/X.env.scope.names.lookup y=some .local:=by first|exact .inl rfl|exact .inr rfl|assumption)
  (h1:closureFor scope X.env=pure (clOf scope X.env):=by with_unfolding_all rfl) (h2:scope.kind=.function:=by rfl) (h3:scope.names.all (fun y=>y.2 != .cell)=true:=by rfl) (h4:scope.names.all (fun y=>y.2 != .local || scope.names.lookup y.1 == some .local)=true:=by rfl)
  (h5:X.N.zipIdx.all (fun y=>S.contains y.2 || scope.names.lookup y.1 != some .local)=true:=by rfl) (h6:scope.names.all (fun p=>p.2 != .free || (((clOf scope X.env).lookup p.1).isSome && (X.env.kindOf p.1 == some .cell || X.env.kindOf p.1 == some .free)))=true:=by rfl) :
  jS X (.Assign [.Name y py] (.ListComp elt [⟨tg,iter,ifs,0⟩] scope pos) spos) (fun D σ H=>tLCS S wi g tt te M.length σ H fun v H1=>D.nx (σ.set i (some v)) H1) :=
 ⟨VQ S M hN hi' hy hc hi.out (fun C s H ex E=>(hg C s H ex E).out) (fun C s H ex E=>(ht C s H ex E).out) (fun C s H ex E=>(he C s H ex E).out) hs hsw hf h1 h2 h3 h4 h5 h6⟩
theorem yy:jOp X (binaryOp .Add) (rI0 fun i j=>.int (i+j)):=⟨zcg⟩
theorem xo:jOp X (binaryOp .Sub) (rI0 fun i j=>.int (i-j)):=⟨zch⟩
theorem Zi:jOp X (binaryOp .Mult) (rI CMul fun i j=>.int (i*j)):=⟨zci⟩
theorem xU:jOp X (binaryOp .FloorDiv) (rI CDiv fun i j=>.int (i / j)):=⟨QK⟩
theorem xy:jOp X (binaryOp .Mod) (rI (fun _ j=>0 < j) fun i j=>.int (i % j)):=⟨zcj⟩
theorem zI:jOp X (compareOp .Eq) rEq:=⟨zdJ⟩
theorem vd:jOp X (compareOp .NotEq) rNe:=⟨zdK⟩
theorem jH:jOp X (compareOp .Lt) (rI0 fun i j=>.bl (decide (i < j))):=⟨zdL⟩
theorem zbu:jOp X (compareOp .LtE) (rI0 fun i j=>.bl (decide (i<=j))):=⟨zdM⟩
theorem jJ:jOp X (compareOp .Gt) (rI0 fun i j=>.bl (decide (j < i))):=⟨zdN⟩
theorem zdT:jOp X (compareOp .GtE) (rI0 fun i j=>.bl (decide (j<=i))):=⟨zdO⟩
theorem WR:jOp X (compareOp .In) (rIn X.K false):=⟨WN⟩
theorem Zj:jOp X (compareOp .NotIn) (rIn X.K true):=⟨Zd⟩
theorem yN:jOp X (binaryOp .Add) (fun x y H Q=>∃i j,x=.str i/\y=.str j/\i.length+j.length<=sizeLine/\Q (.str (i++j)) H):=⟨Y8⟩
theorem vL:jOp X (binaryOp .Mult) (fun x y H Q=>∃z n,x=.str z/\y=.int n/\MulOk z n/\Q (.str (Txt.mul z n)) H):=⟨Xj⟩
theorem yz:jOp X (binaryOp .Add) rCat:=⟨zcy⟩
theorem wx:jOp X (binaryOp .Add) (zbp X.K):=⟨QW⟩
theorem X3:jIx X (rIxL X.K):=⟨QX⟩
theorem VR:jIx X (rIxT X.K):=⟨zcu⟩
theorem Xm:jIx X rIxS:=⟨zcv⟩
theorem zaa:jSl X (rSlL X.K):=⟨QY⟩
theorem yi:jMt X "list.append" Zg:=⟨WO⟩
theorem VS:jMt X "list.pop" rPop:=⟨zcx⟩
theorem Xn:jCa X (.builtin "len") (fun xs H Q=>∃p ys,xs=[.ref p]/\(SqL X.K H p ys\/SqT X.K H p ys)/\Q (.int ys.length) H):=⟨Ze⟩
theorem Yi:jCa X (.type "tuple") (fun xs H Q=>∃p ys,xs=[.ref p]/\((SqL X.K H p ys/\∀l,H l=none->Q (.ref l) (upd H l (.tup ys)))\/(SqT X.K H p ys/\Q (.ref p) H))):=⟨jo⟩
theorem Xo:jCa X (.type "list") (fun xs H Q=>∃p ys,xs=[.ref p]/\(SqL X.K H p ys\/SqT X.K H p ys)/\∀l,H l=none->Q (.ref l) (upd H l (.lst ys))):=⟨Zf⟩
end
theorem Fun.by{k:Nat}(F:Fun K x qual st f fd)(S:FnScope N ps (zp st))(len:∀vs H Q E,sp vs H Q E->vs.length=ps.length)
  (hbody:∀(cdv:Value)(A:Around)(outer:List Env)(s:Shared)(H:Hp)(vs:List V)(Q:VK)(E:XK),Room k (A.deeper (envOfC qual (zp st) s.heap.objs.size f cdv))->sp vs H Q E ->
   ∃t,jSs (cxOf CX0 P w K mg base N qual (zp st) f cdv A outer s H E).nox (zP st) t/\t { nx:=fun _ H'=>Q .non H',rt:=Q } (xj N vs) H):FnOk P w K mg base CX0 (k+1) f fd ps sp :=
 F.ok S len fun cdv A outer s H vs Q E hr h=>let ⟨t,b,q⟩:=hbody cdv A outer s H vs Q E hr h;⟨t,b.out,q⟩
end L2
namespace L2
open PySem PySem.W PySem.Calls PyProof.Rows Builtin Builtin.ObjectAttr
def bmV:List Value:=[.type "ValueError",.type "Exception",.type "BaseException",.type "object"]
def zdU:List Value->Bool
 |[]=>false
 |v::r=>(v::r) == bmV || (match v with
  |.ref _=>zdU r
  |_=>false)
end L2
namespace L2
open PySem PySem.Spec PyProof.Rows
abbrev Ends.behind(D:Ends)(i:Nat):Ends:={ nx:=fun σ H=>D.nx (σ.set i none) H,rt:=D.rt,bk:=fun σ H=>D.bk (σ.set i none) H,ct:=fun σ H=>D.ct (σ.set i none) H }
theorem Inv.turns(I:Inv X pins σ H s)(k:∀b o,b∉ch->s.heap.get? b=some o->h'.get? b=some o)(hf:∀b∈ch,FpOk X pins H b):Inv X pins σ H { s with heap:=h',toks:=t' }:=by
 have nit:∀b u,H b=some u->b∉ch:=fun b u e z=>by rw[(hf b z).1]at e;cases e
 refine I.call (g':=s.gens) (d':=s.drawn) (t':=t') (ch:=ch) ⟨fun b o q _ _ x=>k b o x q,fun b o q _ _ x=>⟨o.slots,k b o x q⟩,fun _ _ _ n _=>n,fun b o q x=>⟨o,k b o x q⟩,fun _ _ q=>q,fun _ _ _ q=>q,fun _ ps q=>⟨#[],by rw[q];simp⟩⟩
  (fun b u e=>(I.hok b u e).stay (fun c v hc q=>k c v ?_ q) (fun _ q=>q) fun _ _ q=>q) I.bare fun b hb=>?_
 ·rcases hc with z|z
  ·rw[z];exact nit b u e
  ·exact nit c _ z
 ·obtain⟨f0,f1,f2,f3,f4,f5⟩:=hf b hb
  exact⟨f3,f1,f4,f5⟩
theorem Inv.turnsLaid{o:HO}(I:Inv X pins σ H s)(k:∀b o,b∉ch->s.heap.get? b=some o->h'.get? b=some o)(hf:∀b∈ch,FpOk X pins H b)(hp:s.heap.objs.size<=a)(new:ObjOk X.prog X.w (upd H a o) h' a o):
  Inv X pins σ (upd H a o) { s with heap:=h',toks:=t' }:=by
 have hn:=I.hok.fresh hp;have nit:∀b u,H b=some u->b∉ch:=fun b u e z=>by rw[(hf b z).1]at e;cases e
 refine I.call (g':=s.gens) (d':=s.drawn) (t':=t') (ch:=ch) ⟨fun b o q _ _ x=>k b o x q,fun b o q _ _ x=>⟨o.slots,k b o x q⟩,fun b u q n _=>by rw[zj (u7 (uH (uB q) hp))];exact n,fun b o q x=>⟨o,k b o x q⟩,
   fun b xs q=>by rw[zj (zi q hn)];exact q,fun b u xs q=>by rw[zj (zi q hn)];exact q,fun b ps q=>⟨#[],by rw[zj (zi q hn),q];simp⟩⟩
  (fun b u e=>?_) I.bare fun b hb=>?_
 ·by_cases hb:b=a
  ·subst hb
   rw[uX9]at e;cases e;exact new
  ·rw[zj hb]at e
   refine(I.hok b u e).stay (fun c v hc q=>k c v ?_ q) (fun c q=>by rw[zj (zi q hn)];exact q) fun c xs q=>by rw[zj (zi q hn)];exact q
   rcases hc with z|z
   ·rw[z];exact nit b u e
   ·exact nit c _ z
 ·obtain⟨f0,f1,f2,f3,f4,f5⟩:=hf b hb
  exact⟨f3,f1,f4,f5⟩
end L2
namespace L2
open PySem PySem.Spec PyProof.Rows Builtin Builtin.Str
theorem wy:∀{zs:lS}{us:List Value},Vals (zs.map V.str) us->∃l:List (Str×Tok),us=strValues l/\l.map (·.1)=zs
 |[],_,.nil=>⟨[],rfl,rfl⟩
 |z::zs,_,.cons ⟨t,e⟩ r=>by
  obtain⟨l,rfl,h⟩:=wy r;exact⟨(z,t)::l,by rw[e];rfl,by rw[uC,h]⟩
theorem Yj(sep:Str):∀(zs:lS)(a:Nat),zs.foldl (· + ·.length+sep.length) a=a+((zs.map (·.length)).sum+zs.length*sep.length)
 |[],a=>by simp
 |z::zs,a=>by
  rw[UI,Yj sep zs];simp only[uC,Uy,ui,tw,Nat.one_mul]
  lia
def wide(sep:Str)(zs:lS):Nat:=(zs.map (·.length)).sum+zs.length*sep.length
def zbv(K:ub):V->List V->Hp->VK->Prop:=fun x vs H Q=>∃sep p zs,x=.str sep/\vs=[.ref p]/\SqL K H p (zs.map V.str)/\wide sep zs<=sizeLine/\Q (.str (Str.join sep zs)) H
theorem zab:MtR X "str.join" (zbv X.K):=by
 intro pins s σ H x vs v us Q I rx rv h;obtain⟨sep,p,zs,rfl,rfl,hq,hw,q⟩:=h;obtain⟨t,rfl⟩:=rx;obtain⟨u,rfl,ru⟩:=rv.one;cases ru;obtain⟨its,r,pl,hz⟩:=I.list hq;obtain⟨l,rfl,hl⟩:=wy r;have big:tooLong ((l.map (·.1)).toArray.foldl (· + ·.length+sep.length) 0)=false:=by
  rw[hl,List.foldl_toArray,Yj];unfold tooLong;rw[decide_eq_false_iff_not];unfold wide at hw;lia
 have hg:=size_glued sep zs;have hle:(glued sep zs).length<=sizeLine:=by
  rw[hg];unfold wide at hw
  have:(zs.length-1)*sep.length<=zs.length*sep.length:=U0 _ (Nat.sub_le _ _)
  lia
 refine call_meets F.slot_str_join (typeIs_str _ _ _) F.entry_str_join (F.args_str_join_2 _ _) (meets_str_join_list sep t p l big) ⟨pl.isList,?_⟩;rw[<- StrLaws.glued_eq_join]at q
 match l,hl with
 |[],hl=>exact⟨by rw[hl];exact hle,.str _,H,I.tok _,⟨_,rfl⟩,by rw[hl];exact q⟩
 |[(z,tz)],hl =>
  have e:glued sep zs=z:=by
   rw[<- hl]
   rfl
  rw[e]at q;exact⟨.str z,H,I,⟨tz,rfl⟩,q⟩
 |a::b::r,hl=>exact⟨by rw[hl];exact hle,.str _,H,I.tok _,⟨_,rfl⟩,by rw[hl];exact q⟩
theorem zac:jMt X "str.join" (zbv X.K):=⟨zab⟩
def rEqE(K:ub)(neg:Bool):R2:=fun x y H Q=>∃p p' xs,x=.ref p/\y=.ref p'/\SqL K H p xs/\SqL K H p' []/\Q (.bl (if neg then !xs.isEmpty else xs.isEmpty)) H
theorem zcF(hu:X.A.units < cLine):OpR X (compareOp .Eq) (rEqE X.K false):=by
 intro pins s σ H x y v u Q I rx ry h;obtain⟨p,p',xs,rfl,rfl,h1,h2,q⟩:=h;cases rx;cases ry;obtain⟨its,r,pl,_⟩:=I.list h1;obtain⟨its',r',pl',_⟩:=I.list h2;cases r';cases r with
 |nil=>exact SeqAt.eq_listAt (e:=fun _=>true) pl.isList pl'.isList rfl hu (fun j h=>absurd h (tR _)) ⟨.bl true,H,I,rfl,q⟩
 |cons a b=>exact SeqAt.eq_list_lengthsAt pl.isList pl'.isList rfl hu ⟨.bl false,H,I,rfl,q⟩
theorem zcG(hu:X.A.units < cLine):OpR X (compareOp .NotEq) (rEqE X.K true):=by
 intro pins s σ H x y v u Q I rx ry h;obtain⟨p,p',xs,rfl,rfl,h1,h2,q⟩:=h;cases rx;cases ry;obtain⟨its,r,pl,_⟩:=I.list h1;obtain⟨its',r',pl',_⟩:=I.list h2;cases r';cases r with
 |nil=>exact SeqAt.RcNeAt.lists (e:=fun _=>true) pl.isList pl'.isList rfl hu (fun j h=>absurd h (tR _)) _ _ _ _ ⟨.bl false,H,I,rfl,q⟩
 |cons a b=>exact SeqAt.RcNeAt.lists_lengths pl.isList pl'.isList rfl hu _ _ _ _ ⟨.bl true,H,I,rfl,q⟩
theorem Xp{k:Nat}(hr:Room k X.A):jOp X (compareOp .Eq) (rEqE X.K false):=⟨zcF hr.units0⟩
theorem VT{k:Nat}(hr:Room k X.A):jOp X (compareOp .NotEq) (rEqE X.K true):=⟨zcG hr.units0⟩
end L2
namespace L2
open PySem PySem.Spec PyProof.Rows
variable{xs:Array Value}{j:Addr}{x g:Value}{Q:Option Value->Shared->Prop}{f:Nat->List V}{m:Bool}{r N:Nat}{p:Pos}
def Sq(k:Bool)(h:Heap)(l:Addr)(xs:Array Value):Prop:=match k with
 |true=>h.IsList l xs
 |false=>h.IsTuple l xs
def SqI(k:Bool)(h:Heap)(j l:Addr)(n:Nat):Prop:=match k with
 |true=>h.IsListIter j l n
 |false=>h.IsTupleIter j l n
def SqN(k:Bool):String:=if k then "list_iterator"else "tuple_iterator"
theorem Sq.at{k:Bool}{l:Addr}(x:Sq k h l xs)(e:∀o,h.get? l=some o->h'.get? l=some o):Sq k h' l xs:=by
 cases k<;>obtain⟨o,ho,r⟩:=x<;>exact⟨o,e _ ho,r⟩
theorem SqI.at{k:Bool}{l:Addr}(x:SqI k h j l n)(e:∀o,h.get? j=some o->h'.get? j=some o):SqI k h' j l n:=by
 cases k<;>obtain⟨o,ho,r⟩:=x<;>exact⟨o,e _ ho,r⟩
theorem SqI.ex{k:Bool}{l:Addr}(x:SqI k h j l n):∃o,h.get? j=some o/\o.cls=.type (SqN k)/\o.data=.fields #[.ref l,.int n 0]:=by
 cases k<;>exact x
theorem SqI.of{k:Bool}{l:Addr}(x:∃o,h.get? j=some o/\o.cls=.type (SqN k)/\o.data=.fields #[.ref l,.int n 0]):SqI k h j l n:=by
 cases k<;>exact x
theorem VU{l:Addr}{Q:VSP}(hj:s.heap.IsTupleIter j l n)(hl:s.heap.IsTuple l xs)(hx:xs[n]?=some x)
  (q:∀h',h'.IsTupleIter j l (n+1)->Heap.SameBut j s.heap h'->Q x { s with heap:=h' }):wpAny (model P w) A (Uf (.ref j)) Q E s:=by
 have⟨oj,hoj,cj,dj⟩:=hj;have⟨ol,hol,_,m,dl⟩:=hl;unfold Uf;refine wpAny_bind (wpAny_callSpecial?_slot hj.typeIs F.slot_tuple_iterator_next (wpAny_call_entry F.slot_tuple_iterator_next hj.typeIs F.entry_tuple_iterator_next ?_ (F.args_tuple_iterator_next_1 (.ref j))));refine wpAny_bind (m:=field (.ref j) 0) (wpAny_field hoj dj (x:=.ref l) rfl ?_);have nn:¬ ((Value.ref l == Value.none)=true):=uA;show wpAny _ _ (ite ((Value.ref l == Value.none)=true) _ _) _ _ _;rw[if_neg nn];refine wpAny_bind (m:=field (.ref j) 1) (wpAny_field hoj dj (x:=.int n 0) rfl ?_);refine wpAny_bind (m:=seqItems? (.ref l)) (wpAny_seqItems hol dl ?_);simp only[US,hx]
 refine wpAny_bind (wpAny_setField hoj dj (by simp) (wpAny_pure ⟨x,rfl,wpAny_pure (q _ ⟨_,UH _ hoj (Obj.isFreed_of_fields (Obj.data_mapFields dj _)),(Obj.cls_mapFields ..).trans cj,?_⟩ (Heap.SameBut.update ..))⟩));rw[Obj.data_mapFields dj];simp[rawInt]
theorem zad{l:Addr}{Q:VSP}(hA:A.handled=none)(hj:s.heap.IsTupleIter j l n)(hl:s.heap.IsTuple l xs)(hx:xs[n]?=none)
  (q:∀h' e,Heap.ExtBut j s.heap h'->(∃o,h'.get? e=some o/\o.cls=.type "StopIteration")->E (.ref e) { s with heap:=h' }):wpAny (model P w) A (Uf (.ref j)) Q E s:=by
 have⟨oj,hoj,cj,dj⟩:=hj;have⟨ol,hol,_,m,dl⟩:=hl;unfold Uf;refine wpAny_bind (wpAny_callSpecial?_slot hj.typeIs F.slot_tuple_iterator_next (wpAny_call_entry F.slot_tuple_iterator_next hj.typeIs F.entry_tuple_iterator_next ?_ (F.args_tuple_iterator_next_1 (.ref j))));refine wpAny_bind (m:=field (.ref j) 0) (wpAny_field hoj dj (x:=.ref l) rfl ?_);have nn:¬ ((Value.ref l == Value.none)=true):=uA;show wpAny _ _ (ite ((Value.ref l == Value.none)=true) _ _) _ _ _;rw[if_neg nn];refine wpAny_bind (m:=field (.ref j) 1) (wpAny_field hoj dj (x:=.int n 0) rfl ?_);refine wpAny_bind (m:=seqItems? (.ref l)) (wpAny_seqItems hol dl ?_);simp only[US,hx]
 refine wpAny_bind (wpAny_rule (wpAny_bind (wpAny_setField hoj dj (by simp) ?_)));refine wpAny_bind (m:=newExc (.type "StopIteration") []) ?_;unfold newExc newTuple;refine wpAny_bind (wpAny_newObj_type (wpAny_bind (m:=firstArgMember _ _) (wpAny_of_eq (a:=Value.none) (by first|rfl|(simp only[firstArgMember];rfl)) (wpAny_newObj_type ?_ (by size_fits)))) (by size_fits));unfold raiseNew;refine wpAny_bind (wpAny_handled ?_);rw[show A.in1.handled=none from hA];exact wpAny_bind (wpAny_pure (wpAny_throw (q _ _ (((Heap.SameBut.update ..).extBut.push _).push _) ⟨_,uv _ rfl,rfl⟩)))
theorem zae{k:Bool}{l:Addr}{Q:VSP}(hj:SqI k s.heap j l n)(hl:Sq k s.heap l xs)(hx:xs[n]?=some x)
  (q:∀h',SqI k h' j l (n+1)->Heap.SameBut j s.heap h'->Q x { s with heap:=h' }):wpAny (model P w) A (Uf (.ref j)) Q E s:=by
 cases k with
 |true=>exact wpAny_nextOf_list_item hj hl hx q
 |false=>exact VU hj hl hx q
theorem zcH{k:Bool}{l:Addr}{Q:VSP}(hA:A.handled=none)(hj:SqI k s.heap j l n)(hl:Sq k s.heap l xs)(hx:xs[n]?=none)
  (q:∀h' e,Heap.ExtBut j s.heap h'->(∃o,h'.get? e=some o/\o.cls=.type "StopIteration")->E (.ref e) { s with heap:=h' }):wpAny (model P w) A (Uf (.ref j)) Q E s:=by
 cases k with
 |true=>exact wpAny_nextOf_list_end hA hj hl hx q
 |false=>exact zad hA hj hl hx q
theorem wz{k:Bool}{l:Addr}{Q:VSP}(hl:Sq k s.heap l xs)(q:Q (.ref s.heap.objs.size) { s with heap:=s.heap.push { cls:=.type (SqN k),data:=.fields #[.ref l,.int 0 0] } }):
  wpAny (model P w) A (pyIter (.ref l)) Q E s:=by
 cases k with
 |true=>exact wpAny_pyIter_list hl q
 |false=>exact wpAny_pyIter_tuple hl q
abbrev za(k:Bool)(h:Heap)(l:Addr):Heap:=h.push { cls:=.type (SqN k),data:=.fields #[.ref l,.int 0 0] }
abbrev zb(k m:Bool)(h:Heap)(l r:Addr):Heap:=za m (za k h l) r
abbrev zc(k m:Bool)(h:Heap)(l r:Addr):Heap:=(zb k m h l r).push { cls:=.type "tuple",data:=.seq #[.ref h.objs.size,.ref (za k h l).objs.size] }
abbrev zd(k m:Bool)(h:Heap)(l r:Addr):Heap:=(zc k m h l r).push { cls:=.type "tuple",data:=.seq #[.none,.none] }
abbrev ze(k m:Bool)(h:Heap)(l r:Addr):Heap:=(zd k m h l r).push { cls:=.type "zip",data:=.fields #[.none,.bool false,.bool false,.ref (zb k m h l r).objs.size,.ref (zc k m h l r).objs.size] }
theorem VV(k m:Bool)(l r:Addr)(xs ys:Array Value):Meets (Builtin.«zip.__new__» ⟨[.type "zip",.ref l,.ref r],[]⟩)
  (fun _ R s=>Sq k s.heap l xs/\Sq m s.heap r ys/\R (.ok (.ret (.ref (zd k m s.heap l r).objs.size))) { s with heap:=ze k m s.heap l r }) :=
 .of_wp fun prog w A R s h=>by
  obtain⟨hp,g,d,tk,os⟩:=s;obtain⟨h1,h2,h⟩:=h;have hs:=sub_zip;have q1:Sq k (Shared.heap ⟨hp,g,d,tk,os⟩) l xs:=h1;have q2:Sq m (Shared.heap ⟨za k hp l,g,d,tk,os⟩) r ys:=h2.at fun o e=>uc _ e
  wp_walk using wz q1,wz q2
  exact⟨_,rfl,h⟩
structure ZN(zs:List (Bool×Nat))(h:Heap)(B n:Nat)(f g:Value):Prop where
 z:h.get? (B+zs.length+2)=some { cls:=.type "zip",data:=.fields #[f,g,.bool false,.ref (B+zs.length),.ref (B+zs.length+1)] }
 ti:h.get? (B+zs.length)=some { cls:=.type "tuple",data:=.seq ((uK zs.length).map fun j=>Value.ref (B+j)).toArray }
 to:∃us:Array Value,us.size=zs.length/\h.get? (B+zs.length+1)=some { cls:=.type "tuple",data:=.seq us }
 it:∀(j:Nat) k l,zs[j]?=some (k,l)->SqI k h (B+j) l n
theorem ZN.at{f:Value}(x:ZN zs h B n f g)(e:∀(b:Nat) o,B<=b->b<=B+zs.length+2->h.get? b=some o->h'.get? b=some o):ZN zs h' B n f g where
 z:=e _ _ (by lia) (by lia) x.z
 ti:=e _ _ (by lia) (by lia) x.ti
 to:=let ⟨us,c,y⟩:=x.to;⟨us,c,e _ _ (by lia) (by lia) y⟩
 it:=fun j k l hj=>(x.it j k l hj).at fun o=>e _ o (by lia) (by have:=(ud.mp hj).1;lia)
def KeptN(B N:Nat)(h h':Heap):Prop:=∀(c:Nat) o,(c < B\/B+N+2 < c)->h.get? c=some o->h'.get? c=some o
def AtN(zs:List (Bool×Nat))(h:Heap)(B n:Nat)(va:Nat->Option Value):Prop:=∀(j:Nat) k l,zs[j]?=some (k,l)->l < B/\∃xs:Array Value,Sq k h l xs/\xs[n]?=va j
structure ZW(zs:List (Bool×Nat))(h0 h:Heap)(B n j:Nat)(f g:Value)(us:Array Value):Prop where
 z:h.get? (B+zs.length+2)=some { cls:=.type "zip",data:=.fields #[f,g,.bool false,.ref (B+zs.length),.ref (B+zs.length+1)] }
 ti:h.get? (B+zs.length)=some { cls:=.type "tuple",data:=.seq ((uK zs.length).map fun j=>Value.ref (B+j)).toArray }
 ts:us.size=zs.length
 to:h.get? (B+zs.length+1)=some { cls:=.type "tuple",data:=.seq us }
 it:∀(i:Nat) k l,zs[i]?=some (k,l)->SqI k h (B+i) l (if i < j then n+1 else n)
 kp:KeptN B zs.length h0 h
 sz:h.objs.size=h0.objs.size
theorem ZW.next{h2:Heap}{j l:Nat}{k:Bool}{f:Value}{us:Array Value}(W:ZW zs h0 h B n j f g us)(hj:zs[j]?=some (k,l))(i2:SqI k h2 (B+j) l (n+1))(u2:Heap.SameBut (B+j) h h2):ZW zs h0 h2 B n (j+1) f g us:=by
 have jl:=(ud.mp hj).1;have k2:∀(c:Nat) o,c≠B+j->h.get? c=some o->h2.get? c=some o:=fun c o n e=>(u2.2 c n).trans e;refine⟨k2 _ _ (by lia) W.z,k2 _ _ (by lia) W.ti,W.ts,k2 _ _ (by lia) W.to,fun i k' l' hi=>?_,fun c o hc e=>k2 _ _ (by lia) (W.kp c o hc e),by rw[u2.1,W.sz]⟩;by_cases c:i=j
 ·subst c
  rw[hj]at hi;cases hi;rw[if_pos (UW _)];exact i2
 ·simp only[Nat.lt_succ_iff_lt_or_eq,c,or_false]
  exact(W.it i k' l' hi).at fun o e=>k2 _ o (by lia) e
theorem ZW.done{h9:Heap}{j:Nat}{f f' g':Value}{us:Array Value}(W:ZW zs h0 h B n zs.length f g us)(k9:∀(c:Nat) o,c≠B+zs.length+2->h.get? c=some o->h9.get? c=some o)(z9:h9.get? (B+zs.length+2)=some { cls:=.type "zip",data:=.fields #[f',g',.bool false,.ref (B+zs.length),.ref (B+zs.length+1)] }):ZN zs h9 B (n+1) f' g' :=
 ⟨z9,k9 _ _ (by lia) W.ti,⟨us,W.ts,k9 _ _ (by lia) W.to⟩,fun i k l hi=>by
  have il:=(ud.mp hi).1;have e:=W.it i k l hi;rw[if_pos il]at e;exact e.at fun o e=>k9 _ o (by lia) e⟩
theorem VW{α:Type}{L rest:List α}{x:α}{j:Nat}(hr:x::rest=L.drop j):∃jl:j < L.length,x=L[j]/\rest=L.drop (j+1):=by
 rcases Nat.lt_or_ge j L.length with c|c
 ·rw[UN c]at hr
  injection hr with e1 e2
  exact⟨c,e1,e2⟩
 ·rw[List.drop_of_length_le c]at hr
  cases hr
section
variable{f:Value}{va:Nat->Option Value}
theorem VX{o:Obj}{Q:Option Obj->Shared->Prop}(ho:s.heap.get? a=some o)(h:Q (some o) s):wpAny (model P w) A (loadIfAlive a) Q E s:=fun Γ p _=>by
 unfold loadIfAlive;rw[Sem.wp_loadIfAlive,ho];simpa using h
def ZF(B N:Nat)(h:Heap)(f g:Value):Prop:=f=.none\/∃(T:Nat)(c:Bool)(o:Obj),f=rawInt T/\g=.bool c/\h.get? T=some o/\B+N+3 < T
theorem zipN{Q:VSP}(hA:A.handled=none)(Z:ZN zs s.heap B n f g)(hf:ZF B zs.length s.heap f g)(hz:0 < zs.length)(hs:zs.length<=sizeLine)(hq:AtN zs s.heap B n va)
  (q:∀h' us (T:Nat) (c:Bool),us.size=zs.length->(∀i,i < zs.length->us[i]?=va i)->ZN zs h' B (n+1) (rawInt T) (.bool c)->(T=s.heap.objs.size/\f=.none/\c=false\/f=rawInt T/\B+zs.length+3 < T/\∃o,s.heap.get? T=some o)->h'.get? s.heap.objs.size=some { cls:=.type "tuple",data:=.seq us }->h'.objs.size=s.heap.objs.size+1->KeptN B zs.length s.heap h'->Q (.ref s.heap.objs.size) { s with heap:=h' })
  (qe:∀h' e j,j < zs.length->va j=none->KeptN B zs.length s.heap h'->(∃o,h'.get? e=some o/\o.cls=.type "StopIteration")->E (.ref e) { s with heap:=h' }) :
  wpAny (model P w) A (Builtin.«zip.__next__» ⟨[.ref (B+zs.length+2)],[]⟩) (fun fin s'=>∃v,fin=.done (.ret v)/\Q v s') E s:=by
 obtain⟨us0,hu0,hto⟩:=Z.to;refine wpAny_bind (m:=field (.ref (B+zs.length+2)) 2) (wpAny_field Z.z rfl (x:=.bool false) rfl ?_);refine wpAny_bind (m:=field (.ref (B+zs.length+2)) 3) (wpAny_field Z.z rfl (x:=.ref (B+zs.length)) rfl (wpAny_bind (wpAny_seqItems Z.ti rfl ?_)));have ne:((uK zs.length).map fun j=>Value.ref (B+j)).toArray.isEmpty=false:=by
  rw[Array.isEmpty_eq_false_iff_exists_mem];exact⟨.ref (B+0),by simp;exact hz⟩
 show wpAny _ _ (if((uK zs.length).map fun j=>Value.ref (B+j)).toArray.isEmpty=true then _ else _) _ _ _;rw[ne,if_neg uA];have W0:∀{h1:Heap}{f' g':Value},h1.get? (B+zs.length+2)=some { cls:=.type "zip",data:=.fields #[f',g',.bool false,.ref (B+zs.length),.ref (B+zs.length+1)] }->h1.objs.size=s.heap.objs.size->(∀(c:Nat) o,c≠B+zs.length+2->s.heap.get? c=some o->h1.get? c=some o)->ZW zs s.heap h1 B n 0 f' g' us0:=fun z1 s1 k1=>⟨z1,k1 _ _ (by lia) Z.ti,hu0,k1 _ _ (by lia) hto,fun i k l hi=>by
  rw[if_neg (tR _)];exact(Z.it i k l hi).at fun o=>k1 _ o (by have:=(ud.mp hi).1;lia),fun c o hc=>k1 c o (by lia),s1⟩
 have draw:∀{h:Heap}{j:Nat}{f' g':Value}{us:Array Value}{R:VSP}{E':VSP},ZW zs s.heap h B n j f' g' us->j < zs.length->(∀v h2,va j=some v->ZW zs s.heap h2 B n (j+1) f' g' us->R v { s with heap:=h2 })->(∀h2 e,va j=none->(∀(c:Nat) o,c≠B+j->h.get? c=some o->h2.get? c=some o)->(∃o,h2.get? e=some o/\o.cls=.type "StopIteration")->E' (.ref e) { s with heap:=h2 })->∀A':Around,A'.handled=none->wpAny (model P w) A' (Uf (.ref (B+j))) R E' { s with heap:=h }:=by
  intro h j f' g' us R E' W jl r re A' hA';obtain⟨⟨k,l⟩,hkl⟩:∃p,zs[j]?=some p:=⟨_,uh jl⟩;obtain⟨ll,xs,hl,hv⟩:=hq j k l hkl;have hl':Sq k h l xs:=hl.at fun o=>W.kp _ o (.inl ll);have it:=W.it j k l hkl;rw[if_neg (Uw _)]at it;cases e1:va j with
  |none=>exact zcH (s:={ s with heap:=h }) hA' it hl' (hv.trans e1) fun h2 e u2 he=>re h2 e e1 u2 he
  |some v=>exact zae (s:={ s with heap:=h }) it hl' (hv.trans e1) fun h2 i2 u2=>r v h2 e1 (W.next hkl i2 u2)
 rcases hf with rfl|⟨T,c,ot,rfl,rfl,hT,lT⟩
 ·refine wpAny_bind (m:=Uq (.ref (B+zs.length+2))) ?_
  unfold Uq;refine wpAny_bind (wpAny_field Z.z rfl (x:=.none) rfl (wpAny_pure ?_));rw[if_pos rfl];refine wpAny_bind (wpAny_rule (wpAny_bind (wpAny_field Z.z rfl (x:=.ref (B+zs.length+1)) rfl (wpAny_bind (wpAny_setField_rec Z.z (by simp) fun h1 z1 u1=>wpAny_bind ?_)))));refine wpAny_forIn_list _ (fun rest b s'=>b=(none,())/\∃j us h,rest=((((uK zs.length).map fun j=>Value.ref (B+j)).toArray).toList.zipIdx).drop j/\j<=zs.length/\s'={ s with heap:=h }/\ZW zs s.heap h B n j .ellipsis g us/\∀i,i < j->us[i]?=va i) _ ?step ?done _ _ ⟨rfl,0,us0,h1,rfl,uM _,rfl,W0 z1 u1.1 fun c o n e=>(u1.2 c n).trans e,fun i hi=>absurd hi (tR _)⟩
  case step =>
   rintro x rest b s' ⟨rfl,j,us,h,hr,hj,rfl,W,hva⟩;obtain⟨jl,rfl,rfl⟩:=VW hr;have jl:j < zs.length:=by simpa using jl
   simp only[List.getElem_zipIdx,List.getElem_map,List.getElem_range,Nat.zero_add]
   refine wpAny_bind (wpAny_onRaise (wpAny_bind (m:=Uf (.ref (B+j))) (draw W jl (fun v h2 e1 W2=>wpAny_pure ?_) (fun h2 e e1 k2 he=>?_) _ hA)))
   ·refine wpAny_bind (wpAny_seqItems W2.to rfl (wpAny_bind (wpAny_updateSeq W2.to rfl (wpAny_bind (wpAny_letGo (wpAny_pure ⟨rfl,j+1,us.setIfInBounds j v,_,rfl,jl,rfl,?_,fun i hi=>?_⟩))) (by rw[W.ts];exact hs) (by rw[Array.size_setIfInBounds,W.ts];lia))))
    ·have k3:∀(c:Nat) o,c≠B+zs.length+1->h2.get? c=some o->(h2.update (B+zs.length+1) (Obj.mapSeq (·.setIfInBounds j v))).get? c=some o:=fun c o n e=>(UD _ _ (Ne.symm n)).trans e
     exact⟨k3 _ _ (by lia) W2.z,k3 _ _ (by lia) W2.ti,by rw[Array.size_setIfInBounds,W.ts],by(show(h2.update _ _).get? _=_);rw[UH _ W2.to rfl];simp[Obj.mapSeq],fun i k' l' hi=>(W2.it i k' l' hi).at fun o e=>k3 _ o (by have:=(ud.mp hi).1;lia) e,fun c o hc e=>k3 _ _ (by lia) (W2.kp c o hc e),by rw[tF];exact W2.sz⟩
    ·rw[Array.getElem?_setIfInBounds]
     by_cases c:j=i
     ·rw[if_pos c,if_pos (by rw[W.ts];lia),<- c,e1]
     ·rw[if_neg c]
      exact hva i (by lia)
   ·obtain⟨oe,he,ce⟩:=he
    have z2:=k2 _ _ (show B+zs.length+2≠B+j by lia) W.z;have ne:e≠B+zs.length+2:=fun x=>by
     rw[x,z2]at he;cases he;simp at ce
    exact wpAny_setField_rec z2 (by simp) fun h3 z3 u3=>qe h3 e j jl e1 (fun c o hc x=>(u3.2 c (show(c:Nat)≠B+zs.length+2 by lia)).trans (k2 c o (show(c:Nat)≠B+j by lia) (W.kp c o hc x))) ⟨oe,(u3.2 e ne).trans he,ce⟩
  case done =>
   rintro b s' ⟨rfl,j,us,h,hr,hj,rfl,W,hva⟩;have je:j=zs.length:=by
    have:=congrArg tT hr
    simp at this
    lia
   subst je;refine wpAny_bind (wpAny_seqItems W.to rfl (wpAny_bind (wpAny_newTuple (hsz:=by simp[W.ts];exact hs) ?_)));have lt5:B+zs.length+2 < h.objs.size:=uB W.z;refine wpAny_bind (m:=tL (.ref (B+zs.length+2)) (.ref h.objs.size)) ?_;unfold tL;refine wpAny_bind (wpAny_setField_rec (uc { cls:=.type "tuple",data:=.seq us } W.z) (by simp) fun h8 z8 u8=>?_);refine wpAny_setField_rec z8 (by simp) fun h9 z9 u9=>wpAny_pure ⟨.ref h.objs.size,rfl,?_⟩;have k9:∀(c:Nat) o,c≠B+zs.length+2->h.get? c=some o->h9.get? c=some o:=fun c o n e=>(u9.2 c n).trans ((u8.2 c n).trans (uc _ e));have p9:h9.get? h.objs.size=some { cls:=.type "tuple",data:=.seq us }:=(u9.2 _ (Nat.ne_of_gt lt5)).trans ((u8.2 _ (Nat.ne_of_gt lt5)).trans (uv _ rfl));have s9:h9.objs.size=h.objs.size+1:=by rw[u9.1,u8.1,Ug]
   have Z9:=W.done (j:=0) k9 z9;rw[W.sz]at p9 s9 Z9 ⊢;exact q h9 us _ false W.ts hva Z9 (.inl ⟨rfl,rfl,rfl⟩) p9 s9 fun c o hc e=>k9 _ _ (by lia) (W.kp c o hc e)
 ·have held:∀{Q':Bool->Shared->Prop},(∀h1,ZW zs s.heap h1 B n 0 (rawInt T) (.bool true) us0->Q' false { s with heap:=h1 })->wpAny (model P w) A (Uq (.ref (B+zs.length+2))) Q' E s:=by
   intro Q' qq;unfold Uq;refine wpAny_bind (wpAny_field Z.z rfl (x:=rawInt T) rfl ?_);refine wpAny_bind (m:=loadIfAlive ((T:Int).toNat)) (VX (o:=ot) (by rw[US];exact hT) ?_);rw[if_neg (by simp)];refine wpAny_bind (wpAny_field Z.z rfl (x:=.bool c) rfl ?_);cases c with
   |true =>
    rw[if_neg (by decide)];exact wpAny_pure (qq _ (W0 Z.z rfl fun d o _ e=>e))
   |false =>
    rw[if_pos (by decide)];exact wpAny_bind (wpAny_setField_rec Z.z (by simp) fun h1 z1 u1=>wpAny_pure (qq h1 (W0 z1 u1.1 fun d o n e=>(u1.2 d n).trans e)))
  refine wpAny_bind (m:=Uq (.ref (B+zs.length+2))) (held fun h1 W1=>?_);rw[if_neg uA];refine wpAny_bind ?_;rw[<- Array.forIn_toList];refine wpAny_forIn_list _ (fun rest b s'=>b.1=none/\∃j h,rest=((((uK zs.length).map fun j=>Value.ref (B+j)).toArray).toList).drop j/\j<=zs.length/\s'={ s with heap:=h }/\ZW zs s.heap h B n j (rawInt T) (.bool true) us0/\b.2.size=j/\∀i,i < j->b.2[i]?=va i) _ ?step ?done _ _ ⟨rfl,0,h1,rfl,uM _,rfl,W1,rfl,fun i hi=>absurd hi (tR _)⟩
  case step =>
   rintro x rest ⟨b,items⟩ s' ⟨hb,j,h,hr,hj,rfl,W,bs,hva⟩;obtain⟨jl,rfl,rfl⟩:=VW hr;have jl:j < zs.length:=by simpa using jl
   simp only[List.getElem_map,List.getElem_range]
   refine wpAny_bind (wpAny_holding (wpAny_bind (m:=Uf (.ref (B+j))) (draw W jl (fun v h2 e1 W2=>wpAny_pure ?_) (fun h2 e e1 k2 he=>qe h2 e j jl e1 (fun c o hc x=>k2 c o (show(c:Nat)≠B+j by lia) (W.kp c o hc x)) he) _ hA)));refine wpAny_pure ⟨rfl,j+1,_,rfl,jl,rfl,W2,?_,fun i hi=>?_⟩
   ·show(items.push v).size=_
    rw[Array.size_push,bs]
   ·show(items.push v)[i]?=_
    rw[Array.getElem?_push];by_cases c:i=items.size
    ·rw[if_pos c,c,bs,e1]
    ·rw[if_neg c]
     exact hva i (by have:items.size=j:=bs;lia)
  case done =>
   rintro⟨b,items⟩ s' ⟨hb,j,h,hr,hj,rfl,W,bs,hva⟩;have je:j=zs.length:=by
    have:=congrArg tT hr
    simp at this
    lia
   subst je;cases hb;have bs:items.size=zs.length:=bs;refine wpAny_bind (wpAny_newTuple (hsz:=by simp[bs];exact hs) (wpAny_pure ⟨.ref h.objs.size,rfl,?_⟩));have p5:(h.push { cls:=.type "tuple",data:=.seq items }).get? h.objs.size=some { cls:=.type "tuple",data:=.seq items }:=uv _ rfl;have s5:(h.push { cls:=.type "tuple",data:=.seq items }).objs.size=h.objs.size+1:=Ug ..;have k5:∀(c:Nat) o,h.get? c=some o->(h.push { cls:=.type "tuple",data:=.seq items }).get? c=some o:=fun c o e=>uc _ e;rw[W.sz]at p5 s5 ⊢;exact q _ items T true bs hva (W.done (j:=0) (fun c o _ e=>k5 c o e) (k5 _ _ W.z)) (.inr ⟨rfl,lT,ot,hT⟩) p5 s5 fun c o hc e=>k5 _ _ (W.kp c o hc e)
theorem vj(hA:A.handled=none)(Z:ZN zs s.heap B n f g)(hf:ZF B zs.length s.heap f g)(hz:0 < zs.length)(hs:zs.length<=sizeLine)(hq:AtN zs s.heap B n va)
  (q:∀h' us (T:Nat) (c:Bool),us.size=zs.length->(∀i,i < zs.length->us[i]?=va i)->ZN zs h' B (n+1) (rawInt T) (.bool c)->(T=s.heap.objs.size/\f=.none/\c=false\/f=rawInt T/\B+zs.length+3 < T/\∃o,s.heap.get? T=some o)->h'.get? s.heap.objs.size=some { cls:=.type "tuple",data:=.seq us }->h'.objs.size=s.heap.objs.size+1->KeptN B zs.length s.heap h'->Q (some (.ref s.heap.objs.size)) { s with heap:=h' })
  (qe:∀h' j,j < zs.length->va j=none->KeptN B zs.length s.heap h'->Q none { s with heap:=h' }):wpAny (model P w) A (pyNext (.ref (B+zs.length+2))) Q E s:=by
 have ty:s.TypeIs (.ref (B+zs.length+2)) "zip":=⟨_,Z.z,rfl⟩;unfold pyNext;refine wpAny_bind (wpAny_attempt (wpAny_callSpecial?_slot ty F.slot_zip_next (wpAny_call_entry F.slot_zip_next ty F.entry_zip_next ?_ (F.args_zip_next_1 (.ref (B+zs.length+2))))));refine zipN hA Z hf hz hs hq (fun h' us T c h1 h2 h3 h4 h5 h6 h7=>wpAny_pure (q h' us T c h1 h2 h3 h4 h5 h6 h7)) fun h' e j jl hv kz hq_=>?_;obtain⟨o,ho,hc⟩:=hq_;exact wpAny_bind (wpAny_isInstance (T:="StopIteration") (b:=true) ⟨o,ho,hc⟩ isSubtype_stop (wpAny_pure (qe _ j jl hv kz)))
end
abbrev ZS(k m:Bool)(h:Heap)(B l r:Nat)(n:Nat)(f g:Value):Prop:=ZN [(k,l),(m,r)] h B n f g
abbrev zbw(B:Nat)(h h':Heap):Prop:=KeptN B 2 h h'
theorem ZS.at{k:Bool}{l:Nat}{f:Value}(x:ZS k m h B l r n f g)(e:∀(b:Nat) o,B<=b->b<=B+4->h.get? b=some o->h'.get? b=some o):ZS k m h' B l r n f g:=ZN.at x e
def va2(n:Nat)(xs ys:Array Value)(j:Nat):Option Value:=if j=0 then xs[n]? else ys[n]?
section
variable{k:Bool}{l:Nat}{ys:Array Value}{y f:Value}
theorem at2(hl:Sq k h l xs)(hr:Sq m h r ys)(ll:l < B)(rl:r < B):AtN [(k,l),(m,r)] h B n (va2 n xs ys):=fun j k' l' hj=>by
 match j,hj with
 |0,hj=>cases hj;exact⟨ll,xs,hl,rfl⟩
 |1,hj=>cases hj;exact⟨rl,ys,hr,rfl⟩
theorem Yk{Q:VSP}(hl:Sq k s.heap l xs)(hr:Sq m s.heap r ys)
  (q:∀h',ZS k m h' s.heap.objs.size l r 0 .none (.bool false)->h'.objs.size=s.heap.objs.size+5->(∀c o,s.heap.get? c=some o->h'.get? c=some o)->Q (.ref (s.heap.objs.size+4)) { s with heap:=h' }) :
  wpAny (model P w) A (call (.type "zip") [.ref l,.ref r]) Q E s:=by
 apply callType_new F.called_zip (by decide) (F.typeCall_zip_2 _ _) (F.newCall_zip_2 _ _) (fun obj=>F.args_object_init_3 obj _ _) F.entry_zip_new (VV k m l r xs ys)
 refine⟨hl,hr,?_⟩;have s1:(za k s.heap l).objs.size=s.heap.objs.size+1:=Ug ..;have s2:(zb k m s.heap l r).objs.size=s.heap.objs.size+2:=by rw[Ug,s1]
 have s3:(zc k m s.heap l r).objs.size=s.heap.objs.size+3:=by rw[Ug,s2]
 have s4:(zd k m s.heap l r).objs.size=s.heap.objs.size+4:=by rw[Ug,s3]
 have s5:(ze k m s.heap l r).objs.size=s.heap.objs.size+5:=by rw[Ug,s4]
 have up:∀{c o},(zd k m s.heap l r).get? c=some o->(ze k m s.heap l r).get? c=some o:=fun e=>uc _ e;have p5:(ze k m s.heap l r).get? (zd k m s.heap l r).objs.size=some _:=uv _ rfl;have p4:(ze k m s.heap l r).get? (zc k m s.heap l r).objs.size=some _:=up (uv _ rfl);have p3:(ze k m s.heap l r).get? (zb k m s.heap l r).objs.size=some _:=up (uc _ (uv _ rfl));have p2:(ze k m s.heap l r).get? (za k s.heap l).objs.size=some _:=up (uc _ (uc _ (uv _ rfl)));have p1:(ze k m s.heap l r).get? s.heap.objs.size=some _:=up (uc _ (uc _ (uc _ (uv _ rfl))));rw[s4,s2,s3]at p5;rw[s3]at p4;rw[s2,s1]at p3;rw[s1]at p2;show _/\_;rw[s4];exact⟨⟨_,p5,rfl⟩,q _ ⟨p5,p3,⟨_,rfl,p4⟩,fun j k' l' hj=>by
  match j,hj with
  |0,hj=>cases hj;exact .of ⟨_,p1,rfl,rfl⟩
  |1,hj=>cases hj;exact .of ⟨_,p2,rfl,rfl⟩⟩ s5 fun c o e=>up (uc _ (uc _ (uc _ (uc _ e))))⟩
theorem VY(hA:A.handled=none)(Z:ZS k m s.heap B l r n f g)(hf:ZF B 2 s.heap f g)(hl:Sq k s.heap l xs)(hr:Sq m s.heap r ys)(ll:l < B)(rl:r < B)(hx:xs[n]?=some x)(hy:ys[n]?=some y)
  (q:∀h' (T:Nat) (c:Bool),ZS k m h' B l r (n+1) (rawInt T) (.bool c)->(T=s.heap.objs.size/\f=.none/\c=false\/f=rawInt T/\B+5 < T/\∃o,s.heap.get? T=some o)->IsPair h' s.heap.objs.size x y->h'.objs.size=s.heap.objs.size+1->zbw B s.heap h'->Q (some (.ref s.heap.objs.size)) { s with heap:=h' }) :
  wpAny (model P w) A (pyNext (.ref (B+4))) Q E s:=by
 refine vj hA Z hf (by show 0 < 2;decide) sN2 (at2 hl hr ll rl) (fun h' us T c h1 h2 h3 h4 h5 h6 h7=>q h' T c h3 h4 ?_ h6 h7) fun h' j jl hv _=>?_
 ·have e:us=#[x,y]:=by
   apply Array.ext_getElem?
   intro i
   match i with
   |0=>exact(h2 0 (by show 0 < 2;decide)).trans hx
   |1=>exact(h2 1 (by show 1 < 2;decide)).trans hy
   |i+2=>rw[Array.getElem?_eq_none (by rw[h1];show 2<=_;lia),Array.getElem?_eq_none (by show 2<=_;lia)]
  rw[e]at h5;exact h5
 ·unfold va2 at hv
  split at hv
  ·rw[hx]at hv;cases hv
  ·rw[hy]at hv;cases hv
theorem VZ(hA:A.handled=none)(Z:ZS k m s.heap B l r n f g)(hf:ZF B 2 s.heap f g)(hl:Sq k s.heap l xs)(hr:Sq m s.heap r ys)(ll:l < B)(rl:r < B)(hx:xs[n]?=none\/ys[n]?=none)
  (q:∀h',zbw B s.heap h'->Q none { s with heap:=h' }):wpAny (model P w) A (pyNext (.ref (B+4))) Q E s:=by
 refine vj hA Z hf (by show 0 < 2;decide) sN2 (at2 hl hr ll rl) (fun h' us T c h1 h2 h3 h4 h5 h6 h7=>?_) fun h' j jl hv kz=>q h' kz;rcases hx with e|e
 ·have:=(h2 0 (by show 0 < 2;decide)).trans e
  rw[Array.getElem?_eq_none_iff,h1]at this;exact absurd this (by show ¬ 2<=0;decide)
 ·have:=(h2 1 (by show 1 < 2;decide)).trans e
  rw[Array.getElem?_eq_none_iff,h1]at this;exact absurd this (by show ¬ 2<=1;decide)
end
structure ZL(k m:Bool)(h0 h:Heap)(B l r n:Nat)(xs ys acc:Array Value)(c:Nat)(f g:Value):Prop where
 zs:ZS k m h B l r n f g
 zf:ZF B 2 h f g
 hl:Sq k h l xs
 hr:Sq m h r ys
 sz:h.objs.size=B+6+n
 lst:h.get? (B+5)=some { cls:=.type "list",data:=.seq acc c }
 asz:acc.size=n
 par:∀i x y,i < n->xs[i]?=some x->ys[i]?=some y->acc[i]?=some (.ref (B+6+i))/\IsPair h (B+6+i) x y
 old:∀(b:Nat) o,b < B->h0.get? b=some o->h.get? b=some o
section
variable{R:Result->Shared->Prop}{k:Bool}{l:Nat}{ys:Array Value}{res:Value}
theorem Yl(hA:A.handled=none)(ll:l < B)(rl:r < B)(hN:N<=sizeLine)(hx:N<=xs.size)(hy:N<=ys.size)(he:xs.size<=N\/ys.size<=N):∀(d n:Nat)(s:Shared)(acc:Array Value)(c:Nat)(f g:Value),n+d=N->ZL k m h0 s.heap B l r n xs ys acc c f g ->
  (∀h' acc' c',h'.get? (B+5)=some { cls:=.type "list",data:=.seq acc' c' }->acc'.size=N->(∀i x y,i < N->xs[i]?=some x->ys[i]?=some y->acc'[i]?=some (.ref (B+6+i))/\IsPair h' (B+6+i) x y)->(∀(b:Nat) o,b < B->h0.get? b=some o->h'.get? b=some o)->R (.ok (.ret res)) { s with heap:=h' }) ->
  codeAny (model P w) A (.builtin "list.extend.loop" ⟨[.ref (B+5),.ref (B+4),res],[]⟩) R s
 |0,n,s,acc,c,f,g,hd,Z,q=>by
  have e:n=N:=by lia
  subst e;refine codeAny_builtin F.entry_extend_loop ?_;rw[Around.under_plainId F.plain_extend_loop _];refine wpAny_bind (m:=pyNext (.ref (B+4))) (VZ (A:=A.in1) hA Z.zs Z.zf Z.hl Z.hr ll rl ?_ fun h' kz=>wpAny_pure (q h' acc c (kz _ _ (by lia) Z.lst) Z.asz ?_ fun b o hb x=>kz _ _ (by lia) (Z.old b o hb x)))
  ·rcases he with he|he
   ·exact .inl (Array.getElem?_eq_none (by lia))
   ·exact .inr (Array.getElem?_eq_none (by lia))
  ·intro i x y hi h1 h2
   obtain⟨p1,p2⟩:=Z.par i x y hi h1 h2;exact⟨p1,kz _ _ (by lia) p2⟩
 |d+1,n,s,acc,c,f,g,hd,Z,q=>by
  refine codeAny_builtin F.entry_extend_loop ?_;rw[Around.under_plainId F.plain_extend_loop _];have hx':n < xs.size:=by lia
  have hy':n < ys.size:=by lia
  refine wpAny_bind (m:=pyNext (.ref (B+4))) (VY (A:=A.in1) hA Z.zs Z.zf Z.hl Z.hr ll rl (Array.getElem?_eq_getElem hx') (Array.getElem?_eq_getElem hy') fun h' T ct z hT p sz kz=>?_);have s0:=Z.sz;rw[s0]at p sz;have l1:h'.get? (B+5)=some { cls:=.type "list",data:=.seq acc c }:=kz _ _ (by lia) Z.lst;have as:=Z.asz;have up:∀(b:Nat) o,b≠B+5->h'.get? b=some o->(h'.update (B+5) (Obj.mapSeq (·.push (.ref (B+6+n))))).get? b=some o:=fun b o nb e=>(UD _ _ (Ne.symm nb)).trans e;rw[s0];refine wpAny_bind (m:=updateSeq (B+5) (·.push (.ref (B+6+n)))) (wpAny_updateSeq l1 rfl (wpAny_pure ⟨plainId_quiet F.plain_extend_loop _,Yl hA ll rl hN hx hy he d (n+1) _ (acc.push (.ref (B+6+n))) _ (rawInt T) (.bool ct) (by lia) ⟨?_,?_,?_,?_,?_,UH _ l1 rfl,?_,?_,?_⟩ q⟩) (by lia) (by show(acc.push _).size<=sizeLine+1;rw[Array.size_push];lia))
  ·exact z.at fun b o h1 h2 e=>up b o (by lia) e
  ·rcases hT with⟨e,_,_⟩|⟨_,lT,o,hT⟩
   ·rw[s0]at e
    subst e;exact .inr ⟨_,ct,_,rfl,rfl,up _ _ (by lia) p,by lia⟩
   ·exact .inr ⟨T,ct,o,rfl,rfl,up _ _ (by lia) (kz _ _ (by lia) hT),lT⟩
  ·exact Z.hl.at fun o e=>up _ o (by lia) (kz _ o (by lia) e)
  ·exact Z.hr.at fun o e=>up _ o (by lia) (kz _ o (by lia) e)
  ·show(h'.update _ _).objs.size=_
   rw[tF,sz];lia
  ·rw[Array.size_push,as]
  ·intro i x y hi h1 h2
   by_cases c1:i=n
   ·subst c1
    rw[Array.getElem?_eq_getElem hx']at h1;rw[Array.getElem?_eq_getElem hy']at h2;cases h1;cases h2;refine⟨?_,up _ _ (by lia) p⟩;rw[Array.getElem?_push,if_pos as.symm]
   ·obtain⟨p1,p2⟩:=Z.par i x y (by lia) h1 h2
    refine⟨?_,up _ _ (by lia) (kz _ _ (by lia) p2)⟩;rw[Array.getElem?_push,if_neg (by lia)];exact p1
  ·exact fun b o hb x=>up _ _ (by lia) (kz _ _ (by lia) (Z.old b o hb x))
end
theorem zaf:typeLookup (.type "zip") "__len__"=pure none:=by rw[typeLookup_type,builtinLookup_eq_fast];kernel_rfl
theorem V0:typeLookup (.type "zip") "__length_hint__"=pure none:=by rw[typeLookup_type,builtinLookup_eq_fast];kernel_rfl
section
variable{k:Bool}{l:Nat}{ys:Array Value}
theorem V1{Q:VSP}(hA:A.handled=none)(Z:ZS k m s.heap B l r 0 .none (.bool false))(hl:Sq k s.heap l xs)(hr:Sq m s.heap r ys)(ll:l < B)(rl:r < B)(sz:s.heap.objs.size=B+5)
  (hN:N<=sizeLine) (hx:N<=xs.size) (hy:N<=ys.size) (he:xs.size<=N\/ys.size<=N)
  (q:∀h' acc' c',h'.get? (B+5)=some { cls:=.type "list",data:=.seq acc' c' }->acc'.size=N->(∀i x y,i < N->xs[i]?=some x->ys[i]?=some y->acc'[i]?=some (.ref (B+6+i))/\IsPair h' (B+6+i) x y)->(∀(b:Nat) o,b < B->s.heap.get? b=some o->h'.get? b=some o)->Q (.ref (B+5)) { s with heap:=h' }) :
  wpAny (model P w) A (call (.type "list") [.ref (B+4)]) Q E s:=by
 refine callType_codes (Q₁:=fun obj s₁=>obj=.ref (B+5)/\s₁={ s with heap:=s.heap.push { cls:=.type "list",data:=.seq #[] } }) F.called_list (F.typeCall_list_1 _) F.entry_list_init (code_list_new _ ⟨by rw[sz],rfl⟩) ?_;rintro obj s1 ⟨rfl,rfl⟩;have l0:(s.heap.push { cls:=.type "list",data:=.seq #[] }).get? (B+5)=some { cls:=.type "list",data:=.seq #[] }:=by
  rw[<- sz];exact uv _ rfl
 have z0:(s.heap.push { cls:=.type "list",data:=.seq #[] }).objs.size=B+6:=by rw[Ug,sz]
 have up:∀(b:Nat) o,s.heap.get? b=some o->(s.heap.push { cls:=.type "list",data:=.seq #[] }).get? b=some o:=fun b o e=>uc _ e;generalize s.heap.push { cls:=.type "list",data:=.seq #[] }=h at l0 z0 up;refine⟨⟨_,l0,rfl⟩,F.args_list_init_2 _ _,?_⟩;refine wpAny_bind (m:=Builtin.List.listItems (.ref (B+5))) ?_;unfold Builtin.List.listItems;refine wpAny_bind (wpAny_seqItems l0 rfl (wpAny_pure ?_));refine wpAny_bind (m:=updateSeq (B+5) (fun _=>#[])) (wpAny_updateSeq l0 rfl ?_);have l1:=UH (Obj.mapSeq (fun _=>(#[]:Array Value))) l0 rfl;have u1:∀(b:Nat) o,b≠B+5->h.get? b=some o->(h.update (B+5) (Obj.mapSeq (fun _=>(#[]:Array Value)))).get? b=some o:=fun b o n e=>(UD _ _ (Ne.symm n)).trans e;have z1:(h.update (B+5) (Obj.mapSeq (fun _=>(#[]:Array Value)))).objs.size=B+6:=by rw[tF,z0]
 refine wpAny_bind (wpAny_letGo ?_);show wpAny _ _ (Builtin.List.listExtendWith (.ref (B+5)) (.ref (B+4)) .none) _ _ _;generalize h.update (B+5) (Obj.mapSeq (fun _=>(#[]:Array Value)))=h1 at l1 u1 z1 ⊢
 replace up:∀(b:Nat) o,b < B+5->s.heap.get? b=some o->h1.get? b=some o:=fun b o n e=>u1 b o (by lia) (up b o e)
 have Z1:ZS k m h1 B l r 0 .none (.bool false):=Z.at fun b o h1 h2 e=>up b o (by lia) e;unfold Builtin.List.listExtendWith;refine wpAny_bind (wpAny_typeOf (T:="zip") ⟨_,Z1.z,rfl⟩ ?_);have n1:Builtin.List.listSameRef (.ref (B+5)) (.ref (B+4))=false:=by simp[Builtin.List.listSameRef]
 have n2:(Value.type "zip" == Value.type "list" || Value.type "zip" == Value.type "tuple")=false:=by decide
 rw[n1,tQ,n2,if_neg uA];refine wpAny_bind (wpAny_pyIter_zip Z1.z (wpAny_bind (wpAny_holding ?_)));unfold Builtin.List.listLengthHint;refine wpAny_bind (wpAny_specialOf (T:="zip") ⟨_,Z1.z,rfl⟩ zaf ?_);refine wpAny_bind (m:=specialOf (Value.ref (B+4)) (Str.ofString "__length_hint__")) (wpAny_specialOf (T:="zip") ⟨_,Z1.z,rfl⟩ V0 (wpAny_pure ?_));refine wpAny_bind (m:=rule "list.extend.makes-room") (wpAny_rule (wpAny_bind ?_));refine wpAny_bind (m:=updateSeq (B+5) (·.push .none)) (wpAny_updateSeq l1 rfl ?_);have l2:=UH (Obj.mapSeq (·.push Value.none)) l1 rfl;refine wpAny_updateSeq (a:=B+5) (f:=(·.pop)) (hz:=by seq_fits) l2 rfl ?_;have l3:=UH (Obj.mapSeq (·.pop)) l2 rfl;have u3:∀(b:Nat) o,b≠B+5->h1.get? b=some o->((h1.update (B+5) (Obj.mapSeq (·.push Value.none))).update (B+5) (Obj.mapSeq (·.pop))).get? b=some o:=fun b o n e=>(UD _ _ (Ne.symm n)).trans ((UD _ _ (Ne.symm n)).trans e);refine wpAny_pure ⟨plainId_quiet F.plain_extend_loop _,Yl (h0:=s.heap) (A:=A.in1) (acc:=#[]) hA ll rl hN hx hy he N 0 _ _ .none (.bool false) (by lia) ⟨Z1.at fun b o h1 h2 e=>u3 b o (by lia) e,.inl rfl,?_,?_,?_,l3,rfl,?_,?_⟩ ?_⟩
 ·exact hl.at fun o e=>u3 _ o (by lia) (up _ o (by lia) e)
 ·exact hr.at fun o e=>u3 _ o (by lia) (up _ o (by lia) e)
 ·show(Heap.update (Heap.update _ _ _) _ _).objs.size=_
  rw[tF,tF,z1]
 ·intro i x y hi
  lia
 ·exact fun b o hb e=>u3 _ _ (by lia) (up _ _ (by lia) e)
 ·exact fun h' acc' c' h1 h2 h3 h4=>⟨rfl,q h' acc' c' h1 h2 h3 h4⟩
end
theorem jK(g:Nat->Nat):∀l:List Nat,Vals (l.map fun i=>V.ref (g i)) (l.map fun i=>Value.ref (g i))
 |[]=>.nil
 |i::l=>.cons rfl (jK g l)
def hpZ(H:Hp)(B N:Nat)(f:Nat->List V):Hp:=fun(b:Nat)=>if b=B+5 then some (.lst ((uK N).map fun i=>V.ref (B+6+i)))else if B+6<=b/\b < B+6+N then some (.tup (f (b-(B+6))))else H b
theorem xz{b:Nat}(h:b < B+5):hpZ H B N f b=H b:=by
 unfold hpZ;rw[if_neg (by lia),if_neg (by lia)]
theorem X4:hpZ H B N f (B+5)=some (.lst ((uK N).map fun i=>V.ref (B+6+i))):=if_pos rfl
theorem X5(h:i < N):hpZ H B N f (B+6+i)=some (.tup (f i)):=by
 unfold hpZ;rw[if_neg (by lia),if_pos (by lia)];rw[show B+6+i-(B+6)=i by lia]
theorem Inv.zipped{us:Nat->Array Value}{acc:Array Value}{c:Nat}(I:Inv X pins σ H s)(hB:s.heap.objs.size=B)(k:∀(b:Nat) o,b < B->s.heap.get? b=some o->h'.get? b=some o)
  (hl:h'.get? (B+5)=some { cls:=.type "list",data:=.seq acc c }) (hN:N<=sizeLine) (hs:acc.size=N) (ha:∀i,i < N->acc[i]?=some (.ref (B+6+i))) (ht:∀i,i < N->(f i).length<=sizeLine/\Vals (f i) (us i).toList/\h'.get? (B+6+i)=some { cls:=.type "tuple",data:=.seq (us i) }) :
  Inv X pins σ (hpZ H B N f) { s with heap:=h' }:=by
 have lt:∀{b:Nat}{u},H b=some u->b < B:=fun e=>by rw[<- hB];exact I.hok.lt e
 have lt':∀{b:Nat}{o},s.heap.get? b=some o->b < B:=fun e=>by rw[<- hB];exact uB e
 refine I.un (t':=s.toks) ⟨fun b o e _ _ _=>k b o (lt' e) e,fun b o e _ _ _=>⟨o.slots,k b o (lt' e) e⟩,fun b o e n _=>by rw[xz (by have:=lt' e;lia)];exact n,fun b o e _=>⟨o,k b o (lt' e) e⟩,
  fun b xs e=>by rw[xz (by have:=lt e;lia)];exact e,fun b u xs e=>by rw[xz (by have:=lt e;lia)];exact e,fun b ps e=>⟨#[],by rw[xz (by have:=lt e;lia),e];simp⟩⟩ fun(b:Nat) u e=>?_
 by_cases c1:b=B+5
 ·subst c1
  rw[X4]at e;cases e;refine⟨by simpa using hN,acc.toList,c,?_,by simpa using hl⟩;have e2:acc.toList=(uK N).map fun i=>Value.ref (B+6+i):=by
   apply List.ext_getElem?
   intro i;by_cases hi:i < N
   ·have:=ha i hi
    simp[hi]
    simpa using this
   ·simp[hi]
    lia
  rw[e2];exact jK _ _
 ·by_cases c2:B+6<=b/\b < B+6+N
  ·obtain⟨i,rfl⟩:∃i,b=B+6+i:=⟨b-(B+6),by lia⟩
   have hi:i < N:=by lia
   rw[X5 hi]at e;cases e;obtain⟨t1,t2,t3⟩:=ht i hi;exact⟨t1,(us i).toList,t2,⟨_,t3,rfl,rfl,0,rfl⟩⟩
  ·have e':H b=some u:=by
    unfold hpZ at e;rw[if_neg c1,if_neg c2]at e;exact e
   exact(I.hok b u e').stay (fun d v _ q=>k d v (lt' q) q) (fun d q=>by rw[xz (by have:=lt q;lia)];exact q) fun d xs q=>by rw[xz (by have:=lt q;lia)];exact q
def zdV(K:ub):List V->Hp->VK->Prop:=fun vs H Q=>∃a b xs ys,vs=[.ref a,.ref b]/\(SqL K H a xs\/SqT K H a xs)/\(SqL K H b ys\/SqT K H b ys) /\
 ∀(H':Hp)(p:Addr)(ps:List Addr),Same H H'->H p=none->H' p=some (.lst (ps.map V.ref))->ps.length=min xs.length ys.length->(∀t∈ps,H t=none/\t≠p)->ps.Nodup->(∀(i:Nat) x y,xs[i]?=some x->ys[i]?=some y->∃t,ps[i]?=some t/\H' t=some (.tup [x,y]))->Q (.ref p) H'
def zbx(K:ub)(ta:TA):TE:=fun σ H Q=>ta σ H fun vs H1=>zdV K vs H1 Q
theorem Inv.sq{xs:List V}(I:Inv X pins σ H s)(h:SqL X.K H a xs\/SqT X.K H a xs):∃(k:Bool)(its:List Value),Vals xs its/\Sq k s.heap a its.toArray/\xs.length<=sizeLine/\(a:Nat) < s.heap.objs.size:=by
 rcases h with h|h
 ·obtain⟨its,r,p,z⟩:=I.list h
  have⟨o,n,e,_⟩:=p;exact⟨true,its,r,p.isList,z,uB e⟩
 ·obtain⟨its,r,p,z⟩:=I.tuple h
  have⟨o,e,_⟩:=p;exact⟨false,its,r,p,z,uB e⟩
section
variable{a b:Expr}{ta:TA}{p1 pos1 pos2:Pos}
theorem zag(hc:X.calm=true)(hgL:Gl X "list")(hmL:X.mg "list"=none)(hgZ:Gl X "zip")(hmZ:X.mg "zip"=none)(ha:PA X [a,b] ta)
  (h1:starEach [a,b] X.env=[(false,eval a X.env),(false,eval b X.env)]:=by rfl) (h2:starEach [b] X.env=[(false,eval b X.env)]:=by rfl):PE X (.Call (.Name "list" p1) [.Call (.Name "zip" p2) [a,b] [] pos2] [] pos1) (zbx X.K ta):=by
 intro pins s σ H Q I h;refine Call_ (xG I hgL hmL Ut (Ul (Calls.spliced_cons (Call_ (xG I hgZ hmZ boot_zip (Ul (thn (ha pos2 pins s σ H _ I h) fun us s1 g=>?_) (by rw[h1,h2]) (by rw[h2];rfl))))) rfl rfl));obtain⟨vs,H1,I1,r1,a1,b1,xs,ys,rfl,hq1,hq2,q⟩:=g;obtain⟨u,u',rfl,e1,e2⟩:=Vz r1;cases e1;cases e2;obtain⟨k1,i1,v1,q1,z1,l1⟩:=I1.sq hq1;obtain⟨k2,i2,v2,q2,z2,l2⟩:=I1.sq hq2;refine Yk q1 q2 fun h' Z sz kp=>Calls.spliced_nil ?_;have hh:X.A.handled=none:=I1.ok.hd hc;have n1:=v1.length;have n2:=v2.length;refine V1 (s:={ s1 with heap:=h' }) (N:=min xs.length ys.length) hh Z (q1.at fun o=>kp _ o) (q2.at fun o=>kp _ o) l1 l2 sz (by lia) (by rw[ux];lia) (by rw[ux];lia) (by rw[ux,ux];lia) fun h'' acc c hl hs hp ho=>?_;have pairs:∀i,i < min xs.length ys.length->∃x y u v,xs[i]?=some x/\ys[i]?=some y/\i1[i]?=some u/\i2[i]?=some v/\RelV x u/\RelV y v:=fun i hi=>by
  have c1:i < xs.length:=by lia
  have c2:i < ys.length:=by lia
  obtain⟨u,e1,r1⟩:=v1.get (uh c1);obtain⟨v,e2,r2⟩:=v2.get (uh c2);exact⟨_,_,u,v,uh c1,uh c2,e1,e2,r1,r2⟩
 have I2:Inv X pins σ (hpZ H1 s1.heap.objs.size (min xs.length ys.length) fun i=>[xs.getD i .non,ys.getD i .non]) { s1 with heap:=h'' }:=by
  refine I1.zipped (us:=fun i=>#[i1.getD i .none,i2.getD i .none]) (acc:=acc) (c:=c) rfl (fun b o hb e=>ho b o hb (kp _ _ e)) hl (by lia) hs (fun i hi=>?_) fun i hi=>?_
  ·obtain⟨x,y,u,v,_,_,e1,e2,_⟩:=pairs i hi
   exact(hp i u v hi (by simpa using e1) (by simpa using e2)).1
  ·obtain⟨x,y,u,v,f1,f2,e1,e2,r1,r2⟩:=pairs i hi
   refine⟨sN2,?_,?_⟩
   ·rw[Ua,Ua,f1,f2]
    rw[Ua,Ua,e1,e2];exact .cons r1 (.cons r2 .nil)
   ·rw[Ua,Ua,e1,e2]
    exact(hp i u v hi (by simpa using e1) (by simpa using e2)).2
 have old:∀{c:Nat}{o},H1 c=some o->c < s1.heap.objs.size:=fun e=>I1.hok.lt e;refine⟨.ref (s1.heap.objs.size+5),_,I2,rfl,q _ _ ((uK (min xs.length ys.length)).map fun i=>s1.heap.objs.size+6+i) (fun c o e=>?_) (I1.hok.fresh (UP _ _)) ?_ (by simp) ?_ ?_ ?_⟩
 ·rw[xz (by have:=old e;lia)]
  exact e
 ·rw[X4,UB]
  rfl
 ·intro t ht
  obtain⟨i,_,rfl⟩:=uu.mp ht;refine⟨I1.hok.fresh ?_,?_⟩
  ·show s1.heap.objs.size<=s1.heap.objs.size+6+i
   lia
  ·show s1.heap.objs.size+6+i≠s1.heap.objs.size+5
   lia
 ·refine List.Pairwise.map _ (fun i j (ne:i≠j) e=>ne ?_) List.nodup_range
  have e':s1.heap.objs.size+6+i=s1.heap.objs.size+6+j:=e;exact Nat.add_left_cancel e'
 ·intro i x y hx hy
  have c1:i < xs.length:=(ud.mp hx).1;have c2:i < ys.length:=(ud.mp hy).1;refine⟨s1.heap.objs.size+6+i,?_,?_⟩
  ·rw[ug,tM (by lia)]
   rfl
  ·rw[X5 (by lia),Ua,Ua,hx,hy]
   rfl
theorem X6(hc:X.calm=true)(hgL:Gl X "list")(hmL:X.mg "list"=none)(hgZ:Gl X "zip")(hmZ:X.mg "zip"=none)(ha:jA X [a,b] ta)(h1:zy a=false:=by rfl)(h2:zy b=false:=by rfl):
  jE X (.Call (.Name "list" p1) [.Call (.Name "zip" p2) [a,b] [] pos2] [] pos1) (zbx X.K ta):=⟨zag hc hgL hmL hgZ hmZ ha.out (by rw[zG h1,zG h2];rfl) (by rw[zG h2];rfl)⟩
end
def SqK(k:Bool)(K:ub)(H:Hp)(a:Addr)(xs:List V):Prop:=match k with
 |true=>SqL K H a xs
 |false=>SqT K H a xs
theorem Inv.sqk{k:Bool}{xs:List V}(I:Inv X pins σ H s)(h:SqK k X.K H a xs):∃its:List Value,Vals xs its/\Sq k s.heap a its.toArray/\xs.length<=sizeLine/\(a:Nat) < s.heap.objs.size:=by
 cases k with
 |true =>
  obtain⟨its,r,p,z⟩:=I.list h;have⟨o,n,e,_⟩:=p;exact⟨its,r,p.isList,z,uB e⟩
 |false =>
  obtain⟨its,r,p,z⟩:=I.tuple h;have⟨o,e,_⟩:=p;exact⟨its,r,p,z,uB e⟩
theorem Inv.sqk_inj{k:Bool}{xs ys:List V}(I:Inv X pins σ H s)(h:SqK k X.K H a xs)(h':SqK k X.K H a ys):xs=ys:=by
 cases k with
 |true=>exact I.list_inj h h'
 |false=>exact I.tuple_inj h h'
def ItN(K:ub)(zs:List (Bool×Addr)):It :=
 ⟨fun i H=>∃vs:List V,vs.length=zs.length/\∀(j:Nat) k a,zs[j]?=some (k,a)->∃xs,SqK k K H a xs/\xs[i]?=vs[j]?,
   fun i H v H'=>∃T vs,v=.ref T/\H T=none/\H'=upd H T (.tup vs)/\vs.length=zs.length/\∀(j:Nat) k a xs,zs[j]?=some (k,a)->SqK k K H a xs->xs[i]?=vs[j]?,
   fun i H=>(∀(j:Nat) k a,zs[j]?=some (k,a)->∃xs,SqK k K H a xs)/\∃(j:Nat)(k:Bool)(a:Addr)(xs:List V),zs[j]?=some (k,a)/\SqK k K H a xs/\xs.length<=i⟩
def fpN(B N:Nat):List Nat:=(uK (N+3)).map (B + ·)
theorem fpN_iff{c:Nat}:c∈fpN B N↔B<=c/\c<=B+N+2:=by
 unfold fpN;rw[uu];exact⟨fun⟨i,hi,e⟩=>by have:=Uu.mp hi;lia,fun h=>⟨c-B,Uu.mpr (by lia),by lia⟩⟩
theorem KeptN.of(z:KeptN B N h h'):∀(b:Nat) o,b∉fpN B N->h.get? b=some o->h'.get? b=some o:=fun b o n e=>z b o (by rw[fpN_iff]at n;lia) e
theorem X7{f:Value}(Z:ZN zs h B n f g):∀b∈fpN B zs.length,∃o,h.get? b=some o/\∀v,o.data≠.cell v:=by
 intro b hb;rw[fpN_iff]at hb;obtain⟨us,_,e2⟩:=Z.to;rcases(show b < B+zs.length\/b=B+zs.length\/b=B+zs.length+1\/b=B+zs.length+2 by lia)with c|rfl|rfl|rfl
 ·obtain⟨o,e,_,d⟩:=(Z.it (b-B) _ _ (uh (by lia))).ex
  exact⟨o,by rw[show b=B+(b-B) by lia];exact e,fun v z=>by rw[d]at z;cases z⟩
 ·exact⟨_,Z.ti,fun v z=>by cases z⟩
 ·exact⟨_,e2,fun v z=>by cases z⟩
 ·exact⟨_,Z.z,fun v z=>by cases z⟩
theorem V2{α β:Type}{R:α->β->Prop}:∀l:List α,(∀(j:Nat) a,l[j]?=some a->∃b,R a b)->∃m:List β,∀(j:Nat) a,l[j]?=some a->∃b,m[j]?=some b/\R a b
 |[],_=>⟨[],fun j a h=>by simp at h⟩
 |a::l,h=>by
  obtain⟨b,hb⟩:=h 0 a rfl;obtain⟨m,hm⟩:=V2 l fun j a h'=>h (j+1) a (by simpa using h');refine⟨b::m,fun j a' h'=>?_⟩;cases j with
  |zero=>cases h';exact⟨b,rfl,hb⟩
  |succ j=>exact hm j a' (by simpa using h')
theorem X8:∀{xs:List V}{us:List Value},xs.length=us.length->(∀(j:Nat) x u,xs[j]?=some x->us[j]?=some u->RelV x u)->Vals xs us
 |[],[],_,_=>.nil
 |[],_::_,h,_=>by simp at h
 |_::_,[],h,_=>by simp at h
 |x::xs,u::us,h,g=>.cons (g 0 x u rfl rfl) (X8 (by simpa using h) fun j a b h1 h2=>g (j+1) a b (by simpa using h1) (by simpa using h2))
theorem Ym{zs:List (Bool×Addr)}(hz:0 < zs.length)(hs:zs.length<=sizeLine)(la:∀(j:Nat) k a,zs[j]?=some (k,a)->(a:Nat) < B):
  Turn P w K (.Tuple elts n pos) (ItN K zs) (fpN B zs.length) (B+zs.length+2) (fun i h=>ZN zs h B i .none (.bool false)) where
 mem:=fpN_iff.mpr ⟨by lia,by lia⟩
 obj:=fun i h st=>X7 st
 keep:=fun i h h' st kp=>st.at fun c o h1 h2 e=>kp c (fpN_iff.mpr ⟨h1,h2⟩) o e
 item:=by
  intro X hP hw hK hc i pins s σ H E I hf st hg;subst hP hw hK;obtain⟨vs,vl,hv⟩:=hg;obtain⟨m,hm⟩:=V2 (R:=fun p (q:List V×List Value)=>SqK p.1 X.K H p.2 q.1/\Vals q.1 q.2/\Sq p.1 s.heap p.2 q.2.toArray) zs fun j p hj=>by
   obtain⟨xs,h1,_⟩:=hv j p.1 p.2 hj;obtain⟨its,v1,q1,_⟩:=I.sqk h1;exact⟨(xs,its),h1,v1,q1⟩
  have at_:AtN zs s.heap B i fun j=>(m[j]?).bind fun q=>q.2[i]?:=fun j k a hj=>by
   obtain⟨q,e1,_,_,e2⟩:=hm j (k,a) hj;exact⟨la j k a hj,_,e2,by(show _=(m[j]?).bind _);rw[e1];simp⟩
  refine vj (I.ok.hd hc) st (.inl rfl) hz hs at_ (fun h' us T c h1 h2 h3 h4 h5 h6 h7=>⟨_,rfl,?_⟩) fun h' j jl hn _=>?_
  ·rcases h4 with⟨rfl,_,rfl⟩|⟨z,_⟩
   ·have new:ObjOk X.prog X.w (upd H s.heap.objs.size (.tup vs)) h' s.heap.objs.size (.tup vs):=by
     refine⟨by rw[vl];exact hs,us.toList,X8 (vl.trans (h1.symm.trans Array.length_toList.symm)) fun j x u e1 e2=>?_,⟨_,h5,rfl,rfl,_,rfl⟩⟩;have jl:j < zs.length:=by rw[<- vl];exact(ud.mp e1).1
     obtain⟨xs,g1,g2⟩:=hv j _ _ (uh jl);obtain⟨q,f1,f2,f3,_⟩:=hm j _ (uh jl);rw[I.sqk_inj g1 f2,e1]at g2;obtain⟨u',f4,f5⟩:=f3.get g2;rw[Array.getElem?_toList,h2 j jl,f1,Option.bind_some,f4]at e2;cases e2;exact f5
    have I1:Inv X pins σ (upd H s.heap.objs.size (.tup vs)) { s with heap:=h' }:=I.turnsLaid (t':=s.toks) (ch:=fpN B zs.length) h7.of hf (uj _) new;have hn:∀c∈fpN B zs.length,upd H s.heap.objs.size (.tup vs) c=none:=fun c hc=>by
     obtain⟨o,e,_⟩:=X7 st c hc;rw[zj (u7 (uB e))];exact(hf c hc).1
    refine wpAny_letOwnedTupleGo_zip h3.z fun h8 z2 u2=>?_;have I2:Inv X pins σ (upd H s.heap.objs.size (.tup vs)) { s with heap:=h8 }:=Inv.turns (s:={ s with heap:=h' }) (t':=s.toks) (ch:=fpN B zs.length) I1 (fun c o hc e=>(u2.2 c fun z=>hc (by rw[z];exact fpN_iff.mpr ⟨by lia,by lia⟩)).trans e) fun c hc=>⟨hn c hc,(hf c hc).2⟩;have up:∀(c:Nat) o,c≠B+zs.length+2->h'.get? c=some o->h8.get? c=some o:=fun c o n e=>(u2.2 c n).trans e;refine⟨.ref s.heap.objs.size,_,I2,rfl,⟨_,vs,rfl,I.fresh,rfl,vl,fun j k a xs hj hx=>?_⟩,⟨z2,up _ _ (by lia) h3.ti,let ⟨us,c,e⟩:=h3.to;⟨us,c,up _ _ (by lia) e⟩,fun j k a hj=>(h3.it j k a hj).at fun o e=>up _ _ (by have:=(ud.mp hj).1;lia) e⟩,hn⟩;obtain⟨xs',g1,g2⟩:=hv j k a hj;rw[I.sqk_inj hx g1];exact g2
   ·unfold rawInt at z
    cases z
  ·obtain⟨xs,g1,g2⟩:=hv j _ _ (uh jl)
   obtain⟨q,f1,f2,f3,_⟩:=hm j _ (uh jl);obtain⟨v,hw⟩:∃v,vs[j]?=some v:=⟨_,uh (by lia)⟩;rw[I.sqk_inj g1 f2,hw]at g2;obtain⟨u',f4,f5⟩:=f3.get g2;rw[f1,Option.bind_some,f4]at hn;cases hn
 done:=by
  intro X hP hw hK hc i pins s σ H E I hf st hg;subst hP hw hK;obtain⟨hv,j0,k0,a0,x0,hj0,hx0,hl0⟩:=hg;obtain⟨m,hm⟩:=V2 (R:=fun p (q:List V×List Value)=>SqK p.1 X.K H p.2 q.1/\Vals q.1 q.2/\Sq p.1 s.heap p.2 q.2.toArray) zs fun j p hj=>by
   obtain⟨xs,h1⟩:=hv j p.1 p.2 hj;obtain⟨its,v1,q1,_⟩:=I.sqk h1;exact⟨(xs,its),h1,v1,q1⟩
  have at_:AtN zs s.heap B i fun j=>(m[j]?).bind fun q=>q.2[i]?:=fun j k a hj=>by
   obtain⟨q,e1,_,_,e2⟩:=hm j (k,a) hj;exact⟨la j k a hj,_,e2,by(show _=(m[j]?).bind _);rw[e1];simp⟩
  refine vj (I.ok.hd hc) st (.inl rfl) hz hs at_ (fun h' us T c h1 h2 h3 h4 h5 h6 h7=>?_) fun h' j jl hn kz=>⟨rfl,I.turns (t':=s.toks) (ch:=fpN B zs.length) kz.of hf⟩;have jl:=(ud.mp hj0).1;obtain⟨q,f1,f2,f3,_⟩:=hm j0 _ hj0;have f4:=f3.length;have e:=h2 j0 jl;rw[<- I.sqk_inj hx0 f2]at f4;rw[f1,Option.bind_some,U8 (by lia),Array.getElem?_eq_none_iff]at e;lia
 self:=fun _ _ _ _ _ st h=>by
  have ty:Shared.TypeIs _ (.ref (B+zs.length+2)) "zip":=⟨_,st.z,rfl⟩;exact wpAny_pyIter_slot ty F.slot_zip_iter (wpAny_call_entry F.slot_zip_iter ty F.entry_zip_iter (wpAny_pure ⟨_,rfl,"zip",_,ty,F.slot_zip_next.lookup,h⟩) (F.args_zip_iter_1 (.ref (B+zs.length+2))))
abbrev Itz(K:ub)(k m:Bool)(a b:Addr):It:=ItN K [(k,a),(m,b)]
section
variable{k e:Bool}{xs ys zs:List V}{x y z v:V}
theorem go2(q1:SqK k K H a xs)(q2:SqK m K H b ys)(hx:xs[i]?=some x)(hy:ys[i]?=some y):(Itz K k m a b).go i H:=⟨[x,y],rfl,fun j k' a' hj=>by
 match j,hj with
 |0,hj=>cases hj;exact⟨xs,q1,hx⟩
 |1,hj=>cases hj;exact⟨ys,q2,hy⟩⟩
theorem zby(q1:SqK k K H a xs)(q2:SqK m K H b ys)(h:xs.length<=i):(Itz K k m a b).stop i H:=⟨fun j k' a' hj=>by
 match j,hj with
 |0,hj=>cases hj;exact⟨xs,q1⟩
 |1,hj=>cases hj;exact⟨ys,q2⟩,0,k,a,xs,rfl,q1,h⟩
theorem yld2(h:(Itz K k m a b).yld i H v H')(q1:SqK k K H a xs)(q2:SqK m K H b ys):∃T x y,v=.ref T/\H T=none/\H'=upd H T (.tup [x,y])/\xs[i]?=some x/\ys[i]?=some y:=by
 obtain⟨T,vs,h1,h2,h3,h4,h5⟩:=h;obtain⟨x,vs,rfl⟩:=Um h4;obtain⟨y,vs,rfl⟩:=Um (Nat.succ.inj h4);rw[u5.mp (Nat.succ.inj (Nat.succ.inj h4))]at h3 h5;exact⟨T,x,y,h1,h2,h3,h5 0 k a xs rfl q1,h5 1 m b ys rfl q2⟩
end
def iZip(K:ub)(ta:TA):TI:=fun σ H R=>ta σ H fun vs H1=>∃a b k m xs ys,vs=[.ref a,.ref b]/\SqK k K H1 a xs/\SqK m K H1 b ys/\R (Itz K k m a b) H1
theorem zcI{a b:Expr}{ta:TA}(hg:Gl X "zip")(hm:X.mg "zip"=none)(ha:PA X [a,b] ta)(h1:starEach [a,b] X.env=[(false,eval a X.env),(false,eval b X.env)]:=by rfl)(h2:starEach [b] X.env=[(false,eval b X.env)]:=by rfl):
  PI X (.Tuple elts n tpos) (.Call (.Name "zip" p) [a,b] [] pos) (iZip X.K ta):=by
 intro pins s σ H R I h;refine Call_ (xG I hg hm boot_zip (Ul (thn (ha pos pins s σ H _ I h) fun us s1 g=>?_) (by rw[h1,h2]) (by rw[h2];rfl)));obtain⟨vs,H1,I1,r1,a1,b1,k,m,xs,ys,rfl,g1,g2,q⟩:=g;obtain⟨u,u',rfl,e1,e2⟩:=Vz r1;cases e1;cases e2;obtain⟨i1,v1,q1,z1,l1⟩:=I1.sqk g1;obtain⟨i2,v2,q2,z2,l2⟩:=I1.sqk g2;refine Yk q1 q2 fun h' Z sz kp=>?_;have tz:=Ym (P:=X.prog) (w:=X.w) (K:=X.K) (elts:=elts) (n:=n) (pos:=tpos) (zs:=[(k,a1),(m,b1)]) (B:=s1.heap.objs.size) (by show 0 < 2;decide) sN2 fun j k' a' hj=>by
  match j,hj with
  |0,hj=>cases hj;exact l1
  |1,hj=>cases hj;exact l2
 refine tz.self X.A 0 { s1 with heap:=h' } _ _ Z ⟨s1.heap.objs.size+4,_,_,_,H1,rfl,I1.kept (t':=s1.toks) kp,tz,Z,fun c hc=>?_,q⟩;have le:s1.heap.objs.size<=c:=(fpN_iff.mp hc).1;exact I1.fpOk le (I1.hok.fresh le)
theorem zcJ{a b:Expr}{t:TA}(hg:Gl X "zip")(hm:X.mg "zip"=none)(ha:jA X [a,b] t)(h1:zy a=false:=by rfl)(h2:zy b=false:=by rfl):jI X (.Tuple elts n tpos) (.Call (.Name "zip" p) [a,b] [] pos) (iZip X.K t) :=
 ⟨zcI hg hm ha.out (by rw[zG h1,zG h2];rfl) (by rw[zG h2];rfl)⟩
structure Ca(P:Program)(w:World)(K:ub)(mg:Str->Option Value)(base:Heap)(CX:CXT)(k:Nat)(x:Str)(ps:lS)(sp:Sp):Prop where
 ex:∃f fd,FnOk P w K mg base CX k f fd ps sp/\Binds K fd ps []/\u4 K (.ref f)=true/\mg x=some (.ref f)
structure Me(P:Program)(w:World)(K:ub)(mg:Str->Option Value)(base:Heap)(CX:CXT)(k:Nat)(C:Addr)(m:Str)(ps:lS)(sp:Sp):Prop where
 ex:∃f fd,FnOk P w K mg base CX k f fd ps sp/\Binds K fd ps []/\Meth K C m f
structure Ma(P:Program)(w:World)(K:ub)(mg:Str->Option Value)(base:Heap)(CX:CXT)(k:Nat)(x:Str)(C:Addr)(ps:lS)(sp:Sp):Prop where
 ex:∃f fd,Mk K C f/\FnOk P w K mg base CX k f fd ps sp/\Binds K fd ps []/\mg x=some (.ref C)
section
variable{k:Nat}{E:XK}{x m n f:Str}{np epos hpos:Pos}{a:Expr}{as:List Expr}{tv:TE}{t:TA}
theorem zbz(F:Ca X.prog X.w X.K X.mg X.base CX k x ps sp)(hr:Room k X.A)(hg:Gl X x)(hx:yU CX X E)(ha:jA X (e::es) t)(hdb:(x == ("__debug__":Str))=false:=by decide)(h1:zy e=false:=by rfl)(h2:es.all (fun e=>!zy e)=true:=by rfl):
  jE X (.Call (.Name x p) (e::es) [] pos) (Yc sp [] E t):=let ⟨_,_,G,b,kp,mg⟩:=F.ex;zdS G hr hg mg kp b .nil hx ha hdb h1 h2
theorem vM{pl:Sem Bool}(he:jE X o ta)(c:Cls X.K C)(F:Me X.prog X.w X.K X.mg X.base CX k C m ps sp)(hr:Room k X.A)(hx:yU CX X E)(ha:jA X (e::es) t)(h1:zy e=false:=by rfl)(h2:es.all (fun e=>!zy e)=true:=by rfl)
  (ht:eval (.Call (.Attribute o m apos) (e::es) [] pos) X.env=(do
   let ov <- eval o X.env
   standAt apos.atName
   let (f,first) <- holding [ov] (getMethod ov m pl)
   callWith pos f first (backTo pos (starEach (e::es) X.env)) (backToKw pos (keywordEach [] X.env))):=by rfl) :
  jE X (.Call (.Attribute o m apos) (e::es) [] pos) (zbl C m sp [] E ta t):=let ⟨_,_,G,b,mt⟩:=F.ex;⟨QS he.out c mt G hr b .nil hx ha.out (zG h1) (yF h2) ht⟩
theorem ve(F:Ma X.prog X.w X.K X.mg X.base CX k x C ps sp)(hr:Room (k+1) X.A)(hg:Gl X x)(hx:yU CX X E)(ha:jA X (e::es) t)(hdb:(x == ("__debug__":Str))=false:=by decide)(h1:zy e=false:=by rfl)(h2:es.all (fun e=>!zy e)=true:=by rfl):
  jE X (.Call (.Name x p) (e::es) [] pos) (zbm C sp [] E t):=let ⟨_,_,M,G,b,mg⟩:=F.ex;⟨QT M G hr hg mg b .nil hx ha.out hdb (zG h1) (yF h2)⟩
theorem zcK(he:jE X e ta)(hb:attributeBase e f X.env (eval e X.env)=eval e X.env:=by rfl):jE X (.Attribute e f pos) (tFld X.K ta f):=⟨zcn he.out hb⟩
theorem xp(ha:jE X o ta)(hv:jE X value tv)(hs:swapsWith value (some (.Attribute o f pos')) pos.line X.env=pure false:=by rfl):jS X (.Assign [.Attribute o f pos'] value pos) (sFld X.K ta tv f):=⟨zco ha.out hv.out hs⟩
end
end L2
namespace L2
open PySem
variable{p:List Value->Prop}
section
variable{p q:Pos}
theorem jA1(h1:jE X e1 t1)(s1:zy e1=false:=by rfl):jA X [e1] (yh t1 tNil):=(ja_c h1 zL s1)
theorem jA2(h1:jE X e1 t1)(h2:jE X e2 t2)(s1:zy e1=false:=by rfl)(s2:zy e2=false:=by rfl):jA X [e1,e2] (yh t1 (yh t2 tNil)):=(ja_c h1 (ja_c h2 zL s2) s1)
theorem jA3(h1:jE X e1 t1)(h2:jE X e2 t2)(h3:jE X e3 t3)(s1:zy e1=false:=by rfl)(s2:zy e2=false:=by rfl)(s3:zy e3=false:=by rfl):jA X [e1,e2,e3] (yh t1 (yh t2 (yh t3 tNil))):=(ja_c h1 (ja_c h2 (ja_c h3 zL s3) s2) s1)
theorem jA4(h1:jE X e1 t1)(h2:jE X e2 t2)(h3:jE X e3 t3)(h4:jE X e4 t4)(s1:zy e1=false:=by rfl)(s2:zy e2=false:=by rfl)(s3:zy e3=false:=by rfl)(s4:zy e4=false:=by rfl):jA X [e1,e2,e3,e4] (yh t1 (yh t2 (yh t3 (yh t4 tNil)))):=(ja_c h1 (ja_c h2 (ja_c h3 (ja_c h4 zL s4) s3) s2) s1)
theorem jA5{t5:TE}(h1:jE X e1 t1)(h2:jE X e2 t2)(h3:jE X e3 t3)(h4:jE X e4 t4)(h5:jE X e5 t5)(s1:zy e1=false:=by rfl)(s2:zy e2=false:=by rfl)(s3:zy e3=false:=by rfl)(s4:zy e4=false:=by rfl)(s5:zy e5=false:=by rfl):jA X [e1,e2,e3,e4,e5] (yh t1 (yh t2 (yh t3 (yh t4 (yh t5 tNil))))):=(ja_c h1 (ja_c h2 (ja_c h3 (ja_c h4 (ja_c h5 zL s5) s4) s3) s2) s1)
theorem jA6{t5:TE}{e6:Expr}{t6:TE}(h1:jE X e1 t1)(h2:jE X e2 t2)(h3:jE X e3 t3)(h4:jE X e4 t4)(h5:jE X e5 t5)(h6:jE X e6 t6)(s1:zy e1=false:=by rfl)(s2:zy e2=false:=by rfl)(s3:zy e3=false:=by rfl)(s4:zy e4=false:=by rfl)(s5:zy e5=false:=by rfl)(s6:zy e6=false:=by rfl):jA X [e1,e2,e3,e4,e5,e6] (yh t1 (yh t2 (yh t3 (yh t4 (yh t5 (yh t6 tNil)))))):=(ja_c h1 (ja_c h2 (ja_c h3 (ja_c h4 (ja_c h5 (ja_c h6 zL s6) s5) s4) s3) s2) s1)
theorem jA7{t5:TE}{e6:Expr}{t6:TE}{e7:Expr}{t7:TE}(h1:jE X e1 t1)(h2:jE X e2 t2)(h3:jE X e3 t3)(h4:jE X e4 t4)(h5:jE X e5 t5)(h6:jE X e6 t6)(h7:jE X e7 t7)(s1:zy e1=false:=by rfl)(s2:zy e2=false:=by rfl)(s3:zy e3=false:=by rfl)(s4:zy e4=false:=by rfl)(s5:zy e5=false:=by rfl)(s6:zy e6=false:=by rfl)(s7:zy e7=false:=by rfl):jA X [e1,e2,e3,e4,e5,e6,e7] (yh t1 (yh t2 (yh t3 (yh t4 (yh t5 (yh t6 (yh t7 tNil))))))):=(ja_c h1 (ja_c h2 (ja_c h3 (ja_c h4 (ja_c h5 (ja_c h6 (ja_c h7 zL s7) s6) s5) s4) s3) s2) s1)
theorem cA{k:Nat}{t:TA}(F:Ca X.prog X.w X.K X.mg X.base CX0 k x ps sp)(hr:Room k X.A)(ha:jA X (e::es) t)(hg:Gl X x:=by rfl)(hdb:(x == ("__debug__":Str))=false:=by decide)(h1:zy e=false:=by rfl)(h2:es.all (fun e=>!zy e)=true:=by rfl):jE X (.Call (.Name x p) (e::es) [] pos) (Yc sp [] E0 t):=zbz F hr hg yJ ha hdb h1 h2
theorem xX{r:R2}{a b:Expr}(hr:jIx X r)(ha:jE X a ta)(hb:jE X b tb)(hs:Zb b:=by exact fun _ _=>rfl):jE X (.Subscript a b pos) (tOp r ta tb):=Yf hr ha hb hs
theorem xT(i:Nat){n j}(hN:X.N[i]?=some x:=by rfl)(hv:Vis X.env.scope x:=by first|exact Or.inl rfl|exact Or.inr (Or.inl rfl)|exact Or.inr (Or.inr rfl))(hd:(x == ("__debug__":Str))=false:=by decide)(hcd:(x == ("__classdict__":Str))=false:=by decide):jE X (.Subscript (.Name x p) (.Constant (.int n) j q) pos) (tOp (rIxT X.K) (tVar i) (tC (.int n))):=Yf VR (jv i hN hv hd hcd) zt (fun _ _=>rfl)
theorem xL(i:Nat){n j}(hN:X.N[i]?=some x:=by rfl)(hv:Vis X.env.scope x:=by first|exact Or.inl rfl|exact Or.inr (Or.inl rfl)|exact Or.inr (Or.inr rfl))(hd:(x == ("__debug__":Str))=false:=by decide)(hcd:(x == ("__classdict__":Str))=false:=by decide):jE X (.Subscript (.Name x p) (.Constant (.int n) j q) pos) (tOp (rIxL X.K) (tVar i) (tC (.int n))):=Yf X3 (jv i hN hv hd hcd) zt (fun _ _=>rfl)
theorem sE(i:Nat)(hN:X.N.Nodup)(he:jE X e te)(hi:X.N[i]?=some x:=by rfl)(hx:Loc X.env.scope x:=by first|exact Or.inl rfl|exact Or.inr rfl)(hs:swapsWith e (some (.Name x q)) pos.line X.env=pure false:=by rfl)(hf:X.fn x=true\/X.env.scope.names.lookup x=some .local:=by first|exact .inl rfl|exact .inr rfl|assumption):jS X (.Assign [.Name x q] e pos) (tAsg te (w5 i)):=zcC hN hi hx he hs hf
theorem gN(i:Nat)(hN:X.N.Nodup)(hi:X.N[i]?=some x:=by rfl)(hx:Loc X.env.scope x:=by first|exact Or.inl rfl|exact Or.inr rfl)(hf:X.fn x=true\/X.env.scope.names.lookup x=some .local:=by first|exact .inl rfl|exact .inr rfl|assumption):jG X (.Name x pos) (w5 i):=Q8 hN hi hx hf
theorem tN{r:R2}{a c:Expr}(ho:jOp X (compareOp op) r)(ha:jE X a ta)(hb:jE X c tb)(hm:behindInMarks op c=false:=by exact xI _):jT X (.Compare a [op] [c] pos) (vE (tOp r ta tb)):=Zh ho ha hb hm
theorem aB{p q:Prop}[Decidable p](h:¬ p:=by decide):p->q:=fun c=>absurd c h
end
theorem zO:sizeLine=16777216:=by decide
def FnIn(K:ub)(x qual:Str)(st:Stmt)(f:Addr):Prop:=∃(oc:Value)(od:Option Addr)(kV doc pm:Value)(an:Option Addr)(cdv ct:Value)(osl:Array (Option Value)),K.lookup f=some ⟨oc,od,.func (Uh x qual (yk st) (zP st) (zp st) .none kV doc pm an cdv ct),osl⟩/\UL K cdv qual=true/\u4 K (.ref f)=true
theorem FnIn.fn(h:FnIn K x qual st f):∃fd,Fun K x qual st f fd/\u4 K (.ref f)=true:=by
 obtain⟨_,_,_,_,_,_,_,_,_,l,c,k⟩:=h;exact⟨_,VM l c k,k⟩
def DfIn(K:ub)(x:Str)(st:Stmt):Prop:=∃f,UJ K mainGlobals x=some (some (.ref f))/\FnIn K x x st f
def MeIn(K:ub)(C:Addr)(x qual:Str)(st:Stmt):Prop:=∃f,uV K (.ref C) x=some (some (.ref f))/\PySem.W.isFn K (.ref f)=true/\FnIn K x qual st f
theorem MeIn.me{k:Nat}(h:MeIn K C x qual st)(hb:∀(kV doc pm:Value)(an:Option Addr)(cdv ct:Value)(us:List Value),us.length=ps.length->bindArgs (Uh x qual (yk st) (zP st) (zp st) .none kV doc pm an cdv ct) ⟨us,[]⟩=pure (ps.zip us))
  (ok:∀f fd,Fun K x qual st f fd->FnOk P w K mg base CX k f fd ps sp):Me P w K mg base CX k C x ps sp:=by
 obtain⟨f,a,n,g⟩:=h;obtain⟨fd,F,kp⟩:=g.fn;exact⟨f,fd,ok f fd F,F.binds hb,a,n,kp⟩
theorem MeIn.ma{k:Nat}(h:MeIn K C "__init__" qual st)(hb:∀(kV doc pm:Value)(an:Option Addr)(cdv ct:Value)(us:List Value),us.length=ps.length->bindArgs (Uh "__init__" qual (yk st) (zP st) (zp st) .none kV doc pm an cdv ct) ⟨us,[]⟩=pure (ps.zip us))
  (mk:PySem.W.makesIn K C=true) (kp:u4 K (.ref C)=true) (hm:mg x=some (.ref C)) (ok:∀f fd,Fun K "__init__" qual st f fd->FnOk P w K mg base CX k f fd ps sp):Ma P w K mg base CX k x C ps sp:=by
 obtain⟨f,a,n,g⟩:=h;obtain⟨fd,F,_⟩:=g.fn;exact⟨f,fd,⟨mk,a,n,kp⟩,ok f fd F,F.binds hb,hm⟩
theorem DfIn.ca{k:Nat}(X:K.In h)(G:h.Ns mainGlobals mg)(d:DfIn K x st)(hb:∀(kV doc pm:Value)(an:Option Addr)(cdv ct:Value)(us:List Value),us.length=ps.length->bindArgs (Uh x x (yk st) (zP st) (zp st) .none kV doc pm an cdv ct) ⟨us,[]⟩=pure (ps.zip us))
  (ok:∀f fd,Fun K x x st f fd->FnOk P w K mg base CX k f fd ps sp):Ca P w K mg base CX k x ps sp:=by
 obtain⟨f,a,g⟩:=d;obtain⟨fd,F,kp⟩:=g.fn;exact⟨f,fd,ok f fd F,F.binds hb,kp,U7 X G a⟩
theorem DfIn.mk{kV:Value}(a:UJ K mainGlobals x=some (some (.ref f)))(l:K.lookup f=some ⟨oc,od,.func (Uh x x (yk st) (zP st) (zp st) .none kV doc pm an cdv ct),osl⟩)(c:UL K cdv x=true)(k:u4 K (.ref f)=true):DfIn K x st:=⟨f,a,oc,od,kV,doc,pm,an,cdv,ct,osl,l,c,k⟩
theorem MeIn.mk{kV:Value}(a:uV K (.ref C) x=some (some (.ref f)))(l:K.lookup f=some ⟨oc,od,.func (Uh x qual (yk st) (zP st) (zp st) .none kV doc pm an cdv ct),osl⟩)(c:UL K cdv qual=true)(k:u4 K (.ref f)=true)(n:PySem.W.isFn K (.ref f)=true):MeIn K C x qual st:=⟨f,a,n,oc,od,kV,doc,pm,an,cdv,ct,osl,l,c,k⟩
structure OwnIn(K:ub)(x:Str)(C:Addr):Prop where
 n:UJ K mainGlobals x=some (some (.ref C))
 pg:tE K C Str.empty=true
 hd:tV K C=true
 po:PySem.W.plainOver K C=true
 sa:uV K (.ref C) "__setattr__"=some (some (.builtin "object.__setattr__"))
 mks:PySem.W.makesIn K C=true
 kp:u4 K (.ref C)=true
theorem OwnIn.cls(o:OwnIn K x C):Cls K C:=⟨o.pg,o.hd,o.po,o.sa⟩
theorem usS(h:∀a us,us.length=n->p (a::us)):∀us:List Value,us.length=n+1->p us:=fun us=>by
 cases us with
 |nil=>exact fun e=>by cases e
 |cons a r=>exact fun e=>h a r (Nat.succ.inj e)
theorem us1(h:∀a,p [a]):∀us:List Value,us.length=1->p us:=usS fun a us e=>by rw[u5.mp e];exact h a
theorem us2(h:∀a b,p [a,b]):∀us:List Value,us.length=2->p us:=usS fun a=>us1 (p:=fun l=>p (a::l)) (h a)
theorem us3(h:∀a b c,p [a,b,c]):∀us:List Value,us.length=3->p us:=usS fun a=>us2 (p:=fun l=>p (a::l)) (h a)
theorem us4(h:∀a b c d,p [a,b,c,d]):∀us:List Value,us.length=4->p us:=usS fun a=>us3 (p:=fun l=>p (a::l)) (h a)
theorem us5(h:∀a b c d e,p [a,b,c,d,e]):∀us:List Value,us.length=5->p us:=usS fun a=>us4 (p:=fun l=>p (a::l)) (h a)
theorem us6(h:∀a b c d e f,p [a,b,c,d,e,f]):∀us:List Value,us.length=6->p us:=usS fun a=>us5 (p:=fun l=>p (a::l)) (h a)
section
variable{a b c d e u:TS}{σ:List (Option V)}
theorem cut1(h:∀v:TS,u=v->(tSeq a v:TS) D σ H):(tSeq a u:TS) D σ H:=h u rfl
theorem cut2(h:∀v:TS,u=v->(tSeq a (tSeq b v):TS) D σ H):(tSeq a (tSeq b u):TS) D σ H:=h u rfl
theorem cut3(h:∀v:TS,u=v->(tSeq a (tSeq b (tSeq c v)):TS) D σ H):(tSeq a (tSeq b (tSeq c u)):TS) D σ H:=h u rfl
theorem cut4(h:∀v:TS,u=v->(tSeq a (tSeq b (tSeq c (tSeq d v))):TS) D σ H):(tSeq a (tSeq b (tSeq c (tSeq d u))):TS) D σ H:=h u rfl
theorem cut5(h:∀v:TS,u=v->(tSeq a (tSeq b (tSeq c (tSeq d (tSeq e v)))):TS) D σ H):(tSeq a (tSeq b (tSeq c (tSeq d (tSeq e u)))):TS) D σ H:=h u rfl
theorem ixT{Q:VK}{p:Addr}{i:Int}{v:V}(h:H p=some (.tup xs))(a:atI xs i=some v)(q:Q v H):tC (.int i) σ H fun y H2=>rIxT K (.ref p) y H2 Q:=⟨p,xs,i,v,rfl,rfl,SqT.of h,a,q⟩
theorem ixL{Q:VK}{p:Addr}{i:Int}{v:V}(h:H p=some (.lst xs))(a:atI xs i=some v)(q:Q v H):tC (.int i) σ H fun y H2=>rIxL K (.ref p) y H2 Q:=⟨p,xs,i,v,rfl,rfl,SqL.of h,a,q⟩
theorem nxtC{E:Ends}(h:E.nx σ H):jr E σ H:=h
end
end L2
namespace L2
open PySem PySem.Spec PyProof.Rows
variable{o:HO}
def BMn(mg:Str->Option Value)(h:Heap):Prop:=∃bm ob,mg "__builtins__"=some (.ref bm)/\bm≠builtinsNs/\h.get? bm=some ob/\ob.cls=.type "module"/\ob.dict=some builtinsNs/\ob.data=.plain
theorem BMn.at{P:Addr}{ps:Array Value}(B:BMn mg h)(g:h.Ns mainGlobals mg)(hP:h.get? P=some { cls:=.none,data:=.fields ps }):h.BuiltinsAt mg P/\mainGlobals≠P:=by
 obtain⟨bm,ob,b1,b2,b3,b4,b5,b6⟩:=B;refine⟨⟨bm,ob,b1,b2,fun q=>?_,fun q=>?_,b3,b4,b5,b6⟩,fun q=>?_⟩
 ·obtain⟨o,es,ep,e,hd,_⟩:=g
  rw[q,e]at b3;cases b3;rw[hd]at b6;cases b6
 ·rw[q,hP]at b3;cases b3;cases b4
 ·obtain⟨o,es,ep,e,hd,_⟩:=g
  rw[q,hP]at e;cases e;cases hd
theorem BMn.keeps(B:BMn mg h)(k:∀b o,h.get? b=some o->h'.get? b=some o):BMn mg h' :=
 let ⟨bm,ob,b1,b2,b3,r⟩:=B;⟨bm,ob,b1,b2,k _ _ b3,r⟩
def FunO(f:Addr)(fd:FuncData):HO:=.ext fun h=>h.get? f=some { cls:=.type "function",data:=.func fd }
def CodO(c:Addr)(qual:Str):HO:=.ext fun h=>h.CodeRec (.ref c) qual
theorem V3(e:h.get? f=some { cls:=.type "function",data:=.func fd }):ObjOk P w H h f (FunO f fd) :=
 ⟨e,⟨_,e⟩,fun _ _ p k=>k _ p⟩
theorem zcL(e:h.CodeRec (.ref c) qual):ObjOk P w H h c (CodO c qual) :=
 ⟨e,(let ⟨_,oc,_,_,q,e,_⟩:=e;by cases q;exact⟨oc,e⟩),fun _ _ ⟨d,oc,vs,t,q,e,r⟩ k=>by cases q;exact⟨c,oc,vs,t,rfl,k _ e,r⟩⟩
structure CaD(P:Program)(w:World)(K:ub)(mg:Str->Option Value)(base:Heap)(CX:CXT)(k:Nat)(x:Str)(ps:lS)(dvs:List V)(sp:Sp):Prop where
 ex:∃f fd,FnOk P w K mg base CX k f fd ps sp/\Binds K fd ps []/\(∃ds,Binds K fd ps ds/\Vals dvs ds)/\u4 K (.ref f)=true/\mg x=some (.ref f)
def Itv(K:ub)(a:Addr)(n:Nat):It :=
 ⟨fun i H=>i < n/\∃xs x,SqL K H a xs/\xs[n-1-i]?=some x,fun i H x H'=>H'=H/\∀xs,SqL K H a xs->xs[n-1-i]?=some x,fun i _=>n<=i⟩
theorem V4(a it:Addr)(n:Nat):Turn P w K tg (Itv K a n) [it] it (fun i h=>i<=n/\h.IsRevIter it a ((n:Int)-1-(i:Nat))) where
 mem:=by simp
 obj:=fun i h st b hb=>by
  have e:b=it:=by simpa using hb
  subst e;obtain⟨_,o,e,c,d⟩:=st;exact⟨o,e,fun v z=>by rw[d]at z;cases z⟩
 keep:=fun i h h' st k=>⟨st.1,st.2.at fun o e=>k it (by simp) o e⟩
 item:=by
  intro X hP hw hK hc i pins s σ H E I hf st hg;subst hP hw hK;obtain⟨hi,xs,x,hq,hx⟩:=hg;obtain⟨its,rv,p,hz⟩:=I.list hq;obtain⟨u,hu,ru⟩:=rv.get hx;obtain⟨f0,f1,f2,f3,f4,f5⟩:=hf it (by simp);obtain⟨_,st2⟩:=st;have e1:(n:Int)-1-(i:Nat)=((n-1-i:Nat):Int):=by lia
  rw[e1]at st2;refine wpAny_pyNext_rev_item st2 p.isList (x:=u) (by simpa using hu) fun h' st' sb=>?_;have I1:Inv X pins σ H { s with heap:=h' }:=I.turned (t':=s.toks) (fun b o hb e=>(sb.2 b hb).trans e) f0 f1 f3 f4 f5;obtain⟨o,e,c,d⟩:=id st';refine⟨u,rfl,Yb (s:={ s with heap:=h' }) e c d (by decide) ⟨x,H,I1,ru,⟨rfl,fun ys hy=>by rw[I.list_inj hy hq];exact hx⟩,⟨hi,?_⟩,fun b hb=>(hf b hb).1⟩⟩;have e2:(n:Int)-1-((i+1:Nat):Int)=((n-1-i:Nat):Int)-1:=by lia
  rw[e2];exact st'
 done:=by
  intro X hP hw hK hc i pins s σ H E I hf st hg;subst hP hw hK;obtain⟨f0,f1,f2,f3,f4,f5⟩:=hf it (by simp);obtain⟨h1,st2⟩:=st;have h2:n<=i:=hg;have e1:(n:Int)-1-(i:Nat)=-1:=by lia
  rw[e1]at st2;exact wpAny_pyNext_rev_end (I.ok.hd hc) st2 fun h' eb=>⟨rfl,I.turned (t':=s.toks) (fun b o hb e=>eb b o hb e) f0 f1 f3 f4 f5⟩
 self:=fun _ _ _ _ _ st h=>wpAny_pyIter_revIter st.2 h
def iRev(K:ub)(ta:TA):TI:=fun σ H R=>ta σ H fun vs H1=>∃a xs,vs=[.ref a]/\SqL K H1 a xs/\R (Itv K a xs.length) H1
theorem zcM{a:Expr}{ta:TA}{p:Pos}(hg:Gl X "reversed")(hm:X.mg "reversed"=none)(ha:PA X [a] ta)(hs:starEach [a] X.env=[(false,eval a X.env)]:=by rfl):PI X tg (.Call (.Name "reversed" p) [a] [] pos) (iRev X.K ta):=by
 intro pins s σ H R I h;refine Call_ (xG I hg hm boot_reversed (Ul (thn (ha pos pins s σ H _ I h) fun us s1 ⟨vs,H1,I1,r1,q1⟩=>?_) hs rfl));obtain⟨l,xs,e,hq,q⟩:=q1;subst e;obtain⟨u,rfl,rx⟩:=jt r1;cases rx;obtain⟨its,rv,pl,hz⟩:=I1.list hq;have hl:=rv.length;refine call_reversed_list pl.isList ?_;have hr:(s1.heap.push (revObj l ((its.toArray.size:Int)-1))).IsRevIter s1.heap.objs.size l ((its.toArray.size:Int)-1):=⟨_,uv _ rfl,rfl,rfl⟩;refine wpAny_pyIter_revIter (s:={ s1 with heap:=s1.heap.push (revObj l ((its.toArray.size:Int)-1)) }) hr ?_;refine⟨s1.heap.objs.size,[s1.heap.objs.size],_,_,H1,rfl,I1.kept (t':=s1.toks) fun b o e=>uc _ e,V4 l _ xs.length,⟨uM _,?_⟩,fun b hb=>?_,q⟩
 ·have e:(xs.length:Int)-1-((0:Nat):Int)=(its.toArray.size:Int)-1:=by simp[hl]
  rw[e];exact hr
 have e:b=s1.heap.objs.size:=by simpa using hb
 subst e;exact I1.fpOk (uj _) (I1.hok.fresh (uj _))
theorem Xq{a:Expr}{t:TA}{p:Pos}(hg:Gl X "reversed")(hm:X.mg "reversed"=none)(ha:jA X [a] t)(h:zy a=false:=by rfl):jI X tg (.Call (.Name "reversed" p) [a] [] pos) (iRev X.K t):=⟨zcM hg hm ha.out (zG h)⟩
theorem Zk{tb:TS}(Pv:Nat->St->Hp->Prop)(h0:Pv 0 σ H)(hl:∀i σ H,i<=xs.length->Pv i σ H->SqL K H a xs)
  (hs:∀i x σ H,xs.reverse[i]?=some x->Pv i σ H->g x σ H fun σ2 H2=>tb { D with nx:=Pv (i+1),ct:=Pv (i+1),bk:=D.nx } σ2 H2) (hd:∀σ H,Pv xs.length σ H->D.nx σ H) :
  ∃W:Nat->Nat->St->Hp->Prop,(∃m,W 0 m σ H)/\∀i m σ H,W i m σ H ->
   ((Itv K a xs.length).stop i H/\D.nx σ H)\/((Itv K a xs.length).go i H/\∃N:St->Hp->Prop,(∀σ' H',N σ' H'->∃m',m' < m/\W (i+1) m' σ' H')/\∀x H',(Itv K a xs.length).yld i H x H'->g x σ H' fun σ2 H2=>tb { D with nx:=N,ct:=N,bk:=D.nx } σ2 H2):=by
 refine⟨fun i m σ H=>m=xs.length-i/\i<=xs.length/\Pv i σ H,⟨xs.length,by simp,uM _,h0⟩,?_⟩;rintro i m σ H ⟨rfl,hi,p⟩;have q:=hl i σ H hi p;by_cases hlt:i < xs.length
 ·refine .inr ⟨⟨hlt,xs,xs[xs.length-1-i],q,by rw[uh]⟩,Pv (i+1),fun σ' H' p'=>⟨xs.length-(i+1),by lia,rfl,hlt,p'⟩,fun x H' y=>?_⟩
  obtain⟨e,y⟩:=y;subst e;refine hs i x σ _ ?_ p;rw[List.getElem?_reverse hlt];exact y xs q
 ·have e:i=xs.length:=by lia
  subst e;exact .inl ⟨uj _,hd σ H p⟩
section
variable{Q:VK}
theorem Zl(Pv:Nat->St->List V->Hp->Prop)(h0:Pv 0 σ [] H)(hl:∀i τ ys H,i<=xs.length->Pv i τ ys H->SqT K H a xs)
  (hs:∀i x τ ys H,xs[i]?=some x->Pv i τ ys H->g x τ H fun τ2 H2=>tt τ2 H2 fun b H3=>if b=true then te τ2 H3 fun y H4=>ys.length < sizeLine/\Pv (i+1) τ2 (ys++[y]) H4 else Pv (i+1) τ2 ys H3)
  (hd:∀τ ys H,Pv xs.length τ ys H->∀p,H p=none->Q (.ref p) (upd H p (.lst ys))):∃W,(∃m,W 0 m σ [] H)/\lcBy (Itt K a) g tt te Q W:=by
 refine⟨fun i m τ ys H=>m=xs.length-i/\i<=xs.length/\Pv i τ ys H,⟨xs.length,by simp,uM _,h0⟩,?_⟩;rintro i m τ ys H ⟨rfl,hi,p⟩;have q:=hl i τ ys H hi p;by_cases hlt:i < xs.length
 ·refine .inr ⟨⟨xs,xs[i],q,by simp[hlt]⟩,Pv (i+1),fun τ' ys' H' p'=>⟨xs.length-(i+1),by lia,rfl,hlt,p'⟩,fun x H' y=>?_⟩
  obtain⟨e,y⟩:=y;subst e;exact hs i x τ ys _ (y xs q) p
 ·have e:i=xs.length:=by lia
  subst e;exact .inl ⟨⟨xs,q,uj _⟩,hd τ ys H p⟩
end
theorem old{q:Addr}{u:HO}(hp:H p=none)(h:H q=some u):upd H p o q=some u:=by rw[zj (zi h hp)];exact h
theorem Same.new(s:Same H H1)(hp:H1 p=none):Same H (upd H1 p o):=fun b u q=>old hp (s b u q)
theorem Same.put(s:Same H H1)(hp:H p=none):Same H (upd H1 p o):=fun b u q=>by rw[zj (zi q hp)];exact s b u q
theorem V5{x:V}(h:xJ x=true):eqV x x=true:=by
 cases x<;>first
  |rfl
  | (show((_:Bool) == _)=true;simp)
  | (show((_:Int) == _)=true;simp)
  | (show((_:Str) == _)=true;simp)
  | (cases h)
theorem wA(K:ub)(h:X.K=K:=by rfl):jIx X (rIxT K):=h ▸ VR
theorem zY(K:ub)(h:X.K=K:=by rfl):jIx X (rIxL K):=h ▸ X3
theorem wB(K:ub)(h:X.K=K:=by rfl):jSl X (rSlL K):=h ▸ zaa
theorem Xr(K:ub)(h:X.K=K:=by rfl):jOp X (compareOp .In) (rIn K false):=h ▸ WR
theorem jL(K:ub)(h:X.K=K:=by rfl):jOp X (compareOp .NotIn) (rIn K true):=h ▸ Zj
theorem zN(K:ub){k:Nat}(hc:X.calm=true)(g:jGs X es gs)(h:X.K=K:=by rfl)(hn:(assignEach es X.env).length=n:=by rfl)(hst:(assignEach es X.env).findIdx? (·.1)=none:=by rfl):jG X (.Tuple es k pos) (gTup K n gs):=h ▸ zcD hc g hn hst
theorem zF(K:ub)(h:X.K=K:=by rfl):jCa X (.builtin "len") (fun xs H Q=>∃p ys,xs=[.ref p]/\(SqL K H p ys\/SqT K H p ys)/\Q (.int ys.length) H):=h ▸ Xn
theorem zH(K:ub)(h:X.K=K:=by rfl):jCa X (.type "tuple") (fun xs H Q=>∃p ys,xs=[.ref p]/\((SqL K H p ys/\∀l,H l=none->Q (.ref l) (upd H l (.tup ys)))\/(SqT K H p ys/\Q (.ref p) H))):=h ▸ Yi
theorem yK(K:ub)(h:X.K=K:=by rfl):jCa X (.type "list") (fun xs H Q=>∃p ys,xs=[.ref p]/\(SqL K H p ys\/SqT K H p ys)/\∀l,H l=none->Q (.ref l) (upd H l (.lst ys))):=h ▸ Xo
theorem zK(K:ub){f:Str}(he:jE X e ta)(h:X.K=K:=by rfl)(hb:attributeBase e f X.env (eval e X.env)=eval e X.env:=by rfl):jE X (.Attribute e f pos) (tFld K ta f):=h ▸ zcK he hb
def CelO(c:Addr)(v:V):HO:=.ext fun h=>∃u,RelV v u/\h.IsCell c (some u)
def Cel(H:Hp)(c:Addr)(v:V):Prop:=∃o,H c=some (.frz o (CelO c v))
theorem V6{v:V}{o:Obj}(e:h.get? c=some o)(d:o.data=.cell (some u))(r:RelV v u):ObjOk P w H h c (.frz o (CelO c v)) :=
 ⟨e,⟨u,r,o,e,d⟩,⟨o,e⟩,fun _ _ ⟨u,r,o,e,d⟩ k=>⟨u,r,o,k _ e,d⟩⟩
def z7(H:Hp)(as:List Addr):Hp:=fun b=>if b∈as then none else H b
def xr(H' H:Hp)(as:List Addr):Hp:=fun b=>if b∈as then H b else H' b
theorem wC(h:b∈as):z7 H as b=none:=if_pos h
theorem zZ(h:b∉as):z7 H as b=H b:=if_neg h
theorem wE(h:b∈as):xr H' H as b=H b:=if_pos h
theorem yM(h:b∉as):xr H' H as b=H' b:=if_neg h
abbrev lamC(mg:Str->Option Value)(qual:Str)(params:Arguments)(body:Expr)(scope:Scope)(cl:List (Str×Addr))(c:Addr)(ctv:Value):FuncData:=PySem.W.kla_fn "<lambda>" qual params body scope cl ((mg "__name__").getD .none) (.ref c) ctv
def V7(mg:Str->Option Value)(T:Addr)(qual:Str)(params:Arguments)(body:Expr)(scope:Scope)(pos:Pos)(cl:List (Str×Addr)):TE:=fun _ H Q=>∃ps,H T=some (.tbl ps)/\TriplesOk ps.toList /\
 ((codeAmong pos ps.toList=none/\∀(c f:Addr)(ctv:Value),H c=none->H f=none->f≠c->Q (.ref f) (upd (upd (upd H T (.tbl (ps ++ #[rawInt pos.line,rawInt pos.col,.ref c]))) c (CodO c qual)) f (FunO f (lamC mg qual params body scope cl c ctv)))) \/
   (∃c,codeAmong pos ps.toList=some (.ref c)/\∀(f:Addr)(ctv:Value),H f=none->Q (.ref f) (upd H f (FunO f (lamC mg qual params body scope cl c ctv)))))
theorem zah{cl:List (Str×Addr)}{body:Expr}(hB:BMn X.mg X.base)(hcode:X.env.code=.ref c)(hc:Ub X.K c T=true)(hq:X.env.qual ++ "<lambda>"=qual)
  (hdef:defaultsOf params X.env=([],[])) (hcl:closureFor scope X.env=pure cl):PE X (.Lambda params body scope pos) (V7 X.mg T qual params body scope pos cl):=by
 intro pins s σ H Q I h;refine PySem.W.kla_eval hdef ?_;rw[hq];obtain⟨ps,hT,tr,h⟩:=h;have gT:s.heap.get? T=some { cls:=.none,data:=.fields ps }:=I.hok T _ hT;have hg:=I.mod.glob.keeps I.bk;obtain⟨bAt,hgP⟩:=(hB.keeps I.bk).at hg gT;rcases h with⟨nf,h⟩|⟨c',hit,h⟩
 ·refine PySem.W.kla_makeFunction (mg:=X.mg) hcl I.ok.glob hg hcode (PySem.W.codeHd_of_K I.kIn hc) gT tr nf hgP bAt fun c' ctv h' tk ext ge lt rec tab=>?_
  have hc0:H c'=none:=I.hok.fresh ge;have hf0:H h'.objs.size=none:=I.hok.fresh (uI ge (Nat.le_of_lt lt));have nfc:h'.objs.size≠c':=Nat.ne_of_gt lt;have ncT:T≠c':=zi hT hc0;have nfT:T≠h'.objs.size:=zi hT hf0;have elsewhere:∀b,b≠T->b≠c'->b≠h'.objs.size->upd (upd (upd H T (.tbl (ps ++ #[rawInt pos.line,rawInt pos.col,.ref c']))) c' (CodO c' qual)) h'.objs.size (FunO h'.objs.size (lamC X.mg qual params body scope cl c' ctv)) b=H b:=fun b h1 h2 h3=>by rw[zj h3,zj h2,zj h1]
  have hU:∀b u,H b=some u->b≠T->upd (upd (upd H T (.tbl (ps ++ #[rawInt pos.line,rawInt pos.col,.ref c']))) c' (CodO c' qual)) h'.objs.size (FunO h'.objs.size (lamC X.mg qual params body scope cl c' ctv)) b=some u:=fun b u e n=>by
   rw[elsewhere b n (zi e hc0) (zi e hf0)];exact e
  have hTb:upd (upd (upd H T (.tbl (ps ++ #[rawInt pos.line,rawInt pos.col,.ref c']))) c' (CodO c' qual)) h'.objs.size (FunO h'.objs.size (lamC X.mg qual params body scope cl c' ctv)) T=some (.tbl (ps ++ #[rawInt pos.line,rawInt pos.col,.ref c'])):=by
   rw[zj nfT,zj ncT];exact uX9
  have keep:∀b o,b≠T->s.heap.get? b=some o->(h'.push (PySem.W.kla_obj "<lambda>" qual params body scope cl ((X.mg "__name__").getD .none) c' ctv)).get? b=some o:=fun b o n e=>uc _ (ext b o n e);have neT:∀b,H b=none->b≠T:=fun b e n=>by rw[n,hT]at e;cases e
  refine⟨.ref h'.objs.size,_,I.un (t':=tk) (H':=upd (upd (upd H T (.tbl (ps ++ #[rawInt pos.line,rawInt pos.col,.ref c']))) c' (CodO c' qual)) h'.objs.size (FunO h'.objs.size (lamC X.mg qual params body scope cl c' ctv))) ⟨fun b o e n _ _=>keep b o (neT b n) e,fun b o e n _ _=>⟨o.slots,keep b o (neT b n) e⟩,fun b o e n _=>?_,fun b o e _=>?_,fun b xs e=>hU b _ e (fun z=>by rw[z,hT]at e;cases e),fun b o xs e=>hU b _ e (fun z=>by rw[z,hT]at e;cases e),fun b qs e=>?_⟩ ?_,rfl,h c' _ ctv hc0 hf0 nfc⟩
  ·have l:=uB e
   rw[elsewhere b (neT b n) (u7 (uH l ge)) (u7 (Nat.lt_trans (uH l ge) lt))];exact n
  ·by_cases z:b=T
   ·rw[z];exact⟨_,uc _ tab⟩
   ·exact⟨o,keep b o z e⟩
  ·by_cases z:b=T
   ·subst z
    rw[hT]at e;cases e;exact⟨_,hTb⟩
   ·exact⟨#[],by rw[hU b _ e z];simp⟩
  ·intro b u e
   by_cases z1:b=h'.objs.size
   ·subst z1
    rw[uX9]at e;cases e;exact V3 (uv _ rfl)
   rw[zj z1]at e;by_cases z2:b=c'
   ·subst z2
    rw[uX9]at e;cases e;obtain⟨d,oc,vs,t,q,e,r⟩:=rec;exact zcL ⟨d,oc,vs,t,q,uc _ e,r⟩
   rw[zj z2]at e;by_cases z3:b=T
   ·subst z3
    rw[uX9]at e;cases e;exact uc _ tab
   rw[zj z3]at e;refine(I.hok b u e).stay (fun d v hd q=>keep d v ?_ q) (fun d q=>hU d _ q fun z=>by rw[z,hT]at q;cases q) fun d xs q=>hU d _ q fun z=>by rw[z,hT]at q;cases q
   rcases hd with rfl|hd
   ·exact z3
   ·intro z
    rw[z,hT]at hd;cases hd
 ·refine PySem.W.kla_makeFunctionHit (mg:=X.mg) hcl I.ok.glob hg hcode (PySem.W.codeHd_of_K I.kIn hc) gT tr hit bAt fun ctv h' tk kp sz=>?_
  have hf0:H h'.objs.size=none:=I.hok.fresh sz;exact⟨.ref h'.objs.size,_,I.laid (t':=tk) (o:=FunO h'.objs.size (lamC X.mg qual params body scope cl c' ctv)) (fun b u e=>uc _ (kp b u e)) sz (V3 (uv _ rfl)),rfl,h _ ctv hf0⟩
theorem xl{cl:List (Str×Addr)}{body:Expr}(hB:BMn X.mg X.base)(hcode:X.env.code=.ref c)(hc:Ub X.K c T=true)(hq:X.env.qual ++ "<lambda>"=qual)
  (hdef:defaultsOf params X.env=([],[]):=by rfl) (hcl:closureFor scope X.env=pure cl:=by with_unfolding_all rfl):jE X (.Lambda params body scope pos) (V7 X.mg T qual params body scope pos cl):=⟨zah hB hcode hc hq hdef hcl⟩
structure LamScope(N ps fs:lS)(sc:Scope):Prop where
 kind:sc.kind=.function
 co:sc.isCoroutine=false
 gen:sc.isGenerator=false
 nd:N.Nodup
 cat:N=ps++fs
 par:∀x∈ps,sc.names.lookup x=some .local
 fre:∀x∈fs,sc.names.lookup x=some .free
 nocell:∀y∈sc.names,y.2≠.cell
 has:∀y∈sc.names,y.2=.free->y.1∈fs
structure Clo(H:Hp)(cl:List (Str×Addr))(fs:lS)(fvs:List V):Prop where
 len:fvs.length=fs.length
 all:∀p∈cl,∃v,Cel H p.2 v
 get:∀(i:Nat)(x:Str)(v:V),fs[i]?=some x->fvs[i]?=some v->∃a,cl.lookup x=some a/\Cel H a v
 has:∀x∈fs,∃a,cl.lookup x=some a
 inj:∀x y a,cl.lookup x=some a->cl.lookup y=some a->x=y
def X9(CX:CXT)(P:Program)(w:World)(K:ub)(mg:Str->Option Value)(base:Heap)(N:lS)(qual:Str)(scope:Scope)(f:Addr)(cd:Value)(cl:List (Str×Addr))(A:Around)(outer:List Env)(s:Shared)(H:Hp)(E:XK):Cx where
 prog:=P
 w:=w
 K:=K
 mg:=mg
 base:=base
 A:=A.deeper (tG qual scope s.heap.objs.size f cd cl)
 N:=N
 s₀:=s
 H₀:=z7 H (cl.map (·.2))
 env:=tG qual scope s.heap.objs.size f cd cl
 outer:=outer
 stack:=tG qual scope s.heap.objs.size f cd cl::outer
 ex:=[]
 calm:=true
 fn:=fun _=>false
 pn:=[]
 xe:=fun e s'=>wpAny (model P w) (A.deeper (tG qual scope s.heap.objs.size f cd cl)) (leaving (tG qual scope s.heap.objs.size f cd cl) e) (fun _ s''=>CX outer H s E e s'') (fun e' s''=>CX outer H s E e' s'') s'
theorem vN{x:Str}{v:Value}:∀{P:lS}{vs:List Value}{i:Nat},P.Nodup->P[i]?=some x->vs[i]?=some v->(P.zip vs).reverse.lookup x=some v
 |[],_,_,_,h,_=>by simp at h
 |_::_,[],_,_,_,h=>by simp at h
 |p::P,w::vs,0,nd,h1,h2=>by
  simp at h1 h2;subst h1;subst h2
  have hn:∀y∈(P.zip vs).reverse,y.1≠p:=fun y hy z=>(uX.mp nd).1 (z ▸ (Uv (List.mem_reverse.mp hy)).1);rw[List.zip_cons_cons,tj,List.lookup_append]
  have:(P.zip vs).reverse.lookup p=none:=List.lookup_eq_none_iff.mpr fun y hy=>by simpa using fun z=>hn y hy z.symm
  rw[this];simp
 |p::P,w::vs,i+1,nd,h1,h2=>by
  rw[List.zip_cons_cons,tj,List.lookup_append,vN (i:=i) (uX.mp nd).2 (by simpa using h1) (by simpa using h2)]
  rfl
theorem zJ(hc:∀a∈as,∃v,Cel H a v){u:HO}(e:H b=some u)(n:∀o c v,u≠.frz o (CelO c v)):z7 H as b=some u:=by
 rw[zZ]
 ·exact e
 ·intro z
  obtain⟨v,o,q⟩:=hc b z;rw[e]at q;exact n _ _ _ (uZ.inj q)
theorem Wa(hc:∀a∈as,∃v,Cel H a v)(x:HOk P w H h):HOk P w (z7 H as) h:=fun b u e=>by
 have nb:b∉as:=fun z=>by rw[wC z]at e;cases e
 rw[zZ nb]at e;exact(x b u e).stay (fun _ _ _ q=>q) (fun d q=>zJ hc q (by intro _ _ _ z;cases z)) fun d xs q=>zJ hc q (by intro _ _ _ z;cases z)
theorem zai(hn:∀a∈as,H' a=none)(hk:∀a∈as,∀u,H a=some u->∃v o,u=.frz o (CelO a v)/\h.get? a=some o/\h'.get? a=some o)(x:HOk P w H h)(x':HOk P w H' h'):HOk P w (xr H' H as) h':=fun b u e=>by
 have up:∀d z,H' d=some z->xr H' H as d=some z:=fun d z q=>by
  rw[yM]
  ·exact q
  ·intro y;rw[hn d y]at q;cases q
 by_cases nb:b∈as
 ·rw[wE nb]at e
  obtain⟨v,o,rfl,e1,e2⟩:=hk b nb u e;obtain⟨_,⟨u',r,o',e3,d⟩,_⟩:=x b _ e;rw[e1]at e3;cases e3;exact V6 e2 d r
 ·rw[yM nb]at e
  exact(x' b u e).stay (fun _ _ _ q=>q) (fun d q=>up d _ q) fun d xs q=>up d _ q
theorem zaj{fs:List Addr}(hc:∀a∈as,∃v,Cel H a v)(u:Un fs [] (z7 H as) H' h h')(hn:∀a∈as,H' a=none):Un fs [] H (xr H' H as) h h':=by
 have no:∀b,H b=none->b∉as:=fun b n z=>by
  obtain⟨v,o,q⟩:=hc b z;rw[n]at q;cases q
 have mk:∀b,H b=none->z7 H as b=none:=fun b n=>by rw[zZ (no b n)];exact n
 have up:∀d z,H' d=some z->xr H' H as d=some z:=fun d z q=>by
  rw[yM]
  ·exact q
  ·intro y;rw[hn d y]at q;cases q
 refine⟨fun b o e n hb hx=>u.keep b o e (mk b n) hb hx,fun b o e n hb hx=>u.slot b o e (mk b n) hb hx,fun b o e n hx=>?_,u.there,fun b xs e=>up _ _ (u.tups b xs (zJ hc e (by intro _ _ _ z;cases z))),fun b o x e=>?_,fun b ps e=>?_⟩
 ·rw[yM (no b n)]
  exact u.free b o e (mk b n) hx
 ·by_cases z:b∈as
  ·rw[wE z];exact e
  ·rw[yM z]
   exact u.frzs b o x (by rw[zZ z];exact e)
 ·obtain⟨more,q⟩:=u.tbls b ps (zJ hc e (by intro _ _ _ z;cases z))
  exact⟨more,up _ _ q⟩
theorem Zm{k:Nat}{body:Expr}{cl:List (Str×Addr)}
  {fs:lS} (S:LamScope N ps fs scope) (len:∀vs H Q E,sp vs H Q E->vs.length=ps.length)
  (hbody:∀(A:Around)(outer:List Env)(s:Shared)(H:Hp)(vs:List V)(Q:VK)(E:XK),Room k (A.deeper (tG qual scope s.heap.objs.size f (.ref c) cl))->sp vs H Q E ->
   H f=some (FunO f (PySem.W.kla_fn name qual params body scope cl pm (.ref c) ct))/\H c=some (CodO c qual)/\∃fvs,Clo H cl fs fvs /\
   ∃t,jE (X9 CX P w K mg base N qual scope f (.ref c) cl A outer s H E) body t/\t (vs.map some++fvs.map some) (z7 H (cl.map (·.2))) fun v H'=>(∀a∈cl.map (·.2),H' a=none)->Q v (xr H' H (cl.map (·.2)))) :
  FnOk P w K mg base CX (k+1) f (PySem.W.kla_fn name qual params body scope cl pm (.ref c) ct) ps sp:=by
 refine⟨len,fun A outer s H args us vs Q E hr e0 hb r hsp=>?_⟩;have hl:=len _ _ _ _ hsp;have lim:s.heap.NoLimit:=e0.mod.nolimit.keeps fun b o e=>(e0.bs b o e).1;obtain⟨hf,hc,fvs,C,t,ht,hq⟩:=hbody A outer s H vs Q E (hr.deeper _) hsp;have of:=(e0.hok f _ hf).1;have oc:=(e0.hok c _ hc).1;have hcA:∀a∈cl.map (·.2),∃v,Cel H a v:=fun a ha=>by
  obtain⟨p,hp,rfl⟩:=uu.mp ha;exact C.all p hp
 have hcl:∀x a,cl.lookup x=some a->a∈cl.map (·.2):=fun x a e=>uu.mpr ⟨(x,a),uY e,rfl⟩;refine PySem.W.kla_callFunE hr.depth of rfl S.co S.gen rfl oc (hb _ _ _ _ ?_);refine wpAny_newFunctionEnv S.nocell (fun y hy=>S.par _ (Uv hy).1) (fun h₁ hns hsb=>?_) S.kind;have hk₁:∀b o,s.heap.get? b=some o->h₁.get? b=some o:=fun b o e=>hsb.extBut b o (u7 (uB e)) (uc _ e);refine⟨lim.keeps hk₁,PySem.W.kla_codeExpr ?_⟩;have isc:∀x a,cl.lookup x=some a->∃v,Cel H a v:=fun x a e=>hcA a (hcl x a e);have cget:∀a v,Cel H a v->∃u,RelV v u/\s.heap.IsCell a (some u):=fun a v ⟨o,q⟩=>(e0.hok a _ q).2.1;have I:Inv (X9 CX P w K mg base N qual scope f (.ref c) cl A outer s H E) [] (vs.map some++fvs.map some) (z7 H (cl.map (·.2))) { s with heap:=h₁,toks:=s.toks+(ps.zip us).length }:=by
  have noA:∀b:Addr,b∉(X9 CX P w K mg base N qual scope f (.ref c) cl A outer s H E).ex:=fun b z=>absurd (show b∈([]:List Addr)from z) (by simp);have mnone:∀b,H b=none->z7 H (cl.map (·.2)) b=none:=fun b e=>by
   unfold z7;split
   ·rfl
   ·exact e
  refine⟨⟨e0.mod,S.kind,rfl,rfl,uj _,fun y z a h1 h2=>C.inj y z a h1 h2,fun y hy=>?_,fun y a z=>absurd (show false=true from z) (by decide),fun _=>hr.hd,Around.frames_deeper e0.frames,.inr ⟨rfl,rfl⟩,fun b z=>absurd z (noA b),fun b o e=>⟨(e0.bs b o e).1,mnone _ (e0.bs b o e).2⟩,e0.bsz,fun b _ _=>noA b,fun b z=>absurd z (noA b),e0.funs,fun b hb=>mnone _ (e0.frf b hb)⟩,
   rfl,e0.bare,Un.kept hk₁,⟨_,hns,fun i y v h1 h2 h3=>?_⟩,fun y a h=>?_,mnone _ (e0.hok.fresh (uj _)),fun y a h=>wC (hcl y a h),fun p hp=>absurd (show p∈([]:List (Addr×Obj))from hp) (by simp),Wa hcA (e0.hok.kept hk₁),?_⟩
  ·have hy:scope.names.lookup y=some .cell\/scope.names.lookup y=some .free:=hy
   rcases hy with hy|hy
   ·exact absurd rfl (S.nocell _ (uY hy))
   ·exact C.has y (S.has _ (uY hy) rfl)
  ·have h1:(ps++fs)[i]?=some y:=by rw[<- S.cat];exact h1
   have ndP:ps.Nodup:=by have:=S.nd;rw[S.cat]at this;exact(List.nodup_append.mp this).1
   by_cases hi:i < vs.length
   ·rw[Us (by simpa using hi),ug]at h2
    rw[Us (by lia)]at h1;cases e:vs[i]? with
    |none=>rw[e]at h2;cases h2
    |some a =>
     rw[e]at h2;cases h2;obtain⟨u,hu,rv⟩:=r.get e;exact⟨u,rv,.inl ⟨S.par y (uw h1),vN ndP h1 hu⟩⟩
   ·rw[UC (by simpa using hi),ug]at h2
    rw[UC (by lia)]at h1;rw[ua,hl]at h2;cases e:fvs[i-ps.length]? with
    |none=>rw[e]at h2;cases h2
    |some a =>
     rw[e]at h2;cases h2;obtain⟨ca,g1,g2⟩:=C.get _ _ _ h1 e;obtain⟨u,rv,q⟩:=cget _ _ g2;exact⟨u,rv,.inr ⟨.inr (S.fre y (uw h1)),ca,g1,q.keeps hk₁⟩⟩
  ·obtain⟨v,q⟩:=isc y a h
   obtain⟨u,_,q⟩:=cget _ _ q;exact⟨_,q.keeps hk₁⟩
  ·show _=N.length
   rw[S.cat,uf,uf,ua,ua,C.len,hl]
 refine wpAny_mono (ht.out [] _ _ _ _ I hq) (fun u s' hs=>?_) fun e s' hs=>hs;obtain⟨v,H',J,rv,q⟩:=hs;have hn:∀a∈cl.map (·.2),H' a=none:=fun a ha=>by
  obtain⟨v,o,q⟩:=hcA a ha;obtain⟨e1,_⟩:=e0.hok a _ q;exact J.base.free a o e1 (wC ha) (by exact fun z=>absurd (show a∈([]:List Addr)from z) (by simp))
 refine⟨v,_,J.os,J.bare,zaj hcA J.base hn,zai hn (fun a ha u e=>?_) e0.hok J.hok,rv,q hn⟩;obtain⟨v',o,q'⟩:=hcA a ha;rw[q']at e;cases e;obtain⟨e1,_⟩:=e0.hok a _ q';refine⟨v',o,rfl,e1,J.base.keep a o e1 (wC ha) (fun z=>?_) (fun z=>absurd (show a∈([]:List Addr)from z) (by simp))⟩;rw[e0.frf a z]at q';cases q'
structure EndsR where
 nx:St->Hp->Prop
 rt:St->V->Hp->Prop
abbrev TR:=EndsR->St->Hp->Prop
def SPR(X:Cx)(D:EndsR)(f:Flow)(s':Shared):Prop :=
 match f with
 |.next=>∃σ' H',Inv X [] σ' H' s'/\D.nx σ' H'
 |.ret u=>∃v σ' H',Inv X [] σ' H' s'/\RelV v u/\D.rt σ' v H'
 |_=>False
structure jR(X:Cx)(st:List Stmt)(t:TR):Prop where
 out:∀(s:Shared)(σ:St)(H:Hp)(D:EndsR),Inv X [] σ H s->t D σ H->wpAny (model X.prog X.w) X.A (execs st X.env) (SPR X D) X.xe s
section
variable{rest A:List Stmt}{t:TS}{u tA:TR}{c:Expr}{tc:TT}
def xt(t:TS)(u:TR):TR:=fun D σ H=>t { nx:=u D,rt:=fun _ _=>False } σ H
theorem zW(h1:jS X st t)(h2:jR X rest u):jR X (st::rest) (xt t u):=⟨by
 intro s σ H D I h;refine wpAny_execs_cons (thn (h1.out [] s σ H { nx:=u D,rt:=fun _ _=>False } I h) fun f s1 q=>?_);cases f with
 |next =>
  obtain⟨σ',H',I',q⟩:=q;exact h2.out s1 σ' H' D I' q
 |ret v =>
  obtain⟨_,_,_,_,_,q⟩:=q;exact False.elim q
 |brk =>
  obtain⟨_,_,_,q⟩:=q;exact False.elim q
 |cont =>
  obtain⟨_,_,_,q⟩:=q;exact False.elim q⟩
theorem xO(he:jE X e te):jR X [.Return (some e) pos] (fun D σ H=>te σ H (D.rt σ)):=⟨by
 intro s σ H D I h;refine wpAny_execs_cons (wpAny_Return_some (thn (he.out [] s σ H _ I h) fun v s1 hq_=>?_));obtain⟨x,H1,I1,r1,q1⟩:=hq_;exact⟨x,σ,H1,I1,r1,q1⟩⟩
def tIfR(tc:TT)(tA u:TR):TR:=fun D σ H=>tc σ H fun b H1=>if b=true then tA { D with nx:=u D } σ H1 else u D σ H1
theorem V8(hc:jT X c tc)(hA:jR X A tA)(hR:jR X rest u):jR X (.If c A [] pos::rest) (tIfR tc tA u):=⟨by
 intro s σ H D I h;refine wpAny_execs_cons (wpAny_If (thn (hc.out [] s σ H _ I h) fun b s1 hq_=>?_));obtain⟨H1,I1,q1⟩:=hq_;cases b with
 |true =>
  rw[if_pos rfl]at q1;refine thn (hA.out s1 σ H1 { D with nx:=u D } I1 q1) fun f s2 q=>?_;cases f with
  |next =>
   obtain⟨σ',H',I',q⟩:=q;exact hR.out s2 σ' H' D I' q
  |ret v=>exact q
  |brk=>exact q
  |cont=>exact q
 |false =>
  rw[if_neg (by decide)]at q1;exact wpAny_execs_nil (hR.out s1 σ H1 D I1 q1)⟩
end
structure Pub(H H3:Hp)(cvs:List (Addr×V)):Prop where
 old:∀b,b∉cvs.map (·.1)->H3 b=H b
 non:∀p∈cvs,H p.1=none
 cel:∀p∈cvs,Cel H3 p.1 p.2
def CellsAt(X:Cx)(σ:St)(cvs:List (Addr×V)):Prop:=∀p∈cvs,∃(i:Nat)(x:Str),X.N[i]?=some x/\σ[i]?=some (some p.2)/\X.env.cells.lookup x=some p.1/\(X.env.scope.names.lookup x=some .cell\/X.env.scope.names.lookup x=some .free)
theorem CellsAt.cell(I:Inv X pins σ H s)(h:CellsAt X σ cvs):∀p∈cvs,∃o u,s.heap.get? p.1=some o/\o.data=.cell (some u)/\RelV p.2 u:=fun p hp=>by
 obtain⟨i,x,e1,e2,e3,e4⟩:=h p hp;obtain⟨m,_,l⟩:=I.loc;obtain⟨u,r,l⟩:=l i x _ e1 e2 (.inr e4);rcases l with⟨k,_⟩|⟨_,c,q,o,e,d⟩
 ·have k:X.env.scope.names.lookup x=some .local:=k
  rcases e4 with e4|e4<;>rw[e4]at k<;>cases k
 ·rw[e3]at q;cases q
  exact⟨o,u,e,d,r⟩
def pubH(h:Heap)(H:Hp)(cvs:List (Addr×V)):Hp:=fun b=>match cvs.find? (fun p=>p.1 == b)with
 |some p=>some (.frz ((h.get? b).getD { cls:=.none,data:=.plain }) (CelO b p.2))
 |none=>H b
theorem Xs(hb:b∈cvs.map (·.1)):∃v,(b,v)∈cvs/\pubH h H cvs b=some (.frz ((h.get? b).getD { cls:=.none,data:=.plain }) (CelO b v)):=by
 obtain⟨p,hp,rfl⟩:=uu.mp hb;cases e:cvs.find? (fun q=>q.1 == p.1)with
 |none=>exact absurd (UX.mp e p hp) (by simp)
 |some q =>
  have h1:=List.find?_some e;have h2:=tK e;have h3:q.1=p.1:=by simpa using h1
  refine⟨q.2,by rw[<- h3];exact h2,?_⟩;unfold pubH;rw[e]
theorem yY(hb:b∉cvs.map (·.1)):pubH h H cvs b=H b:=by
 unfold pubH;rw[UX.mpr fun p hp=>by simpa using fun z:p.1=b=>hb (uu.mpr ⟨p,hp,z⟩)]
theorem zak(I:Inv X pins σ H s)(h:CellsAt X σ cvs)(hN:X.N.Nodup){v v':V}(h1:(b,v)∈cvs)(h2:(b,v')∈cvs):v=v':=by
 obtain⟨i,x,e1,e2,e3,_⟩:=h _ h1;obtain⟨j,y,g1,g2,g3,_⟩:=h _ h2
 have:=I.ok.inj x y b e3 g3
 subst this
 have:i=j:=(List.getElem?_inj (ud.mp e1).1 hN).mp (e1.trans g1.symm)
 subst this;rw[e2]at g2;cases g2
 rfl
theorem V9(I:Inv X pins σ H s)(h:CellsAt X σ cvs)(hN:X.N.Nodup):Pub H (pubH s.heap H cvs) cvs :=
 ⟨fun b hb=>yY hb,fun p hp=>let ⟨_,x,_,_,e3,_⟩:=h p hp;I.freeC x _ e3,fun p hp=>by
  obtain⟨v,hv,e⟩:=Xs (h:=s.heap) (H:=H) (uu.mpr ⟨p,hp,rfl⟩)
  have:=zak I h hN (b:=p.1) (v:=v) (v':=p.2) hv hp
  subst this;exact⟨_,e⟩⟩
theorem Ja(I:Inv X pins σ H s)(h:CellsAt X σ cvs):HOk X.prog X.w (pubH s.heap H cvs) s.heap:=fun b u e=>by
 have up:∀d z,H d=some z->pubH s.heap H cvs d=some z:=fun d z q=>by
  rw[yY]
  ·exact q
  ·intro y
   obtain⟨p,hp,rfl⟩:=uu.mp y;obtain⟨_,x,_,_,e3,_⟩:=h p hp;rw[I.freeC x _ e3]at q;cases q
 by_cases hb:b∈cvs.map (·.1)
 ·obtain⟨v,hv,e'⟩:=Xs (h:=s.heap) (H:=H) hb
  rw[e']at e;cases e;obtain⟨o,u,e1,e2,r⟩:=h.cell I _ hv;have e1:s.heap.get? b=some o:=e1;rw[e1];exact V6 e1 e2 r
 ·rw[yY hb]at e
  exact(I.hok b u e).stay (fun _ _ _ q=>q) (fun d q=>up d _ q) fun d xs q=>up d _ q
theorem zcN{k:Nat}{dV kV:Value} (lk:K.lookup f=some ⟨oc,od,.func (Uh name qual params body scope dV kV doc pm an cdv ct),osl⟩) (hcd:UL K cdv qual=true) (S:FnScope N ps scope)
  (len:∀vs H Q E,sp vs H Q E->vs.length=ps.length)
  (hbody:∀(A:Around)(outer:List Env)(s:Shared)(H:Hp)(vs:List V)(Q:VK)(E:XK),Room k (A.deeper (envOfC qual scope s.heap.objs.size f cdv))->sp vs H Q E->(∀b,s.heap.objs.size<=b->H b=none) ->
   ∃t,jR (cxOf CX P w K mg base N qual scope f cdv A outer s H E) body t/\t { nx:=fun _ H'=>Q .non H',rt:=fun σ v H'=>∃cvs,CellsAt (cxOf CX P w K mg base N qual scope f cdv A outer s H E) σ cvs/\∀H3,Pub H' H3 cvs->Q v H3 } (xj N vs) H) :
  FnOk P w K mg base CX (k+1) f (Uh name qual params body scope dV kV doc pm an cdv ct) ps sp:=by
 refine⟨len,fun A outer s H args us vs Q E hr e0 hb r hsp=>?_⟩;have hl:=len _ _ _ _ hsp;have KX:K.In s.heap:=e0.mod.kin.keeps fun b o e=>(e0.bs b o e).1;have lim:s.heap.NoLimit:=e0.mod.nolimit.keeps fun b o e=>(e0.bs b o e).1;have hkind:∀y∈ps.zip us,scope.names.lookup y.1=some .local\/(scope.names.lookup y.1=some .cell/\((cellsFrom (s.heap.objs.size+1) scope.names []).lookup y.1).isSome=true):=fun⟨n,v⟩ hy=>by
  rcases S.par n (Uv hy).1 with q|q
  ·exact .inl q
  ·exact .inr ⟨q,tW _ _ _ (.inl q)⟩
 refine codeAny_call_function hr.depth (KX _ _ lk) rfl S.co S.gen rfl (PySem.W.codeRec_of KX hcd) (hb _ _ _ _ ?_);refine wpAny_newFunctionEnv_cells S.kind hkind fun env he s1 x=>?_;subst he;refine⟨lim.keeps x.toInCall.keep,codeAny_func ?_⟩;obtain⟨t,ht,hq⟩:=hbody A outer s H vs Q E (hr.deeper _) hsp fun b hb=>e0.hok.fresh hb;have I:Inv (cxOf CX P w K mg base N qual scope f cdv A outer s H E) [] (xj N vs) H s1:=jz S hr.hd e0 hl r x;refine wpAny_mono (ht.out s1 (xj N vs) H _ I hq) (fun fl s' hs=>?_) fun e s' hs=>hs;cases fl with
 |ret u =>
  obtain⟨v,σ',H',J,rv,cvs,hc,q⟩:=hs;have pb:=V9 J hc S.nd;have q:=q _ pb;have ab:∀b,b∈cvs.map (·.1)->s.heap.objs.size<=b:=fun b hb=>by
   obtain⟨p,hp,rfl⟩:=uu.mp hb;obtain⟨_,x,_,_,e3,_⟩:=hc p hp;exact J.ok.cab x _ rfl e3
  have no:∀b o,H' b=some o->b∉cvs.map (·.1):=fun b o e hb=>by
   obtain⟨p,hp,rfl⟩:=uu.mp hb;rw[pb.non p hp]at e;cases e
  have un:Un (frs outer) [] H H' s.heap s'.heap:=J.base;refine⟨v,_,J.os,J.bare,⟨un.keep,un.slot,fun b o e n hx=>?_,un.there,fun b xs e=>?_,fun b o xs e=>?_,fun b p e=>?_⟩,Ja J hc,rv,q⟩
  ·rw[pb.old b fun z=>absurd (uH (uB e) (ab b z)) (Uw _)]
   exact un.free b o e n hx
  ·have e':=un.tups b xs e
   rw[pb.old b (no b _ e')];exact e'
  ·have e':=un.frzs b o xs e
   rw[pb.old b (no b _ e')];exact e'
  ·obtain⟨more,e'⟩:=un.tbls b p e
   exact⟨more,by rw[pb.old b (no b _ e')];exact e'⟩
 |next =>
  obtain⟨σ',H',J,q⟩:=hs;exact⟨.non,H',J.os,J.bare,J.base,J.hok,rfl,q⟩
 |brk=>exact False.elim hs
 |cont=>exact False.elim hs
def zcO(X:Cx)(sp:Sp)(E:XK)(t:TA):TE:=fun σ H Q=>t σ H fun vs H1=>∃cvs,CellsAt X σ cvs/\∀H3,Pub H1 H3 cvs->sp vs H3 (fun r H4=>(∀p∈cvs,Cel H4 p.1 p.2)->Q r (z7 H4 (cvs.map (·.1)))) E
theorem Jb{k:Nat}{E:XK}{p:Pos}{t:TA}(F:Ca X.prog X.w X.K X.mg X.base CX0 k x ps sp)(hr:Room k X.A)(hN:X.N.Nodup)(hg:Gl X x)(hfn:∀x,X.fn x=true)(ha:jA X (e::es) t)
  (hdb:(x == ("__debug__":Str))=false:=by decide) (h1:zy e=false:=by rfl) (h2:es.all (fun e=>!zy e)=true:=by rfl) :
  jE X (.Call (.Name x p) (e::es) [] pos) (zcO X sp E t):=⟨by
 obtain⟨f,fd,F,hb,hk,hm⟩:=F.ex;intro pins s σ H Q I h;refine wpAny_Call_Name_kw (vh I hg hm ?_ hdb);refine U4 (h₀:=X.base) I.ok.mod.kin hk (thn (ha.out pos pins s σ H _ I h) fun us s1 ⟨vs,H1,I1,r,cvs,hc,q⟩=>⟨I1.kIn,?_⟩) (zG h1) (yF h2);have pb:=V9 I1 hc hN;have ok3:=Ja I1 hc;have q:=q _ pb;have hl:us.length=ps.length:=by rw[<- r.length];exact F.len _ _ _ _ q
 have nas:∀b o,H1 b=some o->b∉cvs.map (·.1):=fun b o e hb=>by
  obtain⟨p,hp,rfl⟩:=uu.mp hb;rw[pb.non p hp]at e;cases e
 have e0:Env0 X.prog X.w X.K X.mg X.base X.A X.stack s1 (pubH s1.heap H1 cvs):=by
  have z:=I1.env0;refine⟨z.frames,z.mod,fun b o e=>⟨(z.bs b o e).1,?_⟩,z.bsz,z.funs,fun b hb=>?_,ok3,z.bare⟩
  ·rw[yY]
   ·exact(z.bs b o e).2
   ·intro hb
    obtain⟨p,hp,rfl⟩:=uu.mp hb;obtain⟨_,y,_,_,e3,_⟩:=hc p hp;exact absurd (uH (uB e) (uI I1.ok.bsz (I1.ok.cab y _ (hfn y) e3))) (Uw _)
  ·rw[yY]
   ·exact z.frf b hb
   ·intro hb'
    obtain⟨p,hp,rfl⟩:=uu.mp hb';obtain⟨_,y,_,_,e3,_⟩:=hc p hp;rcases uk.mp (I1.stkSub _ hb)with q|q
    ·exact I1.cne y _ e3 q
    ·obtain⟨_,o,ho,_⟩:=I1.ok.funs.mem q
     exact absurd (uH (uB ho) (I1.ok.cab y _ (hfn y) e3)) (Uw _)
 refine wpAny_call (codeAny_mono (F.run X.A X.stack s1 _ ⟨us,[]⟩ us vs _ E hr e0 (by have:=hb s1 us I1.kIn (by simpa using hl);simpa using this) r q) fun r s' hq=>?_);cases r with
 |error e=>exact False.elim hq
 |ok fl =>
  cases fl with
  |next=>exact False.elim hq
  |brk=>exact False.elim hq
  |cont=>exact False.elim hq
  |ret u =>
   refine I1.after ?_;obtain⟨v,H4,os,bare,un,hok,rv,q⟩:=hq;have cel4:∀b,b∈cvs.map (·.1)->∃o v,s1.heap.get? b=some o/\s'.heap.get? b=some o/\H4 b=some (.frz o (CelO b v)):=fun b hb=>by
    obtain⟨v,hv,e⟩:=Xs (h:=s1.heap) (H:=H1) hb;have e4:=un.frzs b _ _ e;exact⟨_,v,(ok3 b _ e).1,(hok b _ e4).1,e4⟩
   have hcA:∀a∈cvs.map (·.1),∃v,Cel H4 a v:=fun a ha=>let ⟨o,v,_,_,e⟩:=cel4 a ha;⟨v,o,e⟩
   have up:∀b o,H1 b=some o->pubH s1.heap H1 cvs b=some o:=fun b o e=>by rw[yY (nas b o e)];exact e
   refine⟨v,_,os,bare,⟨fun b o e n hb hx=>?_,fun b o e n hb hx=>?_,fun b o e n hx=>?_,un.there,fun b xs e=>?_,fun b o xs e=>?_,fun b p e=>?_⟩,Wa hcA hok,rv,q fun p hp=>let ⟨o,e⟩:=pb.cel p hp;⟨o,un.frzs _ _ _ e⟩⟩
   ·by_cases hb':b∈cvs.map (·.1)
    ·obtain⟨o',_,e1,e2,_⟩:=cel4 b hb'
     rw[e]at e1;cases e1;exact e2
    ·exact un.keep b o e (by rw[yY hb'];exact n) hb hx
   ·by_cases hb':b∈cvs.map (·.1)
    ·obtain⟨o',_,e1,e2,_⟩:=cel4 b hb'
     rw[e]at e1;cases e1;exact⟨o.slots,e2⟩
    ·exact un.slot b o e (by rw[yY hb'];exact n) hb hx
   ·by_cases hb':b∈cvs.map (·.1)
    ·exact wC hb'
    ·rw[zZ hb']
     exact un.free b o e (by rw[yY hb'];exact n) hx
   ·rw[zZ (nas b _ e)]
    exact un.tups b xs (up _ _ e)
   ·rw[zZ (nas b _ e)]
    exact un.frzs b o xs (up _ _ e)
   ·obtain⟨more,e'⟩:=un.tbls b p (up _ _ e)
    exact⟨more,by rw[zZ (nas b _ e)];exact e'⟩⟩
def Jc(P:Program)(w:World)(K:ub)(mg:Str->Option Value)(base:Heap)(k:Nat)(E:XK)(i:Nat)(t:TA):TE:=fun σ H Q=>∃f,σ[i]?=some (some (.ref f)) /\
 (((∃fd,H f=some (FunO f fd))/\t σ H fun vs H1=>∃fd ps sp,FnOk P w K mg base CX0 k f fd ps sp/\Binds K fd ps []/\H1 f=some (FunO f fd)/\sp vs H1 Q E) \/
   (u4 K (.ref f)=true/\t σ H fun vs H1=>∃fd ps sp,FnOk P w K mg base CX0 k f fd ps sp/\Binds K fd ps []/\sp vs H1 Q E))
theorem vO{k:Nat}{E:XK}{p:Pos}{t:TA}(hr:Room k X.A)(hn:jE X (.Name x p) (tVar i))(hx:yU CX0 X E)(ha:jA X (e::es) t)(h1:zy e=false:=by rfl)(h2:es.all (fun e=>!zy e)=true:=by rfl):
  jE X (.Call (.Name x p) (e::es) [] pos) (Jc X.prog X.w X.K X.mg X.base k E i t):=⟨by
 intro pins s σ H Q I h;obtain⟨f,hf,h⟩:=h;refine wpAny_Call_Name_kw (thn (hn.out pins s σ H (fun v H1=>v=.ref f/\H1=H) I ⟨_,hf,rfl,rfl⟩) fun u s0 hq_=>?_);obtain⟨v,H0,I0,r0,e1,e2⟩:=hq_;subst e1;subst e2;cases r0;rcases h with⟨⟨fd,hF⟩,h⟩|⟨hk,h⟩
 ·refine PySem.W.callWith_F ⟨_,_,_,_,(I0.hok f _ hF).1⟩ (thn (ha.out pos pins s0 σ H0 _ I0 h) fun us s1 ⟨vs,H1,I1,r,fd,ps,sp,F,hb,hF1,q⟩=>⟨⟨_,_,_,_,(I1.hok f _ hF1).1⟩,?_⟩) (zG h1) (yF h2)
  exact j9 F hr hb .nil hx I1 r (by rw[u6];exact q)
 ·refine U4 (h₀:=X.base) I0.ok.mod.kin hk (thn (ha.out pos pins s0 σ H0 _ I0 h) fun us s1 ⟨vs,H1,I1,r,fd,ps,sp,F,hb,q⟩=>⟨I1.kIn,?_⟩) (zG h1) (yF h2)
  exact j9 F hr hb .nil hx I1 r (by rw[u6];exact q)⟩
structure FunC(K:ub)(x:Str)(st:Stmt)(c f:Addr)(fd:FuncData):Prop where
 ex:∃(oc:Value)(od:Option Addr)(kV doc pm:Value)(an:Option Addr)(ct:Value)(osl:Array (Option Value)),fd=Uh x x (yk st) (zP st) (zp st) .none kV doc pm an (.ref c) ct/\K.lookup f=some ⟨oc,od,.func fd,osl⟩/\UL K (.ref c) x=true
section
variable{k:Nat}
theorem FunC.by(F:FunC K x st c f fd)(S:FnScope N ps (zp st))(len:∀vs H Q E,sp vs H Q E->vs.length=ps.length)
  (hbody:∀(A:Around)(outer:List Env)(s:Shared)(H:Hp)(vs:List V)(Q:VK)(E:XK),Room k (A.deeper (envOfC x (zp st) s.heap.objs.size f (.ref c)))->sp vs H Q E ->
   ∃t,jSs (cxOf CX0 P w K mg base N x (zp st) f (.ref c) A outer s H E).nox (zP st) t/\t { nx:=fun _ H'=>Q .non H',rt:=Q } (xj N vs) H):FnOk P w K mg base CX0 (k+1) f fd ps sp:=by
 obtain⟨oc,od,kV,doc,pm,an,ct,osl,rfl,lk,hcd⟩:=F.ex;refine zbn lk hcd S len fun A outer s H vs Q E hr hsp=>?_;obtain⟨t,h,q⟩:=hbody A outer s H vs Q E hr hsp;exact⟨t,h.out.nox,q⟩
theorem FunC.byR(F:FunC K x st c f fd)(S:FnScope N ps (zp st))(len:∀vs H Q E,sp vs H Q E->vs.length=ps.length)
  (hbody:∀(A:Around)(outer:List Env)(s:Shared)(H:Hp)(vs:List V)(Q:VK)(E:XK),Room k (A.deeper (envOfC x (zp st) s.heap.objs.size f (.ref c)))->sp vs H Q E->(∀b,s.heap.objs.size<=b->H b=none) ->
   ∃t,jR (cxOf CX0 P w K mg base N x (zp st) f (.ref c) A outer s H E) (zP st) t/\t { nx:=fun _ H'=>Q .non H',rt:=fun σ v H'=>∃cvs,CellsAt (cxOf CX0 P w K mg base N x (zp st) f (.ref c) A outer s H E) σ cvs/\∀H3,Pub H' H3 cvs->Q v H3 } (xj N vs) H) :
  FnOk P w K mg base CX0 (k+1) f fd ps sp:=by
 obtain⟨oc,od,kV,doc,pm,an,ct,osl,rfl,lk,hcd⟩:=F.ex;exact zcN lk hcd S len hbody
def DcIn(K:ub)(x:Str)(st:Stmt)(c:Addr):Prop:=∃f,UJ K mainGlobals x=some (some (.ref f))/\∃(oc:Value)(od:Option Addr)(kV doc pm:Value)(an:Option Addr)(ct:Value)(osl:Array (Option Value)),K.lookup f=some ⟨oc,od,.func (Uh x x (yk st) (zP st) (zp st) .none kV doc pm an (.ref c) ct),osl⟩/\UL K (.ref c) x=true/\u4 K (.ref f)=true
theorem DcIn.mk{kV:Value}(a:UJ K mainGlobals x=some (some (.ref f)))(l:K.lookup f=some ⟨oc,od,.func (Uh x x (yk st) (zP st) (zp st) .none kV doc pm an (.ref c) ct),osl⟩)(cc:UL K (.ref c) x=true)(k:u4 K (.ref f)=true):DcIn K x st c:=⟨f,a,oc,od,kV,doc,pm,an,ct,osl,l,cc,k⟩
theorem DcIn.ca(X:K.In h)(G:h.Ns mainGlobals mg)(d:DcIn K x st c)(hb:∀(kV doc pm:Value)(an:Option Addr)(ct:Value)(us:List Value),us.length=ps.length->bindArgs (Uh x x (yk st) (zP st) (zp st) .none kV doc pm an (.ref c) ct) ⟨us,[]⟩=pure (ps.zip us))
  (ok:∀f fd,FunC K x st c f fd->FnOk P w K mg base CX0 k f fd ps sp):Ca P w K mg base CX0 k x ps sp:=by
 obtain⟨f,a,oc,od,kV,doc,pm,an,ct,osl,l,cc,kp⟩:=d;exact⟨f,_,ok f _ ⟨oc,od,kV,doc,pm,an,ct,osl,rfl,l,cc⟩,.all fun us hl=>hb kV doc pm an ct us hl,kp,U7 X G a⟩
end
def TbG(T:Addr)(ls:List (Pos×Str))(H:Hp):Prop:=∃ps,H T=some (.tbl ps)/\TriplesOk ps.toList/\∀p∈ls,codeAmong p.1 ps.toList=none\/∃c,codeAmong p.1 ps.toList=some (.ref c)/\H c=some (CodO c p.2)
theorem WS{a b:Int}{c:Value}(l:List Value)(h:TriplesOk l):TriplesOk (l++[rawInt a,rawInt b,c]):=by
 fun_induction TriplesOk l with
 |case1=>trivial
 |case2 i t j u v rest ih=>exact ih h
 |case3=>exact False.elim h
theorem Yn{p':Pos}{c:Value}(l:List Value)(h:TriplesOk l)(n:¬ (p'.line=pos.line/\p'.col=pos.col)):codeAmong pos (l++[rawInt p'.line,rawInt p'.col,c])=codeAmong pos l:=by
 fun_induction TriplesOk l with
 |case1 =>
  show(if((p'.line:Nat):Int) == (pos.line:Nat) && ((p'.col:Nat):Int) == (pos.col:Nat)then some c else codeAmong pos [])=_;rw[if_neg];simp
  intro e e';exact n ⟨by lia,by lia⟩
 |case2 i t j u v rest ih =>
  show(if i == (pos.line:Nat) && j == (pos.col:Nat)then some v else codeAmong pos (rest++_))=if i == (pos.line:Nat) && j == (pos.col:Nat)then some v else codeAmong pos rest
  rw[ih h]
 |case3=>exact False.elim h
theorem WT{p':Pos}(l:List Value)(n:p'.line=pos.line/\p'.col=pos.col):codeAmong pos l=codeAmong p' l:=by
 fun_induction codeAmong pos l with
 |case1 line _ col _ c rest h=>rw[codeAmong,n.1,n.2,if_pos h]
 |case2 line _ col _ c rest h ih=>rw[codeAmong,n.1,n.2,if_neg h];exact ih
 |case3 l h =>
  unfold codeAmong;split
  ·exact absurd rfl (h _ _ _ _ _ _)
  ·rfl
theorem TbG.keep(h:TbG T ls H)(kt:∀ps,H T=some (.tbl ps)->H' T=some (.tbl ps))(kc:∀c q,H c=some (CodO c q)->H' c=some (CodO c q)):TbG T ls H':=by
 obtain⟨ps,e,t,h⟩:=h;exact⟨ps,kt _ e,t,fun p hp=>(h p hp).imp_right fun⟨c,a,b⟩=>⟨c,a,kc _ _ b⟩⟩
theorem TbG.empty(h:H T=some (.tbl #[])):TbG T ls H:=⟨#[],h,trivial,fun p _=>.inl rfl⟩
theorem yQ{body:Expr}{cl:List (Str×Addr)}{Q:VK}(h:TbG T ls H)(hm:(pos,qual)∈ls)(hu:∀p∈ls,(pos.line=p.1.line/\pos.col=p.1.col)->p.2=qual)
  (q:∀H' f c ct,(∀b u,b≠T->H b=some u->H' b=some u)->TbG T ls H'->H f=none->f≠T->c≠T->H' f=some (FunO f (lamC mg qual params body scope cl c ct))->H' c=some (CodO c qual)->Q (.ref f) H'):V7 mg T qual params body scope pos cl σ H Q:=by
 obtain⟨ps,hT,tr,ha⟩:=h;refine⟨ps,hT,tr,?_⟩;rcases ha _ hm with hn|⟨c,hs,hc⟩
 ·refine .inl ⟨hn,fun c f ct h1 h2 h3=>?_⟩
  have n1:T≠c:=zi hT h1;have n2:T≠f:=zi hT h2;have kp:∀b u,b≠T->H b=some u->upd (upd (upd H T (.tbl (ps ++ #[rawInt pos.line,rawInt pos.col,.ref c]))) c (CodO c qual)) f (FunO f (lamC mg qual params body scope cl c ct)) b=some u:=fun b u n e=>by rw[zj (zi e h2),zj (zi e h1),zj n];exact e
  have e2:upd (upd (upd H T (.tbl (ps ++ #[rawInt pos.line,rawInt pos.col,.ref c]))) c (CodO c qual)) f (FunO f (lamC mg qual params body scope cl c ct)) c=some (CodO c qual):=by rw[zj h3.symm];exact uX9
  refine q _ f c ct kp ⟨_,by rw[zj n2,zj n1];exact uX9,?_,fun p hp=>?_⟩ h2 n2.symm n1.symm uX9 e2
  ·rw[Array.toList_append]
   exact WS _ tr
  ·rw[Array.toList_append]
   by_cases z:pos.line=p.1.line/\pos.col=p.1.col
   ·refine .inr ⟨c,?_,by rw[e2,hu p hp z]⟩
    rw[WT _ z];exact codeAmong_snoc _ tr hn
   ·rw[show(#[rawInt pos.line,rawInt pos.col,Value.ref c]:Array Value).toList=[rawInt pos.line,rawInt pos.col,.ref c]from rfl,Yn _ tr z]
    refine(ha p hp).imp_right fun⟨d,a,b⟩=>⟨d,a,kp _ _ (fun w=>?_) b⟩;rw[w,hT]at b;cases b
 ·refine .inr ⟨c,hs,fun f ct h2=>?_⟩
  have kp:∀b u,H b=some u->upd H f (FunO f (lamC mg qual params body scope cl c ct)) b=some u:=fun b u e=>by rw[zj (zi e h2)];exact e
  refine q _ f c ct (fun b u _ e=>kp b u e) ⟨ps,kp _ _ hT,tr,fun p hp=>(ha p hp).imp_right fun⟨d,a,b⟩=>⟨d,a,kp _ _ b⟩⟩ h2 (zi hT h2).symm (fun w=>?_) uX9 (kp _ _ hc);rw[w,hT]at hc;cases hc
end L2
namespace L2
open PySem
variable{a b:Expr}
section
variable{a b c d:TS}{u:TR}{D:EndsR}{σ:List (Option V)}
theorem cutE(h:∀E:EndsR,D=E->u E σ H):u D σ H:=h D rfl
theorem Yo(h:∀v:TR,u=v->xt a v D σ H):xt a u D σ H:=h u rfl
theorem zdW(h:∀v:TR,u=v->xt a (xt b v) D σ H):xt a (xt b u) D σ H:=h u rfl
theorem zbA(h:∀v:TR,u=v->xt a (xt b (xt c v)) D σ H):xt a (xt b (xt c u)) D σ H:=h u rfl
theorem cutF{t:TS}{v:V}{D:Ends}(h:∀k:St->Hp->Prop,(∀σ H,t D σ H->k σ H)->g v σ H k):g v σ H fun σ2 H2=>t D σ2 H2:=h _ fun _ _ z=>z
theorem Jd{t:TS}{D:Ends}(h:∀E:Ends,D=E->t E σ H):t D σ H:=h D rfl
theorem zq{α β:Type}{a:α->Prop}{b c:α->β->Prop}{w:α}{v:β}(h:a w)(i:b w v)(k:c w v):∃x,a x/\∃y,b x y/\c x y:=⟨w,h,v,i,k⟩
end
theorem zn(K:ub){i:Int}{j}{p:Pos}(ha:jE X a ta)(h:X.K=K:=by rfl):jE X (.Subscript a (.Constant (.int i) j p) pos) (tOp (rIxT K) ta (tC (.int i))):=Yf (wA K h) ha zt (fun _ _=>rfl)
theorem zQ(K:ub){i:Int}{j}{p:Pos}(ha:jE X a ta)(h:X.K=K:=by rfl):jE X (.Subscript a (.Constant (.int i) j p) pos) (tOp (rIxL K) ta (tC (.int i))):=Yf (zY K h) ha zt (fun _ _=>rfl)
theorem xV(K:ub)(ha:jE X a ta)(hb:jE X b tb)(hm:behindInMarks .NotIn b=false:=by with_unfolding_all rfl)(h:X.K=K:=by rfl):jT X (.Compare a [.NotIn] [b] pos) (vE (tOp (rIn K true) ta tb)):=Zh (jL K h) ha hb hm
theorem Zn(K:ub)(ha:jE X a ta)(hb:jE X b tb)(hm:behindInMarks .In b=false:=by with_unfolding_all rfl)(h:X.K=K:=by rfl):jT X (.Compare a [.In] [b] pos) (vE (tOp (rIn K false) ta tb)):=Zh (Xr K h) ha hb hm
theorem yV{A B:TS}{w1:Str}{rest:List V}(h0:σ[0]?=some (some (.ref p)))(hp:H p=some (.tup (.str w0::rest)))(k:A D σ H)(e:decide (V.str w0=V.str w1)=true:=by rfl):tIfS (vE (tOp rEq (tOp (rIxT K) (tVar 0) (tC (.int 0))) (tC (.str w1)))) A B D σ H:=⟨_,h0,ixT hp aI0 ⟨rfl,_,rfl,by rw[e];exact k⟩⟩
theorem ya{A:TS}{w1:Str}{rest:List V}(h0:σ[0]?=some (some (.ref p)))(hp:H p=some (.tup (.str w0::rest)))(k:D.nx σ H)(e:decide (V.str w0=V.str w1)=false:=by rfl):tIfS (vE (tOp rEq (tOp (rIxT K) (tVar 0) (tC (.int 0))) (tC (.str w1)))) A jr D σ H:=⟨_,h0,ixT hp aI0 ⟨rfl,_,rfl,by rw[e];exact k⟩⟩
theorem yH(K:ub){l:Expr}(hl:jE X l tl)(h:X.K=K:=by rfl):jI X tg l (iTup K tl):=h ▸ zcE hl
theorem zR(K:ub){l:Expr}(hl:jE X l tl)(h:X.K=K:=by rfl):jI X tg l (Vv K tl):=h ▸ Q9 hl
theorem yI(K:ub){t:TA}{p:Pos}(hg:Gl X "zip")(hm:X.mg "zip"=none)(ha:jA X [a,b] t)(h1:zy a=false:=by rfl)(h2:zy b=false:=by rfl)(h:X.K=K:=by rfl):jI X (.Tuple elts n tpos) (.Call (.Name "zip" p) [a,b] [] pos) (iZip K t):=h ▸ zcJ hg hm ha h1 h2
theorem zg{α:Type}{a b:α->Prop}{w:α}(h:a w)(k:b w):∃x,a x/\b x:=⟨w,h,k⟩
end L2
namespace L2
theorem zC{α β:Type}{a:α->Prop}{b:β->Prop}{c:α->β->Prop}{w:α}{v:β}(h:a w)(i:b v)(k:c w v):∃x y,a x/\b y/\c x y:=⟨w,v,h,i,k⟩
end L2
namespace L2
open PySem
variable{P:St->Hp->Prop}
theorem cutD{t:TS}(h:∀D':Ends,(∀σ H,P σ H->D'.nx σ H)->t D' σ H)(p:∀σ H,P σ H->D.nx σ H):t D σ H:=h D p
theorem cutR{t:TS}(h:∀D':Ends,D'.rt=D.rt->(∀σ H,P σ H->D'.nx σ H)->t D' σ H)(p:∀σ H,P σ H->D.nx σ H):t D σ H:=h D rfl p
end L2
namespace L2
open PySem PySem.Spec PyProof.Rows
variable{o:Option V}{y:V}{kvs:List (List Key×V)}{xs:List (List Key×Addr×Value)}
section
variable{κ:Type}[DecidableEq κ]
def valV(kvs:List (κ×V))(k:κ):Option V:=(kvs.find? fun kv=>decide (kv.1=k)).map (·.2)
def putK(kvs:List (κ×V))(k:κ)(v:V):List (κ×V) :=
 if(kvs.any fun kv=>decide (kv.1=k))=true then kvs.map (fun kv=>if kv.1=k then(kv.1,v)else kv)else kvs++[(k,v)]
theorem yo{p:κ×V}{r:List (κ×V)}{k:κ}(e:p.1=k):valV (p::r) k=some p.2:=by simp[valV,UZ,e]
theorem yp{p:κ×V}{r:List (κ×V)}{k:κ}(e:¬ p.1=k):valV (p::r) k=valV r k:=by simp[valV,UZ,e]
theorem xg(k:κ):∀kvs:List (κ×V),(kvs.any fun kv=>decide (kv.1=k))=(valV kvs k).isSome
 |[]=>rfl
 |p::r=>by
  rw[List.any_cons];by_cases e:p.1=k
  ·simp only[yo e,decide_eq_true e,Bool.true_or,Option.isSome_some]
  ·rw[yp e,decide_eq_false e,tQ];exact xg k r
theorem Yp(k j:κ)(y:V):∀kvs:List (κ×V),valV (kvs.map fun kv=>if kv.1=k then(kv.1,y)else kv) j=(valV kvs j).map fun x=>if j=k then y else x
 |[]=>rfl
 |p::r=>by
  have ih:=Yp k j y r;rw[uC];by_cases h:p.1=k
  ·rw[if_pos h]
   by_cases e:p.1=j
   ·rw[yo (p:=(p.1,y)) e,yo e,UY,if_pos (e.symm.trans h)]
   ·rw[yp (p:=(p.1,y)) e,yp e,ih]
  ·rw[if_neg h]
   by_cases e:p.1=j
   ·rw[yo (p:=p) e,yo e,UY,if_neg (fun z=>h (e.trans z))]
   ·rw[yp (p:=p) e,yp e,ih]
theorem jM(k j:κ)(y:V):∀kvs:List (κ×V),valV kvs k=none->valV (kvs++[(k,y)]) j=if j=k then some y else valV kvs j
 |[],_=>by
  by_cases e:k=j
  ·rw[if_pos e.symm];exact yo (p:=(k,y)) e
  ·rw[if_neg (fun z=>e z.symm)];exact yp (p:=(k,y)) e
 |p::r,hn=>by
  rw[List.cons_append];have hk:¬ p.1=k:=fun z=>by rw[yo z]at hn;cases hn
  rw[yp hk]at hn;have ih:=jM k j y r hn;by_cases e:p.1=j
  ·rw[yo e,yo e,if_neg (fun z=>hk (e.trans z))]
  ·rw[yp e,yp e,ih]
theorem Yq(kvs:List (κ×V))(k j:κ)(y:V):valV (putK kvs k y) j=if j=k then some y else valV kvs j:=by
 unfold putK;by_cases a:(kvs.any fun kv=>decide (kv.1=k))=true
 ·rw[if_pos a,Yp]
  rw[xg]at a;by_cases e:j=k
  ·obtain⟨x,hx⟩:=tP.mp a
   rw[if_pos e,e,hx,UY,if_pos rfl]
  ·rw[if_neg e]
   cases valV kvs j with
   |none=>rfl
   |some x=>rw[UY,if_neg e]
 ·rw[if_neg a]
  refine jM k j y kvs ?_;rw[xg]at a;cases q:valV kvs k with
  |none=>rfl
  |some x=>rw[q]at a;exact(a rfl).elim
theorem vf(kvs:List (κ×V))(k:κ)(v:V):(putK kvs k v).length<=kvs.length+1:=by
 unfold putK;split
 ·rw[ua];lia
 ·rw[uf,ui,List.length_nil];lia
theorem Je{kvs:List (κ×V)}{k:κ}(v:V)(h:valV kvs k=none):putK kvs k v=kvs++[(k,v)]:=by
 unfold putK;rw[xg,h];exact if_neg (by decide)
theorem RelO.isSome_eq{u:Option Value}(r:RelO o u):o.isSome=u.isSome:=by
 cases o with
 |none=>cases u with
  |none=>rfl
  |some _=>exact(show False from r).elim
 |some _=>cases u with
  |none=>exact(show False from r).elim
  |some _=>rfl
theorem RelO.getD{u:Option Value}{d:V}{d':Value}(r:RelO o u)(rd:RelV d d'):RelV (o.getD d) (u.getD d'):=by
 cases o with
 |none=>cases u with
  |none=>exact rd
  |some _=>exact(show False from r).elim
 |some _=>cases u with
  |none=>exact(show False from r).elim
  |some _=>exact r
theorem KV.val{kvs:List (κ×V)}{vs:List (κ×Value)}(r:KV kvs vs)(k:κ):RelO (valV kvs k) (valueAt vs k):=by
 unfold KV at r
 induction r with
 |nil=>exact True.intro
 |@cons p q ps qs h t ih =>
  obtain⟨h1,h2⟩:=h;by_cases e:p.1=k
  ·have e':q.1=k:=h1.symm.trans e
   have b:valueAt (q::qs) k=some q.2:=by simp[valueAt,UZ,e']
   rw[yo e,b];exact h2
  ·have e':¬ q.1=k:=fun z=>e (h1.trans z)
   have b:valueAt (q::qs) k=valueAt qs k:=by simp[valueAt,UZ,e']
   rw[yp e,b];exact ih
theorem KV.any{kvs:List (κ×V)}{vs:List (κ×Value)}(r:KV kvs vs)(k:κ):(kvs.any fun kv=>decide (kv.1=k))=vs.any fun kv=>decide (kv.1=k):=by
 unfold KV at r
 induction r with
 |nil=>rfl
 |cons h t ih=>rw[List.any_cons,List.any_cons,ih,h.1]
theorem KV.repl{kvs:List (κ×V)}{vs:List (κ×Value)}(r:KV kvs vs)(k:κ)(ry:RelV y u):
  KV (kvs.map fun kv=>if kv.1=k then(kv.1,y)else kv) (vs.map fun kv=>if kv.1=k then(kv.1,u)else kv):=by
 unfold KV at r ⊢
 induction r with
 |nil=>exact .nil
 |@cons p q ps qs h t ih =>
  rw[uC,uC];refine .cons ?_ ih;obtain⟨h1,h2⟩:=h;by_cases e:p.1=k
  ·rw[if_pos e,if_pos (h1.symm.trans e)];exact⟨h1,ry⟩
  ·rw[if_neg e,if_neg (fun z=>e (h1.trans z))];exact⟨h1,h2⟩
theorem KV.put{kvs:List (κ×V)}{vs:List (κ×Value)}(r:KV kvs vs)(k:κ)(ry:RelV y u):KV (putK kvs k y) (stored vs k u):=by
 unfold putK stored;rw[r.any k];by_cases e:(vs.any fun kv=>decide (kv.1=k))=true
 ·rw[if_pos e,if_pos e];exact r.repl k ry
 ·rw[if_neg e,if_neg e];exact Paired.snoc r ⟨rfl,ry⟩
theorem KV.length{kvs:List (κ×V)}{vs:List (κ×Value)}(r:KV kvs vs):kvs.length=vs.length:=Paired.length r
end
theorem Wb{k:Key}(r:RelV (kV k) u):(zU P w).is k u=true:=by
 cases k with
 |inl i=>obtain⟨t,e⟩:=(show ∃t,u=Value.int i t from r);subst e;exact Z6 P w i t
 |inr x=>obtain⟨t,e⟩:=(show ∃t,u=Value.str x t from r);subst e;exact Z7 P w x t
theorem jN{P:Program}{w:World}:∀{ks:List Key}{us:List Value},Vals (ks.map kV) us->ItemsAre (zU P w) ks us
 |[],_,r=>by rw[List.map_nil]at r;cases r;exact .nil
 |k::ks,_,r=>by
  rw[uC]at r;cases r with
  |cons h t=>exact .cons (Wb h) (jN t)
abbrev KT(H:Hp):List (List Key×V)->List (List Key×Addr×Value)->Prop:=Paired fun p q=>p.1=q.1/\H q.2.1=some (.tup (p.1.map kV))/\RelV p.2 q.2.2
theorem KT.val(r:KT H kvs xs)(k:List Key):RelO (valV kvs k) ((atKey xs k).map (·.2)):=by
 induction r with
 |nil=>exact True.intro
 |@cons p q ps qs h t ih =>
  obtain⟨h1,_,h2⟩:=h;by_cases e:p.1=k
  ·have e':q.1=k:=h1.symm.trans e
   have b:atKey (q::qs) k=some q.2:=by simp[atKey,UZ,e']
   rw[yo e,b];exact h2
  ·have e':¬ q.1=k:=fun z=>e (h1.trans z)
   have b:atKey (q::qs) k=atKey qs k:=by simp[atKey,UZ,e']
   rw[yp e,b];exact ih
theorem KT.repl(r:KT H kvs xs)(k:List Key)(ry:RelV y u):
  KT H (kvs.map fun kv=>if kv.1=k then(kv.1,y)else kv) (xs.map (putAt k u)):=by
 induction r with
 |nil=>exact .nil
 |@cons p q ps qs h t ih =>
  rw[uC,uC];refine .cons ?_ ih;obtain⟨h1,h2,h3⟩:=h;unfold putAt;by_cases e:p.1=k
  ·rw[if_pos e,if_pos (h1.symm.trans e)];exact⟨h1,h2,ry⟩
  ·rw[if_neg e,if_neg (fun z=>e (h1.trans z))];exact⟨h1,h2,h3⟩
theorem KT.put(r:KT H kvs xs)(k:List Key)(hb:H b=some (.tup (k.map kV)))(ry:RelV y u):
  KT H (putK kvs k y) (storedH xs k b u):=by
 have e:(kvs.any fun kv=>decide (kv.1=k))=(atKey xs k).isSome:=by
  rw[xg,(r.val k).isSome_eq,Option.isSome_map]
 unfold putK storedH;rw[e];by_cases q:(atKey xs k).isSome=true
 ·rw[if_pos q,if_pos q];exact r.repl k ry
 ·rw[if_neg q,if_neg q];exact Paired.snoc r ⟨rfl,hb,ry⟩
theorem KT.keeps(r:KT H kvs xs)(ht:∀b ys,H b=some (.tup ys)->H' b=some (.tup ys)):KT H' kvs xs :=
 Paired.mapP r fun _ _ z=>⟨z.1,ht _ _ z.2.1,z.2.2⟩
theorem zbB{u:HO}(ok:HOk P w H h)(e:Rd H a u):ObjOk P w H h a u:=e.ok ok
theorem Yr{kvs:List (Key×V)}(ok:HOk P w H h)(e:Rd H a (.dK kvs)):kvs.length<=sizeLine/\(a == sysModules)=false/\∃vs,KV kvs vs/\h.DictOf (zU P w) a vs :=
 show ObjOk P w H h a (.dK kvs)from zbB ok e
theorem vP{kvs:List (Key×V)}(ok:HOk P w H h)(e:H a=some (.dK kvs)):kvs.length<=sizeLine/\(a == sysModules)=false/\∃vs,KV kvs vs/\h.DictOf (zU P w) a vs:=Yr ok (.inl e)
theorem Zo{ks:List Key}(ok:HOk P w H h)(e:H a=some (.tup (ks.map kV))):(tupleKind (zU P w)).is h ks a:=by
 obtain⟨_,its,r,o,h1,h2,_,n,h3⟩:=(show ObjOk P w H h a (.tup (ks.map kV))from ok a _ e);exact⟨o,its.toArray,n,h1,h2,h3,by simpa using jN r⟩
theorem Ys(ok:HOk P w H h)(e:Rd H a (.dT kvs)):kvs.length<=sizeLine/\(a == sysModules)=false /\
  ∃xs,KT H kvs xs/\h.DictOfH (tupleKind (zU P w)) a xs:=by
 obtain⟨z,y,xs,r,o,es,ep,h1,h2,h3,h4,h5⟩:=(show ObjOk P w H h a (.dT kvs)from zbB ok e);refine⟨z,y,xs,r,o,es,ep,h1,h2,h3,h4,fun x hx=>?_,h5⟩;have all:∀{l:List (List Key×V)}{m:List (List Key×Addr×Value)},KT H l m->∀x∈m,(tupleKind (zU P w)).is h x.1 x.2.1:=by
  intro l m q
  induction q with
  |nil=>intro x hx;exact nomatch hx
  |@cons p q ps qs hq t ih =>
   intro x hx;rcases uk.mp hx with e|hx
   ·subst e
    exact Zo ok (by rw[<- hq.1];exact hq.2.1)
   ·exact ih x hx
 exact all r x hx
theorem zdX(ok:HOk P w H h)(e:H a=some (.dT kvs)):kvs.length<=sizeLine/\(a == sysModules)=false /\
  ∃xs,KT H kvs xs/\h.DictOfH (tupleKind (zU P w)) a xs:=Ys ok (.inl e)
def DGet(H:Hp)(a:Addr)(y:V)(r:Option V):Prop :=
 (∃kvs k,Rd H a (.dK kvs)/\y=kV k/\r=valV kvs k)\/∃kvs k b,Rd H a (.dT kvs)/\y=.ref b/\H b=some (.tup (k.map kV))/\r=valV kvs k
def DPut(H:Hp)(a:Addr)(y v:V)(H':Hp):Prop :=
 (∃kvs k,H a=some (.dK kvs)/\y=kV k/\kvs.length < sizeLine/\H'=upd H a (.dK (putK kvs k v))) \/
 ∃kvs k b,H a=some (.dT kvs)/\y=.ref b/\H b=some (.tup (k.map kV))/\kvs.length < sizeLine/\H'=upd H a (.dT (putK kvs k v))
theorem DGet.k{kvs:List (Key×V)}{k:Key}(e:H a=some (.dK kvs)):DGet H a (kV k) (valV kvs k):=.inl ⟨kvs,k,.inl e,rfl,rfl⟩
theorem DPut.k{kvs:List (Key×V)}{k:Key}{v:V}(e:H a=some (.dK kvs))(hl:kvs.length < sizeLine):DPut H a (kV k) v (upd H a (.dK (putK kvs k v))):=.inl ⟨kvs,k,e,rfl,hl,rfl⟩
section
variable{v:V}{r:Value}
theorem Inv.big(I:Inv X pins σ H s):sysModules < s.heap.objs.size:=by
 have h:mainGlobals < s.heap.objs.size:=(I.mod.glob.keeps I.bk).lt;exact Nat.lt_trans (by decide) h
theorem WU{Q:VSP}(hu:A.units+1 < cLine)(I:Inv X pins σ H s)(g:DGet H a y (some v))(ry:RelV y u)(h:∀w' s',Inv X pins σ H s'->RelV v w'->Q w' s'):
  wpAny (model X.prog X.w) A (getItem (.ref a) u) Q E s:=by
 rcases g with⟨kvs,k,e,ey,l⟩|⟨kvs,k,b,e,ey,eb,l⟩
 ·subst ey
  obtain⟨z,hd,vs,rel,dd⟩:=Yr I.hok e;obtain⟨w',hw,rw'⟩:=RelO.some_of (v:=v) (o:=valueAt vs k) (by rw[l];exact rel.val k);exact wpAny_getItem_of (Wb ry) dd.mapOf hw (h w' _ (I.tok _) rw')
 ·subst ey
  cases(show u=Value.ref b from ry);obtain⟨z,hd,xs,rel,dd⟩:=Ys I.hok e;obtain⟨w',hw,rw'⟩:=RelO.some_of (v:=v) (o:=(atKey xs k).map (·.2)) (by rw[l];exact rel.val k);obtain⟨p,hp,hp2⟩:=ue.mp hw;refine wpAny_getItem_heap (tupleKind_room_in1 hu) (Zo I.hok eb) dd hp ?_;rw[hp2];exact h w' _ (I.tok _) rw'
theorem Wc{ob:HO}(I:Inv X pins σ H s)(mu:Mut (H a))(hs:Heap.SameBut a s.heap h')(he:∃q,h'.get? a=some q)(new:ObjOk X.prog X.w (upd H a ob) h' a ob):
  Inv X pins σ (upd H a ob) { s with heap:=h',toks:=t' } :=
 I.write (x:=a) (e:=a) mu (.inl rfl) (fun b q hb z=>(hs.2 b hb).trans z) he new
theorem zcP{kvs:List (Key×V)}{vs:List (Key×Value)}(z:kvs.length<=sizeLine)(hd:(a == sysModules)=false)(rel:KV kvs vs)(dd:h'.DictOf (zU P w) a vs):
  ObjOk P w H' h' a (.dK kvs):=⟨z,hd,vs,rel,dd⟩
theorem WV(hu:A.units+1 < cLine)(I:Inv X pins σ H s)(g:DPut H a y v H')(ry:RelV y u)(rv:RelV v r)(h:∀s',Inv X pins σ H' s'->Q () s'):
  wpAny (model X.prog X.w) A (setItem (.ref a) u r) Q E s:=by
 rcases g with⟨kvs,k,e,ey,l,eH⟩|⟨kvs,k,b,e,ey,eb,l,eH⟩
 ·subst ey eH
  obtain⟨z,hd,vs,rel,dd⟩:=vP I.hok e;have hz:vs.length<=sizeLine:=by rw[<- rel.length];exact z
  have hl:(putK kvs k v).length<=sizeLine:=by have:=vf kvs k v;lia
  refine wpAny_setItem_pairs (hsz:=hz) (Wb ry) dd fun h' dd' hs=>h _ ?_;have he:∃q,h'.get? a=some q:=let ⟨q,_,_,hq,_⟩:=dd';⟨q,hq⟩
  exact Wc I (by rw[e];exact True.intro) hs he (zcP hl hd (rel.put k rv) dd')
 ·subst ey eH
  cases(show u=Value.ref b from ry);obtain⟨z,hd,xs,rel,dd⟩:=zdX I.hok e;have hz:xs.length<=sizeLine:=by rw[<- Paired.length rel];exact z
  have hl:(putK kvs k v).length<=sizeLine:=by have:=vf kvs k v;lia
  refine wpAny_setItem_heap (hsz:=hz) (tupleKind_room_in1 hu) (Zo I.hok eb) dd fun h' dd' hs=>h _ ?_;obtain⟨q,es,ep,hq,h2,h3,h4,_,h5⟩:=dd';refine Wc I (by rw[e];exact True.intro) hs ⟨q,hq⟩ ⟨hl,hd,_,(rel.put k eb rv).keeps fun c ys ec=>?_,q,es,ep,hq,h2,h3,h4,h5⟩;rw[zj (yv ec e (fun z=>nomatch z))];exact ec
end
def NoSl(i:Expr):Prop:=∀ov iv,subscripted i false ov iv=operate [ov,iv] (getItem ov iv)
theorem zal{slice:Expr}{T:String}{Q:VSP}
  (hl:typeLookup (.type T) "__getitem__"=pure (some (.builtin id))) (hs:NoSl slice)
  (h:wpAny (model prog w) A (eval value env) (fun o s₁=>wpAny (model prog w) A (eval slice env) (fun i s₂=>s₂.TypeIs o T/\wpAny (model prog w) A (getItem o i) Q E s₂) E s₁) E s) :
  wpAny (model prog w) A (eval (.Subscript value slice pos) env) Q E s:=by
 refine Subscript_ (wpAny_mono h (fun o s₁ h₁=>wpAny_mono h₁ (fun i s₂ h₂=>?_) fun _ _ x=>x) fun _ _ x=>x);obtain⟨hT,h₂⟩:=h₂;unfold subscriptTail;refine wpAny_bind ?_;rw[getitemInPython_of_ne hT.not_modules];refine wpAny_bind (wpAny_specialOf hT hl ?_);have fin:wpAny (model prog w) A (subscripted slice false o i) (fun r s₃=>wpAny (model prog w) A (letTemporaryGo value o r >>= fun _=>pure r) Q E s₃) E s₂:=by
  rw[hs o i];exact wpAny_operating (wpAny_mono h₂ (fun r s₃ h₃=>wpAny_bind (wpAny_letTemporaryGo (wpAny_pure h₃))) fun _ _ x=>x)
 first
  |exact wpAny_pure (wpAny_bind fin)
  |exact wpAny_bind (wpAny_pure (wpAny_bind fin))
  |exact wpAny_bind fin
theorem Yt(I:Inv X pins σ H s)(g:DGet H a y o):s.TypeIs (.ref a) "dict":=by
 rcases g with⟨kvs,k,e,_,_⟩|⟨kvs,k,b,e,_,_,_⟩
 ·obtain⟨_,_,vs,_,dd⟩:=Yr I.hok e
  exact dd.typeIs
 ·obtain⟨_,_,xs,_,dd⟩:=Ys I.hok e
  exact dd.typeIs
def zbC(td ty:TE):TE:=fun σ H Q=>td σ H fun x H1=>ty σ H1 fun y H2=>∃a v,x=.ref a/\DGet H2 a y (some v)/\Q v H2
def zbD(td ty tv:TE):TS:=fun D σ H=>tv σ H fun v H1=>td σ H1 fun x H2=>ty σ H2 fun y H3=>∃a H4,x=.ref a/\DPut H3 a y v H4/\D.nx σ H4
section
variable{o i:Expr}{tv:TE}
theorem zam(hu:X.A.units+1 < cLine)(ho:PE X o td)(hi:PE X i ty)(hs:NoSl i):PE X (.Subscript o i pos) (zbC td ty):=by
 intro pins s σ H Q I h;refine zal PySem.F.slot_dict_getitem.lookup hs (thn (ho pins s σ H _ I h) fun u s1 ⟨x,H1,I1,rx,q1⟩=>thn (hi pins s1 σ H1 _ I1 q1) fun iv s2 hq_=>?_);obtain⟨y,H2,I2,ry,a,v,ex,g,q2⟩:=hq_;subst ex;obtain rfl:u=Value.ref a:=rx;exact⟨Yt I2 g,WU hu I2 g ry fun w' s3 I3 rw'=>⟨v,H2,I3,rw',q2⟩⟩
theorem zan(hu:X.A.units+1 < cLine)(ho:PE X o td)(hi:PE X i ty)(hv:PE X value tv)(hs:swapsWith value (some (.Subscript o i pos')) pos.line X.env=pure false):
  PS X (.Assign [.Subscript o i pos'] value pos) (zbD td ty tv):=by
 intro pins s σ H D I h;refine wpAny_Assign_Subscript (thn (hv pins s σ H _ I h) fun r s1 ⟨v,H1,I1,rv,q1⟩=>thn (ho pins s1 σ H1 _ I1 q1) fun u s2 ⟨x,H2,I2,rx,q2⟩=>thn (hi pins s2 σ H2 _ I2 q2) fun iv s3 ⟨y,H3,I3,ry,a,H4,ex,g,q3⟩=>?_) hs;subst ex;obtain rfl:u=Value.ref a:=rx;exact WV hu I3 g ry rv fun s4 I4=>⟨σ,H4,I4,q3⟩
end
theorem Jf(h:Heap)(hb:sysModules < h.objs.size):ObjOk P w H (h.push { cls:=.type "dict",data:=.dict #[] }) h.objs.size (.dK []) :=
 ⟨uM _,beq_eq_false_iff_ne.mpr (Ne.symm (u7 hb)),[],.nil,Heap.DictOf.new h⟩
def Jg:TE:=fun _ H Q=>∀p,H p=none->Q (.ref p) (upd H p (.dK []))
theorem Jh:PE X (.Dict [] [] pos) Jg:=fun pins s σ H Q I h =>
 wpAny_Dict_empty ⟨.ref s.heap.objs.size,_,I.laid (a:=s.heap.objs.size) (o:=.dK []) (t':=s.toks) (fun _ _ q=>uc _ q) (uj _) (Jf s.heap I.big),rfl,h _ (I.hok.fresh (uj _))⟩
structure M2(X:Cx)(o:Expr)(m:Str)(apos:Pos)(e f:Expr)(cpos:Pos):Prop where
 base:attributeBase o m X.env (eval o X.env)=eval o X.env
 few:((backTo cpos (starEach [e,f] X.env)).all (fun x=>!x.1) && (backToKw cpos (keywordEach [] X.env)).all (fun x=>x.1.isSome)
  && decide (([e,f]:List Expr).length+([]:List Keyword).length+(if([]:List Keyword).isEmpty then 0 else 1) < 30))=true
 line:(apos.endLine == cpos.line)=true
 trees:backTo cpos (starEach [e,f] X.env)=[(false,eval e X.env),(false,eval f X.env)]
def IsD(H:Hp)(a:Addr):Prop:=(∃kvs,Rd H a (.dK kvs))\/∃kvs,Rd H a (.dT kvs)
theorem zcQ(I:Inv X pins σ H s)(d:IsD H a):
  s.TypeIs (.ref a) "dict"/\(∀b,Value.ref a=.ref b->∃ob,s.heap.get? b=some ob/\ob.dict=none)/\(a == sysModules)=false:=by
 rcases d with⟨kvs,e⟩|⟨kvs,e⟩
 ·obtain⟨_,hd,vs,_,dd⟩:=Yr I.hok e
  refine⟨dd.typeIs,fun b q=>?_,hd⟩;cases q;obtain⟨ob,_,_,h1,h2,_⟩:=dd;exact⟨ob,h1,h2.2.1⟩
 ·obtain⟨_,hd,xs,_,dd⟩:=Ys I.hok e
  refine⟨dd.typeIs,fun b q=>?_,hd⟩;cases q;obtain⟨ob,_,_,h1,h2,_⟩:=dd;exact⟨ob,h1,h2.2.1⟩
section
variable{d:V}{r:Value}
theorem zcR{Q:VSP}(hu:A.units+1 < cLine)(I:Inv X pins σ H s)(g:DGet H a y o)(ry:RelV y u)(rd:RelV d r)(h:∀w' s',Inv X pins σ H s'->RelV (o.getD d) w'->Q w' s'):
  wpAny (model X.prog X.w) A (call (.builtin "dict.get") [.ref a,u,r]) Q E s:=by
 rcases g with⟨kvs,k,e,ey,l⟩|⟨kvs,k,b,e,ey,eb,l⟩
 ·subst ey
  obtain⟨z,hd,vs,rel,dd⟩:=Yr I.hok e;refine call_meetsIn PySem.F.slot_dict_get dd.typeIs PySem.F.entry_dict_get (PySem.F.args_dict_get_3 _ _ _) (meets_dict_get_default (zU X.prog X.w) a (Wb ry) hd r) ⟨_,dd.mapOf,h _ _ (I.tok _) ?_⟩;rw[l];exact(rel.val k).getD rd
 ·subst ey
  cases(show u=Value.ref b from ry);obtain⟨z,hd,xs,rel,dd⟩:=Ys I.hok e;refine call_meetsIn PySem.F.slot_dict_get dd.typeIs PySem.F.entry_dict_get (PySem.F.args_dict_get_3 _ _ _) (meetsH_dict_get_default (tupleKind (zU X.prog X.w)) a b hd r) ⟨tupleKind_room_in1 hu,k,xs,Zo I.hok eb,dd,h _ _ (I.tok _) ?_⟩;rw[l];exact(rel.val k).getD rd
end
def Ji(td ty tx:TE):TE:=fun σ H Q=>td σ H fun x H1=>∃a,x=.ref a/\IsD H1 a/\ty σ H1 fun y H2=>tx σ H2 fun z H3=>∃o,DGet H3 a y o/\Q (o.getD z) H3
section
variable{o f:Expr}{tx:TE}
theorem Jj(hu:X.A.units+1 < cLine)(ho:PE X o td)(he:PE X e ty)(hf:PE X f tx)(m:M2 X o "get" apos e f cpos):PE X (.Call (.Attribute o "get" apos) [e,f] [] cpos) (Ji td ty tx):=by
 intro pins s σ H Q I h;refine wpAny_Call_method m.base m.few m.line PySem.F.plainAttrs_dict PySem.F.slot_dict_get PySem.F.type_dict_get (thn (ho pins s σ H _ I h) fun u s1 hq_=>?_);obtain⟨x,H1,I1,rx,a,ex,d,q1⟩:=hq_;subst ex;obtain rfl:u=Value.ref a:=rx;obtain⟨t1,t2,_⟩:=zcQ I1 d;refine⟨t1,t2,?_⟩;rw[m.trees];refine Calls.callWith_builtin rfl (Calls.evalArgs_plain (Calls.spliced_cons (thn (he pins s1 σ H1 _ I1 q1) fun iv s2 ⟨y,H2,I2,ry,q2⟩ =>
  Calls.spliced_cons (thn (hf pins s2 σ H2 _ I2 q2) fun fv s3 ⟨z,H3,I3,rz,ov,g,q3⟩=>Calls.spliced_nil ?_))))
 exact zcR hu I3 g ry rz fun w' s4 I4 rw'=>⟨_,H3,I4,rw',q3⟩
end
theorem xh:jE X (.Dict [] [] pos) Jg:=⟨Jh⟩
theorem SqK.l{xs:List V}(h:H a=some (.lst xs)):SqK true K H a xs:=SqL.of h
theorem SqK.t{xs:List V}(h:H a=some (.tup xs)):SqK false K H a xs:=SqT.of h
theorem vk{k m:Bool}{xs ys:List V}{tb:TS}(hlen:xs.length=ys.length)(Pv:Nat->St->Hp->Prop)(h0:Pv 0 σ H)(hl:∀i σ H,i<=xs.length->Pv i σ H->SqK k K H a xs/\SqK m K H b ys)
  (hs:∀i x y T σ H,xs[i]?=some x->ys[i]?=some y->H T=none->Pv i σ H->g (.ref T) σ (upd H T (.tup [x,y])) fun σ2 H2=>tb { D with nx:=Pv (i+1),ct:=Pv (i+1),bk:=D.nx } σ2 H2) (hd:∀σ H,Pv xs.length σ H->D.nx σ H) :
  ∃W:Nat->Nat->St->Hp->Prop,(∃m,W 0 m σ H)/\∀i n σ H,W i n σ H ->
   ((Itz K k m a b).stop i H/\D.nx σ H)\/((Itz K k m a b).go i H/\∃N:St->Hp->Prop,(∀σ' H',N σ' H'->∃m',m' < n/\W (i+1) m' σ' H')/\∀x H',(Itz K k m a b).yld i H x H'->g x σ H' fun σ2 H2=>tb { D with nx:=N,ct:=N,bk:=D.nx } σ2 H2):=by
 refine⟨fun i m σ H=>m=xs.length-i/\i<=xs.length/\Pv i σ H,⟨xs.length,by simp,uM _,h0⟩,?_⟩;rintro i n σ H ⟨rfl,hi,p⟩;obtain⟨q1,q2⟩:=hl i σ H hi p;by_cases hlt:i < xs.length
 ·refine .inr ⟨go2 q1 q2 (uh hlt) (uh (hlen ▸ hlt)),Pv (i+1),fun σ' H' p'=>⟨xs.length-(i+1),by lia,rfl,hlt,p'⟩,fun x H' yq=>?_⟩
  obtain⟨T,x,y,rfl,hT,rfl,e1,e2⟩:=yld2 yq q1 q2;exact hs i x y T σ H e1 e2 hT p
 ·have e:i=xs.length:=by lia
  subst e;exact .inl ⟨zby q1 q2 (uj _),hd σ H p⟩
def lay(H:Hp):List (Addr×HO)->Hp
 |[]=>H
 |p::r=>upd (lay H r) p.1 p.2
theorem zbE{k:Key}(h:(zU P w).is k u=true):RelV (kV k) u:=by
 rw[Y5]at h;rcases yg h with⟨i,t,rfl,rfl⟩|⟨x,t,rfl,rfl⟩
 ·exact⟨t,rfl⟩
 ·exact⟨t,rfl⟩
theorem vm{o i:Expr}{tv:TE}{k:Nat}(hr:Room k X.A)(ho:jE X o td)(hi:jE X i ty)(hv:jE X value tv)(hs:swapsWith value (some (.Subscript o i pos')) pos.line X.env=pure false:=by rfl):
  jS X (.Assign [.Subscript o i pos'] value pos) (zbD td ty tv):=⟨zan (by have:=hr.units;lia) ho.out hi.out hv.out hs⟩
theorem KV.get{kvs:List (Key×V)}{ws:List (Key×Value)}(r:KV kvs ws){k:Key}{x:Value}(h:ws[j]?=some (k,x)):∃y,kvs[j]?=some (k,y)/\RelV y x:=by
 unfold KV at r
 induction r generalizing j with
 |nil=>simp at h
 |@cons p q ps qs hh t ih =>
  cases j with
  |zero =>
   simp at h
   subst h;obtain⟨p1,p2⟩:=p;have e:p1=k:=hh.1;subst e;exact⟨p2,rfl,hh.2⟩
  |succ j =>
   obtain⟨y,h1,h2⟩:=ih (j:=j) (by simpa using h);exact⟨y,by simpa using h1,h2⟩
end L2
namespace K11
open PySem
def sg(c:Nat):Str:=⟨#[c]⟩
theorem vQ(a:Array Nat):∀(k:Nat)(acc:Array Nat),((uP k a).foldl (· ++ ·) acc).size=acc.size+k*a.size
 |0,acc=>by simp
 |k+1,acc=>by
  rw[UE,UI,vQ a k,Array.size_append,tw];lia
theorem zao{n:Int}(hz:z.length=1):(Txt.mul z n).length<=n.toNat:=by
 unfold Txt.mul;split
 ·simp[Str.empty,Str.length]
 ·rename_i h
  split
  ·rw[hz];lia
  ·show((uP n.toNat z.cps).foldl (· ++ ·) #[]).size<=n.toNat
   have e:z.cps.size=1:=hz;rw[vQ,e];simp
theorem zcS{n:Int}(hz:z.length=1)(h0:0<=n)(h1:n<=1000):MulOk z n:=by
 have hs:sizeLine=16777216:=by decide
 refine⟨?_,fun a b=>?_,fun a b=>?_⟩
 ·have e1:decide (n < -(2 ^ 63:Int))=false:=decide_eq_false (by lia)
  have e2:decide (n ≥ 2 ^ 63)=false:=decide_eq_false (by lia);rw[e1,e2];rfl
 ·rw[hz]
  have:(1:Int)<=(2 ^ 63-1) / n:=Int.le_ediv_of_mul_le (by lia) (by lia)
  intro c;have c':(1:Int) > (2 ^ 63-1) / n:=c;lia
 ·rw[hz]
  unfold Builtin.Str.tooLong;exact decide_eq_false (by rw[hs];lia)
end K11
namespace K11
open PySem PySem.Spec PyProof.Rows Builtin Builtin.Str
abbrev cl(z:Str):List Nat:=z.cps.toList
theorem xA(z:Str):(cl z).length=z.length:=by simp[Str.length]
theorem z6(x y:Str):cl (x++y)=cl x++cl y:=by
 show(x.cps++y.cps).toList=_;simp
theorem wF{sep:Str}{r:lS}:cl (Str.join sep (x::y::r))=cl x++(cl sep++cl (Str.join sep (y::r))):=by
 show cl (x++sep++Str.join sep (y::r))=_;rw[z6,z6,UA]
end K11
namespace GN
open PySem L2
def top(i:Nat):Stmt:=PySem.Challenge.pw_reusewise_k47_held_late_and_few.main.body.getD i (.Pass ⟨0,0,0,0⟩)
abbrev Jk:Stmt:=top 1
abbrev Xt:Stmt:=top 6
abbrev Xu:Stmt:=xR (top 2) 0
abbrev Zp:Stmt:=top 3
abbrev Jl:Stmt:=top 4
abbrev Jm:Stmt:=top 7
abbrev sTog:Stmt:=top 8
abbrev wV:Stmt:=top 9
abbrev yR:Stmt:=top 10
abbrev Zq:Stmt:=top 11
abbrev wj:Stmt:=top 12
abbrev vR:Stmt:=top 13
abbrev Jn:Stmt:=top 14
abbrev Jo:Stmt:=top 30
abbrev sNm:Stmt:=top 31
abbrev Xv:Stmt:=top 32
abbrev Xw:Stmt:=top 33
abbrev Xx:Stmt:=top 34
abbrev Jp:Stmt:=top 35
abbrev Xy:Stmt:=top 36
abbrev Zr:Stmt:=top 37
abbrev Jq:Stmt:=top 38
abbrev Xz:Stmt:=top 39
abbrev Jr:Stmt:=top 40
abbrev Wd:Stmt:=top 41
abbrev sDef:Stmt:=top 42
abbrev vS:Stmt:=top 43
abbrev Zs:Stmt:=top 49
abbrev Zt:Stmt:=top 52
abbrev sLaw:Stmt:=top 54
abbrev Zu:Stmt:=top 15
abbrev Js:Stmt:=top 17
abbrev wG:Stmt:=top 18
abbrev Zv:Stmt:=xR (top 19) 0
abbrev Zw:Stmt:=xR (top 20) 0
abbrev vT:Stmt:=xR (top 20) 1
abbrev vU:Stmt:=xR (top 20) 2
abbrev XA:Stmt:=xR (top 20) 3
abbrev xW:Stmt:=top 21
abbrev xu:Stmt:=top 22
abbrev vo:Stmt:=top 23
abbrev wW:Stmt:=top 24
abbrev wI:Stmt:=top 25
abbrev wX:Stmt:=top 26
abbrev XB:Stmt:=top 27
abbrev XC:Stmt:=top 28
abbrev vp:Stmt:=top 44
abbrev XD:Stmt:=top 45
abbrev Jt:Stmt:=top 46
abbrev Zx:Stmt:=top 47
abbrev Zy:Stmt:=top 53
abbrev wm:Stmt:=top 48
abbrev Ju:Stmt:=top 51
abbrev XE:Stmt:=top 50
end GN
namespace L2
open PySem
section
variable{i:Expr}{ti:TE}
theorem We(ho:jE X o to)(hi:jE X i ti)(ha:∀v,assign (.Subscript o i pos) X.env v=(do
   let ov <- holding [v] (eval o X.env)
   let iv <- holding [v,ov] (eval i X.env)
   standAt pos
   holding [v,ov,iv] (setItem ov iv v)
   release [v,ov,iv] []):=by intro _;rfl):jG X (.Subscript o i pos) (gSub to ti zbq):=⟨zcb ho.out hi.out VG ha⟩
theorem zcT:jOp X (binaryOp .Mult) rRep:=⟨zcz⟩
theorem XF:jMt X "list.reverse" Ye:=⟨Xi⟩
theorem zap(hc:X.calm=true):jCa X (.builtin "max") (fun xs H Q=>∃i j,xs=[.int i,.int j]/\Q (.int (if j > i then j else i)) H):=⟨WJ hc⟩
end
end L2
namespace GN
open PySem L2 K11
variable{st:Addr}{o:HO}
theorem zo(h:H p=none)(o:HO):Same H (upd H p o):=fun b u q=>by rw[zj (zi q h)];exact q
def LIM:Nat:=4611686018427387904
inductive Sta(K:ub)(H:Hp)(st:Addr)(B:Nat):Prop
 |mk (a:Addr) (ns:List Int):(∃k:Nat,H st=some (.lst [.ref a,.int (k:Nat)])/\(a=st->∀H',SqL K H' a (ns.map V.int))/\SqL K H a (ns.map V.int)/\k<=B)->Sta K H st B
structure Kp(st:Addr)(H H':Hp):Prop where
 k:∀b u,b≠st->H b=some u->H' b=some u
 s:∀a k,H st=some (.lst [.ref a,.int k])->∃k',H' st=some (.lst [.ref a,.int k'])
theorem Kp.refl:Kp st H H:=⟨fun _ _ _ h=>h,fun _ k h=>⟨k,h⟩⟩
theorem Kp.trans(a:Kp st H H1)(b:Kp st H1 H2):Kp st H H2:=⟨fun c u n h=>b.k c u n (a.k c u n h),fun x k h=>let ⟨k',h'⟩:=a.s x k h;b.s x k' h'⟩
theorem Kp.of(a:Same H H1):Kp st H H1:=⟨fun c u _ h=>a c u h,fun _ k h=>⟨k,a _ _ h⟩⟩
theorem Kp.new(a:Kp st H H1)(h:H1 p=none):Kp st H (upd H1 p o):=a.trans (.of (zo h o))
theorem Kp.put(a:Kp st H H1)(h:H p=none):Kp st H (upd H1 p o):=⟨fun b u n q=>by rw[zj (zi q h)];exact a.k b u n q,fun x k q=>by
 obtain⟨k',h'⟩:=a.s x k q;exact⟨k',by rw[zj (zi q h)];exact h'⟩⟩
theorem Kp.seq(e:Kp st H H')(n:a≠st)(h:SqL K H a xs):SqL K H' a xs:=by
 rcases h with(h|⟨o,h⟩)|h
 ·exact .inl (.inl (e.k _ _ n h))
 ·exact .inl (.inr ⟨o,e.k _ _ n h⟩)
 ·exact .inr h
theorem Kp.free(e:Kp st H H')(n:p≠st)(h:H' p=none):H p=none:=by
 cases q:H p with
 |none=>rfl
 |some o =>
  rw[e.k p o n q]at h;cases h
section
variable{B':Nat}
theorem Sta.ex(h:Sta K H st B):∃o,H st=some o:=by obtain⟨_,_,_,e,_⟩:=h;exact⟨_,e⟩
theorem Sta.mono(h:Sta K H st B)(l:B<=B'):Sta K H st B':=by obtain⟨a,ns,k,h1,h2,h3,h4⟩:=h;exact⟨a,ns,k,h1,h2,h3,uI h4 l⟩
theorem Sta.same(h:Sta K H st B)(s:Same H H'):Sta K H' st B:=by obtain⟨a,ns,k,h1,h2,h3,h4⟩:=h;exact⟨a,ns,k,s _ _ h1,h2,s.seq h3,h4⟩
theorem Sta.new(h:Sta K H st B)(hp:H p=none)(o:HO):Sta K (upd H p o) st B:=h.same (zo hp o)
theorem Sta.ne(h:Sta K H st B)(hp:H p=none):p≠st:=fun e=>by
 obtain⟨o,q⟩:=h.ex;rw[e,q]at hp;cases hp
theorem Sta.neR(h:Sta K H st B)(hp:H p=some (.lst (ts.map V.ref))):p≠st:=fun e=>by
 obtain⟨a,ns,k,h1,_⟩:=h;rw[e,h1]at hp;have e2:=congrArg (fun o=>match o with|some (HO.lst l)=>l|_=>[]) hp;simp only at e2
 match ts,e2 with
 |[_,_],e2=>simp at e2
 |[],e2=>simp at e2
 |[_],e2=>simp at e2
 |_::_::_::_,e2=>simp at e2
theorem Sta.neI{ts:List Int}(h:Sta K H st B)(hp:H p=some (.lst (ts.map V.int))):p≠st:=fun e=>by
 obtain⟨a,ns,k,h1,_⟩:=h;rw[e,h1]at hp;have e2:=congrArg (fun o=>match o with|some (HO.lst l)=>l|_=>[]) hp;simp only at e2
 match ts,e2 with
 |[],e2=>simp at e2
 |_::_,e2=>simp at e2
theorem Sta.neS{ts:lS}(h:Sta K H st B)(hp:H p=some (.lst (ts.map V.str))):p≠st:=fun e=>by
 obtain⟨a,ns,k,h1,_⟩:=h;rw[e,h1]at hp;have e2:=congrArg (fun o=>match o with|some (HO.lst l)=>l|_=>[]) hp;simp only at e2
 match ts,e2 with
 |[],e2=>simp at e2
 |_::_,e2=>simp at e2
theorem Sta.neW(h:Sta K H st B)(hp:H p=some (.lst (.str x::xs))):p≠st:=fun e=>by
 obtain⟨a,ns,k,h1,_⟩:=h;rw[e,h1]at hp;simp at hp
theorem Sta.put(S0:Sta K H st B)(hp:H p=none)(k:Kp st H H2)(S2:Sta K H2 st B'):Sta K (upd H2 p o) st B':=by
 obtain⟨a,ns,i,h1,h2,h3,_⟩:=S0;obtain⟨a',ns',i',g1,g2,g3,g4⟩:=S2;obtain⟨k',h'⟩:=k.s a _ h1;rw[g1]at h';have ea:a'=a:=by
  have:=congrArg (fun o=>match o with|some (HO.lst (V.ref x::_))=>x|_=>0) h'
  exact this
 subst ea;have g1':upd H2 p o st=some (.lst [.ref a',.int ((i':Nat):Int)]):=by rw[zj (zi h1 hp)];exact g1
 have key:a'≠p->Sta K (upd H2 p o) st B':=fun n=>by
  refine⟨a',ns',i',g1',g2,?_,g4⟩;rcases g3 with(g|⟨o,g⟩)|g
  ·exact .inl (.inl (by rw[zj n];exact g))
  ·exact .inl (.inr ⟨o,by rw[zj n];exact g⟩)
  ·exact .inr g
 rcases h3 with(h|⟨_,h⟩)|h
 ·exact key (zi h hp)
 ·exact key (zi h hp)
 ·exact⟨a',ns,i',g1',fun _ _=>.inr h,.inr h,g4⟩
def Tups(H H':Hp):Prop:=∀p xs,H p=some (.tup xs)->H' p=some (.tup xs)
theorem Tups.of(s:Same H H'):Tups H H':=fun p xs h=>s p _ h
theorem Tups.trans(a:Tups H H')(b:Tups H' H2):Tups H H2:=fun p xs h=>b p xs (a p xs h)
theorem Kp.tups(k:Kp st H H')(h:Sta K H st B):Tups H H':=fun p xs q=>k.k p _ (fun e=>by
 obtain⟨_,_,_,h1,_⟩:=h;rw[e,h1]at q;cases q) q
end
inductive spDraw(K:ub)(vs:List V)(H:Hp)(Q:VK)(e_3:XK):Prop
 |mk (st:Addr) (m:Int):(∃B:Nat,vs=[.ref st,.int m]/\Sta K H st B/\B < LIM/\0 < m/\∀(H':Hp)(r:Int),Kp st H H'->Sta K H' st (B+1)->0<=r->r < m->Q (.int r) H')->spDraw K vs H Q e_3
def LET:Str:="abcdefghijklmnopqrstuvwxyz"
theorem zcU:cl LET=(uK 26).map (97 + ·):=by decide +kernel
def lt(i:Nat):Str:=sg (97+i)
theorem zcV(h:i < 26):atI LET.cps.toList (i:Int)=some (97+i):=by
 refine yB ?_;show(cl LET)[i]?=_;rw[zcU,ug,tM h]
 rfl
theorem Zz{m:Int}(h0:0<=m)(h:m < 26):atI LET.cps.toList m=some (97+m.toNat):=by
 have e:=zcV (i:=m.toNat) (by lia);rw[tO h0]at e;exact e
theorem ZA:LET.length=26:=by decide +kernel
def core(k:Nat):Str:=lt (k / 2 % 26)++("z":Str)++lt (k / 52 % 26)
def ys(k:Nat):Str:=Txt.mul "y" ((k % 2:Nat):Int)
def nm(z:Str)(b:Bool)(k:Nat):Str:=if b=true then core k++z++ys k else ys k++z++core k
theorem wJ(k:Nat):cl (core k)=[97+k / 2 % 26,122,97+k / 52 % 26]:=by
 unfold core;rw[z6,z6]
 rfl
theorem Yu(k:Nat):(core k).length=3:=by rw[<- xA,wJ];rfl
theorem Jv(k:Nat):(ys k).length<=1:=by
 have h:=zao (z:="y") (n:=((k % 2:Nat):Int)) rfl;unfold ys;lia
theorem xY(a b:Str):(a++b).length=a.length+b.length:=by rw[<- xA,z6,uf,xA,xA]
theorem zcW{b:Bool}{k:Nat}(h:z.length<=6):(nm z b k).length<=10:=by
 have h1:=Yu k;have h2:=Jv k;unfold nm;split
 ·rw[xY,xY];lia
 ·rw[xY,xY];lia
inductive spNm(vs:List V)(H:Hp)(Q:VK)(e_3:XK):Prop
 |mk (p:Addr) (z:Str) (b:Bool) (xs:List V):(∃k:Nat,vs=[.ref p,.int (k:Nat)]/\H p=some (.lst (.str z::.bl b::xs))/\z.length<=6/\Q (.str (nm z b k)) H)->spNm vs H Q e_3
def So(l:List Int):Prop:=∀x∈l,0<=x/\x<=2
theorem So.app{a b:List Int}(h:So a)(g:So b):So (a++b):=fun x hx=>(uy.mp hx).elim (h x) (g x)
theorem So.nil:So []:=fun x hx=>by cases hx
inductive spSorts(K:ub)(vs:List V)(H:Hp)(Q:VK)(e_3:XK):Prop
 |mk (st:Addr) (l:Nat) (m:Nat):(∃B:Nat,vs=[.ref st,.int (l:Nat),.int (m:Nat)]/\l<=m/\m<=9/\Sta K H st B/\B+11 < LIM/\∀(H':Hp)(p:Addr)(l:List Int),Kp st H H'->Sta K H' st (B+11)->H p=none->l.length<=m->So l->H' p=some (.lst (l.map V.int))->Q (.ref p) H')->spSorts K vs H Q e_3
section
theorem scDraw:FnScope ["_law_state","_law_many","_law_k","_law_cell"] lS5 (zp Jo):=.ok
theorem zaq(F:Fun K "_law_draw" "_law_draw" Jo f fd)(m_len:mg "len"=none):FnOk P w K mg base CX0 1 f fd lS5 (spDraw K):=by
 refine F.by scDraw (fun vs H Q E h=>?_) (fun cdv A outer s H vs Q E hr h=>?_)
 ·obtain⟨st,m,B,rfl,_⟩:=h
  rfl
 obtain⟨st,m,B,rfl,⟨a,ns,k,hst,hne,hS,hk⟩,hB,hm,q⟩:=h;refine⟨_,
  (zh (sE 2 scDraw.nd (zQ K (jv 0)))
  (zh (xN (zA yy (jv 2) zt) (We (jv 0) zt))
  (zh (zE (tN jH (jv 2) (yu (zF K) rfl m_len Ud (jA1 (zQ K (jv 0)))))
   (zk (zv (zA xy (xX (zY K) (zQ K (jv 0)) (jv 2)) (jv 1)))) zx)
  (zh (sE 3 scDraw.nd (zA yy (zA Zi (jv 2) zt) zt))
  (zh (zE (tN jJ (yu (zF K) rfl m_len Ud (jA1 (zQ K (jv 0)))) zt)
   (zk (sE 3 scDraw.nd (zA yy (jv 3) (zA Zi (xX (zY K) (zQ K (jv 0)) (zA xy (zA Zi (jv 2) zt) (yu (zF K) rfl m_len Ud (jA1 (zQ K (jv 0)))))) (zA yy zt (jv 2)))))) zx)
  (zk (zv (zA xy (zA xy (jv 3) zt) (jv 1))))))))),?_⟩
 refine⟨_,rfl,ixL hst aI1 ?_⟩;refine⟨_,rfl,_,_,rfl,rfl,_,rfl,st,_,1,1,rfl,rfl,hst,rfl,?_⟩;have kp:Kp st H (upd H st (.lst [.ref a,.int ((k+1:Nat):Int)])):=⟨fun b u n h=>by rw[zj n];exact h,fun x y h=>by
  rw[hst]at h;cases h;exact⟨_,uX9⟩⟩
 have hst1:=uX9 (H:=H) (a:=st) (o:=.lst [.ref a,.int ((k+1:Nat):Int)]);have hS1:SqL K (upd H st (.lst [.ref a,.int ((k+1:Nat):Int)])) a (ns.map V.int):=by
  by_cases e:a=st
  ·exact hne e _
  ·exact kp.seq e hS
 have fin:∀r:Int,0<=r->r < m->Q (.int r) (upd H st (.lst [.ref a,.int ((k+1:Nat):Int)])):=fun r h0 h1=>q _ r kp ⟨a,ns,k+1,hst1,hne,hS1,by lia⟩ h0 h1;show(tSeq _ _:TS) _ _ (upd H st (.lst [.ref a,.int ((k+1:Nat):Int)]));generalize upd H st (.lst [.ref a,.int ((k+1:Nat):Int)])=H1 at *;have ix0:atI [V.ref a,V.int ((k+1:Nat):Int)] 0=some (.ref a):=aI0;have mm:∀x:Int,0<=x % m/\x % m < m:=fun x=>⟨Int.emod_nonneg x (by lia),Int.emod_lt_of_pos x hm⟩;refine⟨_,rfl,_,rfl,st,_,_,_,rfl,rfl,SqL.of hst1,ix0,_,_,rfl,.inl hS1,_,_,rfl,rfl,_,rfl,?_⟩;rw[ua];refine ite2 (fun c=>?_) (fun c=>?_)
 ·rw[decide_eq_true_eq]at c
  have hi:k < ns.length:=by lia
  have hx:(ns.map V.int)[k]?=some (.int ns[k]):=by rw[ug,uh hi];rfl
  exact⟨_,rfl,st,_,_,_,rfl,rfl,SqL.of hst1,ix0,_,rfl,a,_,_,_,rfl,rfl,hS1,yB hx,_,rfl,_,_,rfl,rfl,hm,fin _ (mm _).1 (mm _).2⟩
 ·refine⟨_,rfl,_,_,rfl,rfl,.inr ⟨by decide,by decide⟩,_,_,rfl,rfl,?_⟩
  have tail:∀(c:Int)(D:Ends),D.rt=Q->(tRet (tOp (rI (fun _ j=>0 < j) fun i j=>V.int (i % j)) (tOp (rI (fun _ j=>0 < j) fun i j=>V.int (i % j)) (tVar 3) (tC (.int 2147483629))) (tVar 1)):TS) D [sR st,some (.int m),some (.int (k:Nat)),some (.int c)] H1:=fun c D e=>by
   refine⟨_,rfl,_,_,rfl,rfl,(by show(0:Int) < _;decide),_,rfl,_,_,rfl,rfl,hm,?_⟩;rw[e];exact fin _ (mm _).1 (mm _).2
  refine⟨_,rfl,st,_,_,_,rfl,rfl,SqL.of hst1,ix0,_,_,rfl,.inl hS1,_,_,rfl,rfl,_,rfl,?_⟩;rw[ua];refine ite2 (fun c2=>?_) (fun c2=>tail _ _ rfl);rw[decide_eq_true_eq]at c2;have hl:(0:Int) < (ns.length:Nat):=by lia
  have c0:=Int.emod_nonneg ((k:Nat)*7:Int) (show((ns.length:Nat):Int)≠0 by lia);have c1:=Int.emod_lt_of_pos ((k:Nat)*7:Int) hl;have hi:(((k:Nat)*7:Int) % (ns.length:Nat)).toNat < ns.length:=by lia
  have hx:(ns.map V.int)[(((k:Nat)*7:Int) % (ns.length:Nat)).toNat]?=some (.int ns[(((k:Nat)*7:Int) % (ns.length:Nat)).toNat]):=by rw[ug,uh hi];rfl
  have hx2:atI (ns.map V.int) (((k:Nat)*7:Int) % (ns.length:Nat))=some (.int ns[(((k:Nat)*7:Int) % (ns.length:Nat)).toNat]):=by
   have e:=yB hx;rw[tO c0]at e;exact e
  refine⟨_,rfl,_,rfl,st,_,_,_,rfl,rfl,SqL.of hst1,ix0,_,rfl,_,_,rfl,rfl,.inr ⟨by decide,by decide⟩,_,rfl,st,_,_,_,rfl,rfl,SqL.of hst1,ix0,_,_,rfl,.inl hS1,_,_,rfl,rfl,(by rw[ua];exact hl),?_⟩;refine⟨a,_,_,_,rfl,rfl,hS1,(by rw[ua];exact hx2),_,rfl,_,_,rfl,rfl,_,_,rfl,rfl,.inr ⟨by show -(2 ^ 64) < (48271+(k:Nat):Int);lia,by show(48271+(k:Nat):Int) < 2 ^ 64;unfold LIM at hB;lia⟩,_,_,rfl,rfl,tail _ _ rfl⟩
theorem scNm:FnScope ["_law_world_here","_law_k","_law_letters","_law_core"] lS14 (zp sNm):=.ok
theorem zdY(F:Fun K "_law_name" "_law_name" sNm f fd):FnOk P w K mg base CX0 1 f fd lS14 spNm:=by
 refine F.by scNm (fun vs H Q E h=>?_) (fun cdv A outer s H vs Q E hr h=>?_)
 ·obtain⟨p,z,b,xs,k,rfl,_⟩:=h
  rfl
 obtain⟨p,z,b,xs,k,rfl,hp,hz,q⟩:=h;refine⟨_,
  (zh (sE 2 scNm.nd zw)
  (zh (sE 3 scNm.nd (zA yN (zA yN (xX Xm (jv 2) (zA xy (zA xU (jv 1) zt) zt)) zw) (xX Xm (jv 2) (zA xy (zA xU (jv 1) zt) zt))))
  (zh (zE (yr (zQ K (jv 0)))
   (zk (zv (zA yN (zA yN (jv 3) (zQ K (jv 0))) (zA vL zw (zA xy (jv 1) zt))))) zx)
  (zk (zv (zA yN (zA yN (zA vL zw (zA xy (jv 1) zt)) (zQ K (jv 0))) (jv 3))))))),?_⟩
 have sl:=zO;have e1:((k:Nat):Int) / 2 % 26=((k / 2 % 26:Nat):Int):=by lia
 have e2:((k:Nat):Int) / 52 % 26=((k / 52 % 26:Nat):Int):=by lia
 have e3:((k:Nat):Int) % 2=((k % 2:Nat):Int):=by lia
 have cl3:=Yu k;have yl:=Jv k;have ec:(⟨#[97+(((k:Nat):Int) / 2 % 26).toNat]⟩:Str)++("z":Str)++(⟨#[97+(((k:Nat):Int) / 52 % 26).toNat]⟩:Str)=core k:=by
  rw[e1,e2]
  rfl
 suffices rest:∀c3:Str,c3=core k->(tSeq _ _:TS) { nx:=fun _ H'=>Q .non H',rt:=Q } [sR p,some (.int (k:Nat)),some (.str LET),some (.str c3)] H by
  exact⟨_,rfl,_,rfl,_,_,rfl,rfl,⟨by decide,by decide⟩,_,_,rfl,rfl,(by show(0:Int) < _;decide),LET,_,_,rfl,rfl,by rw[ZA];decide,Zz (by lia) (by lia),_,_,rfl,rfl,by show 1+1<=sizeLine;decide,_,rfl,_,rfl,_,_,rfl,rfl,⟨by decide,by decide⟩,_,_,rfl,rfl,(by show(0:Int) < _;decide),LET,_,_,rfl,rfl,by rw[ZA];decide,Zz (by lia) (by lia),_,_,rfl,rfl,by show 2+1<=sizeLine;decide,rest _ ec⟩
 rintro _ rfl;have mo:MulOk "y" (((k % 2:Nat):Int)):=zcS rfl (by lia) (by lia);refine⟨_,rfl,ixL hp aI1 ⟨_,rfl,?_⟩⟩;unfold nm at q;cases b with
 |true =>
  rw[if_pos rfl]at q;refine iteT ?_;refine⟨_,rfl,_,rfl,ixL hp aI0 ⟨_,_,rfl,rfl,by lia,_,rfl,_,_,rfl,rfl,(by show(0:Int) < _;decide),_,_,rfl,rfl,by rw[e3];exact mo,?_⟩⟩;rw[e3];exact⟨_,_,rfl,rfl,by rw[xY];show(core k).length+z.length+(ys k).length<=_;lia,q⟩
 |false =>
  rw[if_neg (by decide)]at q;refine iteF ?_;refine⟨_,rfl,_,_,rfl,rfl,(by show(0:Int) < _;decide),_,_,rfl,rfl,by rw[e3];exact mo,?_⟩;rw[e3];refine⟨_,rfl,ixL hp aI0 ⟨_,_,rfl,rfl,by show(ys k).length+z.length<=_;lia,_,rfl,_,_,rfl,rfl,by show(Txt.mul "y" (((k % 2:Nat):Int))++z).length+(core k).length<=_;rw[xY];show(ys k).length+z.length+(core k).length<=_;lia,q⟩⟩
theorem zar:FnScope lS13 lS13 (zp Xv):=.ok
theorem zas:(["_law_state","_law_least","_law_most","_law_k"]:lS).Nodup:=by decide +kernel
theorem Jw(F:Fun K "_law_sorts" "_law_sorts" Xv f fd)(GD:Ca P w K mg base CX0 1 "_law_draw" lS5 (spDraw K))(m_range:mg "range"=none):FnOk P w K mg base CX0 2 f fd lS13 (spSorts K):=by
 refine F.by zar (fun vs H Q E h=>?_) (fun cdv A outer s H vs Q E hr h=>?_)
 ·obtain⟨st,l,m,B,rfl,_⟩:=h
  rfl
 obtain⟨st,l,m,B,rfl,hlm,hm,hS,hB,q⟩:=h;refine⟨_,
  (zk (zv (yf ["_law_k"] rfl (yC rfl m_range (jA1 (zA yy (jv 1) (cA GD hr (jA2 (jv 0) (zA xo (zA yy (jv 2) zt) (jv 1))))))) (fun _ _ _ _ _=>(gN 3 zas)) (fun _ _ _ _ _=>yn) (fun _ _ _ _ _=>(cA GD hr (jA2 (jv 0) zt)))))),?_⟩
 have sl:=zO;refine⟨_,rfl,_,rfl,_,rfl,_,_,rfl,rfl,_,rfl,_,_,rfl,rfl,st,_,B,rfl,hS,by lia,by lia,fun H1 r k1 S1 r0 r1=>?_⟩;refine⟨_,_,rfl,rfl,_,rfl,by lia,by lia,xf (n:=(((l:Nat):Int)+r).toNat) (fun i τ ys H'=>Kp st H H'/\Sta K H' st (B+1+i)/\(∃x,τ=[sR st,some (.int (l:Nat)),some (.int (m:Nat)),x])/\∃ns:List Int,ys=ns.map V.int/\ns.length=i/\So ns) ⟨k1,S1,⟨none,rfl⟩,[],rfl,rfl,.nil⟩ ?_ ?_⟩
 ·rintro i τ ys H2 hi ⟨k2,S2,⟨x,rfl⟩,ns,rfl,hl,hso⟩
  refine⟨_,rfl,st,3,B+1+i,rfl,S2,by lia,by decide,fun H3 r3 k3 S3 q0 q1=>⟨by rw[ua];lia,k2.trans k3,S3,⟨_,rfl⟩,ns++[r3],by simp,by simp[hl],hso.app fun x hx=>by rw[uo.mp hx];exact⟨q0,by lia⟩⟩⟩
 ·rintro τ ys H2 ⟨k2,S2,_,ns,rfl,hl,hso⟩ p hp
  exact q _ p ns (k2.new hp) ((S2.mono (by lia)).new hp _) (k2.free (S2.ne hp) hp) (by lia) hso uX9
theorem Yv:∀{zs:lS},(∀z∈zs,z.length=1)->(Str.join "" zs).length=zs.length
 |[],_=>rfl
 |[x],h=>h x Uk
 |x::y::r,h=>by
  have ih:=Yv (zs:=y::r) fun z hz=>h z (Ur _ hz);rw[<- xA,wF,uf,uf,xA,xA,xA,ih,h x Uk];show 1+(0+(y::r).length)=(y::r).length+1;lia
theorem Wf:∀{zs:lS},(∀z∈zs,∀c∈cl z,97<=c)->∀c∈cl (Str.join "" zs),97<=c
 |[],_,c,hc=>by cases hc
 |[x],h,c,hc=>h x Uk c hc
 |x::y::r,h,c,hc=>by
  rw[wF]at hc;rcases uy.mp hc with hc|hc
  ·exact h x Uk c hc
  ·rcases uy.mp hc with hc|hc
   ·cases hc
   ·exact Wf (zs:=y::r) (fun z hz=>h z (Ur _ hz)) c hc
theorem Jx{zs:lS}(h:∀z∈zs,z.length=1):wide "" zs=zs.length:=by
 unfold wide;have e:∀{l:lS},(∀z∈l,z.length=1)->(l.map (·.length)).sum=l.length:=by
  intro l
  induction l with
  |nil=>intro _;rfl
  |cons a l ih=>intro h;rw[uC,Uy,ih fun z hz=>h z (Ur _ hz),h a Uk,ui];lia
 rw[e h]
 rfl
abbrev TS3:=List (Str×List Int×Int)
inductive Tri(H:Hp):TS3->List Addr->Prop
 |nil:Tri H [] []
 |cons {z:Str} {s:List Int} {k:Int} {t q:Addr} {l:TS3} {ts:List Addr}:H t=some (.tup [.str z,.ref q,.int k])->H q=some (.lst (s.map V.int))->Tri H l ts->Tri H ((z,s,k)::l) (t::ts)
theorem Tri.keep{l:TS3}(h:Tri H l ts)(t:Tups H H')(i:∀q (s:List Int),H q=some (.lst (s.map V.int))->H' q=some (.lst (s.map V.int))):Tri H' l ts:=by
 induction h with
 |nil=>exact .nil
 |cons a b _ ih=>exact .cons (t _ _ a) (i _ _ b) ih
theorem Tri.kp{l:TS3}(h:Tri H l ts)(S:Sta K H st B)(k:Kp st H H'):Tri H' l ts:=h.keep (k.tups S) fun q s e=>k.k _ _ (S.neI e) e
theorem Tri.app{a b:TS3}{p:List Addr}(h:Tri H a p)(g:Tri H b q):Tri H (a++b) (p++q):=by
 induction h with
 |nil=>exact g
 |cons x y _ ih=>exact .cons x y ih
theorem Tri.len{l:TS3}(h:Tri H l ts):l.length=ts.length:=by
 induction h with
 |nil=>rfl
 |cons _ _ _ ih=>rw[ui,ui,ih]
theorem Tri.get{H:Hp}:∀{l:TS3}{ts:List Addr}{i:Nat}{t:Addr},Tri H l ts->ts[i]?=some t->∃z s k q,l[i]?=some (z,s,k)/\H t=some (.tup [.str z,.ref q,.int k])/\H q=some (.lst (s.map V.int))
 |_,_,_,_,.nil,e=>by simp at e
 |_,_,0,_,.cons a b _,e=>by
  simp at e
  subst e;exact⟨_,_,_,_,rfl,a,b⟩
 |_,_,i+1,_,.cons _ _ c,e=>by
  obtain⟨z,s,k,q,h1,h2⟩:=Tri.get (i:=i) c (by simpa using e);exact⟨z,s,k,q,by simpa using h1,h2⟩
structure Wo where
 z:Str
 b:Bool
 tags:TS3
 defs:TS3
structure WOk(o:Wo):Prop where
 z:o.z.length<=6
 tn:o.tags.map (·.1)=(uK 4).map (nm o.z o.b)
 tk:o.tags.map (·.2.2)=[1,1,1,2]
 ts:∀p∈o.tags,p.2.1.length<=9/\So p.2.1
 dn:o.defs.map (·.1)=(uK 3).map fun k=>nm o.z o.b (2-k)
 ds:∀p∈o.defs,p.2.1.length<=3/\So p.2.1/\0<=p.2.2/\p.2.2<=2
 zc:∀c∈cl o.z,97<=c
structure IsW(H:Hp)(o:Wo)(w:Addr):Prop where
 ex:∃(tl dl:Addr)(ts ds:List Addr),H w=some (.lst [.str o.z,.bl o.b,.ref tl,.ref dl])/\H tl=some (.lst (ts.map V.ref))/\H dl=some (.lst (ds.map V.ref))/\Tri H o.tags ts/\Tri H o.defs ds
 ok:WOk o
theorem IsW.kp{w:Addr}{o:Wo}(h:IsW H o w)(S:Sta K H st B)(k:Kp st H H'):IsW H' o w:=by
 obtain⟨⟨tl,dl,ts,ds,h1,h2,h3,h4,h5⟩,ok⟩:=h;exact⟨⟨tl,dl,ts,ds,k.k _ _ (S.neW h1) h1,k.k _ _ (S.neR h2) h2,k.k _ _ (S.neR h3) h3,h4.kp S k,h5.kp S k⟩,ok⟩
theorem IsW.same{w:Addr}{o:Wo}(h:IsW H o w)(s:Same H H'):IsW H' o w:=by
 obtain⟨⟨tl,dl,ts,ds,h1,h2,h3,h4,h5⟩,ok⟩:=h;exact⟨⟨tl,dl,ts,ds,s _ _ h1,s _ _ h2,s _ _ h3,h4.keep (.of s) (fun _ _ e=>s _ _ e),h5.keep (.of s) (fun _ _ e=>s _ _ e)⟩,ok⟩
theorem WOk.tlen{o:Wo}(h:WOk o):o.tags.length=4:=by
 have e:=congrArg tT h.tk;rw[ua]at e;exact e
theorem WOk.dlen{o:Wo}(h:WOk o):o.defs.length=3:=by
 have e:=congrArg tT h.dn;rw[ua,ua,UT]at e;exact e
inductive spWorld(K:ub)(vs:List V)(H:Hp)(Q:VK)(e_3:XK):Prop
 |mk (st:Addr):(∃B:Nat,vs=[.ref st]/\Sta K H st B/\B+200 < LIM/\∀(H':Hp)(w:Addr)(o:Wo),Kp st H H'->Sta K H' st (B+200)->IsW H' o w->Q (.ref w) H')->spWorld K vs H Q e_3
theorem WW(k:Nat):(uP k [V.int 0]).flatten=(uP k (0:Int)).map V.int:=by
 induction k with
 |zero=>rfl
 |succ k ih=>rw[UE,tm,ih,UE,uC];rfl
theorem XG{H:Hp}:∀(nf:Nat->Str)(R:Nat->List Int->Int->Prop)(ts:List Addr),(∀k t,ts[k]?=some t->∃q s g,H t=some (.tup [.str (nf k),.ref q,.int g])/\H q=some (.lst (s.map V.int))/\R k s g)->∃l:TS3,Tri H l ts/\l.length=ts.length/\∀k p,l[k]?=some p->p.1=nf k/\R k p.2.1 p.2.2
 |_,_,[],_=>⟨[],.nil,rfl,fun k p h=>by simp at h⟩
 |nf,R,t::ts,h=>by
  obtain⟨q,s,g,h1,h2,h3⟩:=h 0 t rfl;obtain⟨l,a,b,c⟩:=XG (fun k=>nf (k+1)) (fun k=>R (k+1)) ts fun k u hu=>h (k+1) u (by simpa using hu);refine⟨(nf 0,s,g)::l,.cons h1 h2 a,by rw[ui,ui,b],fun k p hp=>?_⟩;cases k with
  |zero =>
   simp at hp
   subst hp;exact⟨rfl,h3⟩
  |succ k=>exact c k p (by simpa using hp)
theorem names_of{α β:Type}{f:α->β}{g:Nat->β}{l:List α}(hl:l.length=n)(h:∀k p,l[k]?=some p->f p=g k):l.map f=(uK n).map g:=by
 apply List.ext_getElem?
 intro k;rw[ug,ug];rcases Nat.lt_or_ge k n with c|c
 ·rw[tM c,uh (by lia)]
  simp[h k _ (uh (by lia))]
 ·rw[U8 (by lia),U8 (by simp;lia)]
  rfl
theorem scWorld:FnScope ["_law_state","_law_letters","_law_stem","_law_world_here","_law_more","_law_some","_law_k"] ["_law_state"] (zp Xw):=.ok
theorem Jy(F:Fun K "_law_world" "_law_world" Xw f fd)(GD:Ca P w K mg base CX0 1 "_law_draw" lS5 (spDraw K))(GN':Ca P w K mg base CX0 1 "_law_name" lS14 spNm)(GS:Ca P w K mg base CX0 2 "_law_sorts" lS13 (spSorts K))(m_range:mg "range"=none):FnOk P w K mg base CX0 3 f fd ["_law_state"] (spWorld K):=by
 refine F.by scWorld (fun vs H Q E h=>?_) (fun cdv A outer s H vs Q E hr h=>?_)
 ·obtain⟨st,B,rfl,_⟩:=h
  rfl
 obtain⟨st,B,rfl,S0,hB,q⟩:=h;have hr1:Room 1 _:=hr.mono (by decide);refine⟨_,
  (zh (sE 1 scWorld.nd zw)
  (zh (sE 2 scWorld.nd (yP PySem.F.plainAttrs_str PySem.F.slot_str_join PySem.F.type_str_join zac zw (jA1 (Yg [6] [] rfl (yC rfl m_range (jA1 (cA GD hr1 (jA2 (jv 0) zt)))) (fun _ _ _ _ _=>(gN 6 scWorld.nd)) (fun _ _ _ _ _=>yn) (fun _ _ _ _ _=>(xX Xm (jv 1) (cA GD hr1 (jA2 (jv 0) zt))))))))
  (zh (sE 3 scWorld.nd (zD (jA4 (jv 2) (yO zI (cA GD hr1 (jA2 (jv 0) zt)) zt (xI _)) (zD zL) (zD zL))))
  (zh (sE 4 scWorld.nd (zA zcT (zD (jA1 zt)) (zA Zi (zA xU (cA GD hr1 (jA2 (jv 0) zt)) zt) (cA GD hr1 (jA2 (jv 0) zt)))))
  (zh (sE 5 scWorld.nd (zD (jA4 (zD zL) (zA yz (cA GS hr (jA3 (jv 0) zt zt)) (jv 4)) (cA GS hr (jA3 (jv 0) zt zt)) (zA yz (cA GS hr (jA3 (jv 0) zt zt)) (jv 4)))))
  (zh (yt PassesOwn.never rfl (yC rfl m_range (jA1 zt)) (gN 6 scWorld.nd)
   (zk (yw (yP uF uS uT yi (zQ K (jv 3)) (jA1 (zB (jA3 (cA GN' hr1 (jA2 (jv 3) (jv 6))) (xX (zY K) (jv 5) (jv 6)) (zA yy zt (zA xU (jv 6) zt)))))))))
  (zh (yt PassesOwn.never rfl (yC rfl m_range (jA1 zt)) (gN 6 scWorld.nd)
   (zk (yw (yP uF uS uT yi (zQ K (jv 3)) (jA1 (zB (jA3 (cA GN' hr1 (jA2 (jv 3) (zA xo zt (jv 6)))) (cA GS hr (jA3 (jv 0) zt zt)) (cA GD hr1 (jA2 (jv 0) zt)))))))))
  (zk (zv (jv 3)))))))))),?_⟩
 have sl:=zO;unfold LIM at hB;have LM:LIM=4611686018427387904:=rfl;refine cut5 fun r1_ hr1_=>?_;refine⟨rfl,_,rfl,st,7,B,rfl,S0,by lia,by decide,fun H1 r k1 S1 r0 r1=>?_⟩;refine⟨_,rfl,by lia,by lia,xf (n:=r.toNat) (fun i τ ys H'=>Kp st H H'/\Sta K H' st (B+1+i)/\(∃x,τ=[sR st,some (.str LET),none,none,none,none,x])/\∃zs:lS,ys=zs.map V.str/\zs.length=i/\∀z∈zs,z.length=1/\∀c∈cl z,97<=c) ⟨k1,S1,⟨none,rfl⟩,[],rfl,rfl,fun z hz=>by cases hz⟩ ?_ ?_⟩
 ·rintro i τ ys H2 hi ⟨k2,S2,⟨x,rfl⟩,zs,rfl,hl,h1⟩
  refine⟨_,rfl,_,rfl,st,26,B+1+i,rfl,S2,by lia,by decide,fun H3 r3 k3 S3 q0 q1=>?_⟩;refine⟨LET,_,_,rfl,rfl,by rw[ZA];decide,Zz q0 q1,by rw[ua];lia,k2.trans k3,S3,⟨_,rfl⟩,zs++[⟨#[97+r3.toNat]⟩],by simp,by simp[hl],?_⟩;intro z hz;rcases uy.mp hz with hz|hz
  ·exact h1 z hz
  ·rw[uo.mp hz]
   refine⟨rfl,fun c hc=>?_⟩;rw[show cl (⟨#[97+r3.toNat]⟩:Str)=[97+r3.toNat]from rfl]at hc;rw[uo.mp hc];lia
 rintro τ ys H2 ⟨k2,S2,_,zs,rfl,hl,h1⟩ pj hpj;have hzc:=Wf fun z hz=>(h1 z hz).2
 replace h1:∀z∈zs,z.length=1:=fun z hz=>(h1 z hz).1
 refine⟨"",pj,zs,rfl,rfl,SqL.of uX9,by rw[Jx h1];lia,?_⟩;have zl:(Str.join "" zs).length<=6:=by rw[Yv h1];lia
 replace k2:=k2.new (o:=.lst (zs.map V.str)) hpj
 replace S2:=(S2.mono (show _<=B+7 by lia)).new hpj (.lst (zs.map V.str))
 generalize upd H2 pj (.lst (zs.map V.str))=H3 at *;generalize Str.join "" zs=z at *;refine⟨_,rfl,_,rfl,st,2,B+7,rfl,S2,by lia,by decide,fun H4 r4 k4 S4 _ _=>?_⟩;refine⟨rfl,sN0,fun tl h5=>⟨sN0,fun dl h6=>⟨sN4,fun w0 h7=>?_⟩⟩⟩;generalize decide (V.int r4=V.int 1)=b at *;have ntl:=S4.ne h5;have S5:=S4.new h5 (.lst []);have ndl:=S5.ne h6;have S6:=S5.new h6 (.lst []);have nw0:=S6.ne h7;have S7:=S6.new h7 (.lst [.str z,.bl b,.ref tl,.ref dl]);have ntd:tl≠dl:=zi (uX9 (H:=H4) (a:=tl) (o:=.lst [])) h6;have htl:upd (upd (upd H4 tl (.lst [])) dl (.lst [])) w0 (.lst [.str z,.bl b,.ref tl,.ref dl]) tl=some (.lst []):=old h7 (old h6 uX9);have hdl:upd (upd (upd H4 tl (.lst [])) dl (.lst [])) w0 (.lst [.str z,.bl b,.ref tl,.ref dl]) dl=some (.lst []):=old h7 uX9;have hw0:upd (upd (upd H4 tl (.lst [])) dl (.lst [])) w0 (.lst [.str z,.bl b,.ref tl,.ref dl]) w0=some (.lst [.str z,.bl b,.ref tl,.ref dl]):=uX9;have k7:Kp st H (upd (upd (upd H4 tl (.lst [])) dl (.lst [])) w0 (.lst [.str z,.bl b,.ref tl,.ref dl])):=(((k2.trans k4).new h5).new h6).new h7;have f_tl:H tl=none:=(k2.trans k4).free ntl h5;have f_dl:H dl=none:=(k2.trans k4).free ndl (by rw[<- zj (H:=H4) (a:=tl) (o:=.lst []) ntd.symm];exact h6);clear h5 h6 h7 S5 S6 k4 S4;generalize upd (upd (upd H4 tl (.lst [])) dl (.lst [])) w0 (.lst [.str z,.bl b,.ref tl,.ref dl])=H5 at *;refine⟨sN1,fun m0 h8=>?_⟩;have S8:=S7.new h8 (.lst [.int 0]);have nm0:=S7.ne h8;refine⟨_,rfl,st,6,_,rfl,S8,by lia,by decide,fun H9 r9 k9 S9 q0 q1=>⟨_,_,rfl,rfl,⟨by decide,by decide⟩,_,rfl,st,7,_,rfl,S9,by lia,by decide,fun H10 r10 k10 S10 q2 q3=>?_⟩⟩;have hmul:0<=r9 / 5*r10/\r9 / 5*r10<=6:=by
  have:r9 / 5=0\/r9 / 5=1:=by lia
  rcases this with e|e<;>rw[e]<;>lia
 have hm0:=(k9.trans k10).k _ _ nm0 (uX9 (H:=H5) (a:=m0) (o:=.lst [.int 0]));refine⟨_,_,rfl,rfl,.inl ⟨by lia,by lia⟩,m0,_,_,rfl,rfl,hm0,by lia,by lia,by show 1*_<=_;lia,fun pm h11=>?_⟩;rw[WW];generalize hz9:uP (r9 / 5*r10).toNat (0:Int)=zr;have ozr:So zr:=by
  intro x hx;rw[<- hz9]at hx;rw[List.eq_of_mem_replicate hx];exact⟨by decide,by decide⟩
 have hzr:zr.length<=6:=by rw[<- hz9,UG];lia
 have k11:Kp st H5 (upd H10 pm (.lst (zr.map V.int))):=(((Kp.refl.new h8).trans k9).trans k10).new h11;have S11:=S10.new h11 (.lst (zr.map V.int));have hpm:=uX9 (H:=H10) (a:=pm) (o:=.lst (zr.map V.int));clear hm0 h11 S10 S9 S8 k9 k10 h8;generalize upd H10 pm (.lst (zr.map V.int))=H6 at *
 replace htl:=k11.k _ _ ntl htl
 replace hdl:=k11.k _ _ ndl hdl
 replace hw0:=k11.k _ _ nw0 hw0
 replace k11:=k7.trans k11
 refine⟨sN0,fun e0 h12=>?_⟩;have S12:=S11.new h12 (.lst []);have ne0:=S11.ne h12;refine⟨_,rfl,st,1,3,_,rfl,by decide,by decide,S12,by lia,fun H13 p1 l1 k13 S13 f1 b1 o1 hp1=>?_⟩;have hpm13:=k13.k _ _ (S12.neI (old h12 hpm)) (old h12 hpm);refine⟨_,rfl,p1,pm,_,_,rfl,rfl,hp1,hpm13,by rw[ua,ua];lia,fun c1 h14=>?_⟩;rw[<- ut];have S14:=S13.new h14 (.lst ((l1++zr).map V.int));refine⟨_,rfl,st,0,2,_,rfl,by decide,by decide,S14,by lia,fun H15 p2 l2 k15 S15 f2 b2 o2 hp2=>?_⟩;refine⟨_,rfl,st,1,3,_,rfl,by decide,by decide,S15,by lia,fun H16 p3 l3 k16 S16 f3 b3 o3 hp3=>?_⟩;have hpm14:=old (o:=.lst ((l1++zr).map V.int)) h14 hpm13;have hpm15:=k15.k _ _ (S14.neI hpm14) hpm14;have hpm16:=k16.k _ _ (S15.neI hpm15) hpm15;refine⟨_,rfl,p3,pm,_,_,rfl,rfl,hp3,hpm16,by rw[ua,ua];lia,fun c3 h17=>?_⟩;rw[<- ut];refine⟨sN4,fun sm h18=>?_⟩;have S17:=S16.new h17 (.lst ((l3++zr).map V.int));have S18:=S17.new h18 (.lst [.ref e0,.ref c1,.ref p2,.ref c3]);have k18:Kp st H6 (upd (upd H16 c3 (.lst ((l3++zr).map V.int))) sm (.lst [.ref e0,.ref c1,.ref p2,.ref c3])):=((((((Kp.refl.new h12).trans k13).new h14).trans k15).trans k16).new h17).new h18;have he0:=(((((k13.new h14).trans k15).trans k16).new h17).new (o:=.lst [.ref e0,.ref c1,.ref p2,.ref c3]) h18).k _ _ ne0 (uX9 (H:=H6) (a:=e0) (o:=.lst []));have hc1:=(((k15.trans k16).new h17).new (o:=.lst [.ref e0,.ref c1,.ref p2,.ref c3]) h18).k c1 _ (S13.ne h14) (uX9 (H:=H13) (a:=c1) (o:=.lst ((l1++zr).map V.int)));have hp2':=((k16.new h17).new (o:=.lst [.ref e0,.ref c1,.ref p2,.ref c3]) h18).k _ _ (S15.neI hp2) hp2;have hc3:=old (o:=.lst [.ref e0,.ref c1,.ref p2,.ref c3]) h18 (uX9 (H:=H16) (a:=c3) (o:=.lst ((l3++zr).map V.int)));have hsm:=uX9 (H:=upd H16 c3 (.lst ((l3++zr).map V.int))) (a:=sm) (o:=.lst [.ref e0,.ref c1,.ref p2,.ref c3]);have k13':=(Kp.refl.new (o:=.lst []) h12).trans k13;have k16':=((k13'.new (o:=.lst ((l1++zr).map V.int)) h14).trans k15).trans k16;have apart:∀p,p≠st->H6 p=some (.lst [])->p≠e0/\p≠c1/\p≠p2/\p≠c3/\p≠sm:=fun p n hp=>by
  have g13:=k13'.k _ _ n hp;have g16:=k16'.k _ _ n hp;exact⟨zi hp h12,zi g13 h14,zi (old h14 g13) f2,zi g16 h17,zi (old h17 g16) h18⟩
 obtain⟨nt0,nt1,nt2,nt3,nts⟩:=apart tl ntl htl;obtain⟨nd0,nd1,nd2,nd3,nds⟩:=apart dl ndl hdl
 replace htl:=k18.k _ _ ntl htl
 replace hdl:=k18.k _ _ ndl hdl
 replace hw0:=k18.k _ _ nw0 hw0
 have kA:=k11.trans k18;have nwt:w0≠tl:=yv hw0 htl (by intro e;cases e);have nwd:w0≠dl:=yv hw0 hdl (by intro e;cases e)
 replace S18:=S18.mono (show _<=B+43 by lia)
 have n0s:=ne0;have n1s:=S18.neI hc1;have n2s:=S18.neI hp2';have n3s:=S18.neI hc3;have nss:=S18.neR (ts:=[e0,c1,p2,c3]) hsm;clear hp1 hpm13 hp3 hpm16 hpm15 hpm14 hpm hp2 S17 S16 S15 S14 S13 S12 S11 k13' k16' k13 k15 k16 k18 apart S7 k7 k11;generalize upd (upd H16 c3 (.lst ((l3++zr).map V.int))) sm (.lst [.ref e0,.ref c1,.ref p2,.ref c3])=H0 at *
 let Fx:Hp->Prop:=fun H'=>∀b u,b≠st->b≠tl->b≠dl->H0 b=some u->H' b=some u
 have Fx.kp:∀{H1 H2:Hp},Fx H1->Kp st H1 H2->Fx H2:=fun f k b u n1 n2 n3 h=>k.k _ _ n1 (f b u n1 n2 n3 h);have Fx.tl:∀{H1:Hp}{o:HO},Fx H1->Fx (upd H1 tl o):=fun f b u n1 n2 n3 h=>by rw[zj n2];exact f b u n1 n2 n3 h
 have Fx.dl:∀{H1:Hp}{o:HO},Fx H1->Fx (upd H1 dl o):=fun f b u n1 n2 n3 h=>by rw[zj n3];exact f b u n1 n2 n3 h
 let AD:Nat->Addr:=fun k=>if k=0 then e0 else if k=1 then c1 else if k=2 then p2 else c3
 let SS:Nat->List Int:=fun k=>if k=0 then[]else if k=1 then l1++zr else if k=2 then l2 else l3++zr
 have hAD:∀{H':Hp}(k:Nat),Fx H'->H' (AD k)=some (.lst ((SS k).map V.int)):=fun{H'} k fx=>by
  show H' (if k=0 then e0 else if k=1 then c1 else if k=2 then p2 else c3)=some (.lst ((if k=0 then([]:List Int)else if k=1 then l1++zr else if k=2 then l2 else l3++zr).map V.int));by_cases c0:k=0
  ·rw[if_pos c0,if_pos c0];exact fx _ _ n0s nt0.symm nd0.symm he0
  ·rw[if_neg c0,if_neg c0]
   by_cases c1:k=1
   ·rw[if_pos c1,if_pos c1];exact fx _ _ n1s nt1.symm nd1.symm hc1
   ·rw[if_neg c1,if_neg c1]
    by_cases c2:k=2
    ·rw[if_pos c2,if_pos c2];exact fx _ _ n2s nt2.symm nd2.symm hp2'
    ·rw[if_neg c2,if_neg c2];exact fx _ _ n3s nt3.symm nd3.symm hc3
 have hSS:∀k,(SS k).length<=9/\So (SS k):=fun k=>by
  show(if k=0 then([]:List Int)else if k=1 then l1++zr else if k=2 then l2 else l3++zr).length<=9/\So (if k=0 then([]:List Int)else if k=1 then l1++zr else if k=2 then l2 else l3++zr);split
  ·exact⟨by decide,.nil⟩
  ·split
   ·exact⟨by rw[uf];lia,o1.app ozr⟩
   ·split
    ·exact⟨by lia,o2⟩
    ·exact⟨by rw[uf];lia,o3.app ozr⟩
 have aAD:∀k,k < 4->[V.ref e0,V.ref c1,V.ref p2,V.ref c3][k]?=some (V.ref (AD k)):=fun k hk=>by
  match k,hk with
  |0,_=>rfl
  |1,_=>rfl
  |2,_=>rfl
  |3,_=>rfl
 subst hr1_;refine⟨_,rfl,by decide,by decide,js (n:=4) (fun i σ H'=>Fx H'/\Kp st H H'/\Sta K H' st (B+43)/\H' dl=some (.lst [])/\(∃ts:List Addr,H' tl=some (.lst (ts.map V.ref))/\ts.length=i/\∀k t,ts[k]?=some t->H' t=some (.tup [.str (nm z b k),.ref (AD k),.int (1+((k:Nat):Int) / 3)]))/\∃x,σ=[sR st,some (.str LET),some (.str z),sR w0,sR pm,sR sm,x])
  ⟨fun b u _ _ _ h=>h,kA,S18,hdl,⟨[],htl,rfl,fun k t h=>by simp at h⟩,none,rfl⟩ ?_ ?_⟩
 ·rintro i σ H1 hi ⟨fx,kp,S1,hd1,⟨ts,ht1,hl1,hts⟩,x,rfl⟩
  have hw1:=fx _ _ nw0 nwt nwd hw0;unfold w5;dsimp only[List.set]
  refine cutD (fun D_ fin=>?_) (fun _ _ h=>h);refine⟨_,rfl,ixL hw1 aI2 ⟨.inl ⟨rfl,_,SqL.of ht1⟩,_,rfl,_,rfl,w0,z,b,_,i,(by show[V.ref w0,V.int (0+(i:Nat))]=_;rw[Int.zero_add]),hw1,zl,?_⟩⟩;refine⟨_,rfl,_,rfl,sm,_,_,_,rfl,rfl,SqL.of (fx _ _ nss nts.symm nds.symm hsm),(by rw[Int.zero_add];exact yB (aAD i hi)),_,rfl,_,_,rfl,rfl,⟨by decide,by decide⟩,_,_,rfl,rfl,sN3,fun t ht=>?_⟩;rw[Int.zero_add];have tp:Tups H1 (upd (upd H1 t (.tup [.str (nm z b i),.ref (AD i),.int (1+((i:Nat):Int) / 3)])) tl (.lst (ts.map V.ref++[.ref t]))):=fun p xs hp=>by
   rw[zj (yv hp ht1 (by intro e;cases e))];exact old ht hp
  refine⟨tl,_,_,rfl,rfl,old ht ht1,by rw[ua];lia,fin _ _ ⟨Fx.tl (Fx.kp fx (Kp.refl.new ht)),(kp.new ht).put f_tl,Sta.put S0 f_tl (kp.new ht) (S1.new ht _),?_,⟨ts++[t],by rw[uX9];simp,by simp[hl1],fun k u hu=>?_⟩,_,rfl⟩⟩
  ·rw[zj ntd.symm]
   exact old ht hd1
  ·rcases Nat.lt_or_ge k ts.length with c|c
   ·rw[Us c]at hu
    exact tp _ _ (hts k u hu)
   ·rw[UC c]at hu
    have c':k=i:=by
     have:=(ud.mp hu).1
     simp at this
     lia
    subst c';rw[hl1,Nat.sub_self]at hu;simp at hu
    subst hu;rw[zj (zi ht1 ht).symm];exact uX9
 rintro σ H1 ⟨fx1,kp1,S1,hd1,⟨ts,ht1,hl1,hts⟩,x,rfl⟩;refine⟨_,rfl,by decide,by decide,js (n:=3) (fun i σ H'=>Fx H'/\Kp st H H'/\Sta K H' st (B+43+12*i)/\(H' tl=some (.lst (ts.map V.ref))/\∀k t,ts[k]?=some t->H' t=some (.tup [.str (nm z b k),.ref (AD k),.int (1+((k:Nat):Int) / 3)]))/\(∃ds:List Addr,H' dl=some (.lst (ds.map V.ref))/\ds.length=i/\∀k t,ds[k]?=some t->∃(q:Addr)(s:List Int)(g:Int),H' t=some (.tup [.str (nm z b (2-k)),.ref q,.int g])/\H' q=some (.lst (s.map V.int))/\(s.length<=3/\So s/\0<=g/\g<=2)/\q≠dl/\q≠st)/\∃x,σ=[sR st,some (.str LET),some (.str z),sR w0,sR pm,sR sm,x])
  ⟨fx1,kp1,S1,⟨ht1,hts⟩,⟨[],hd1,rfl,fun k t h=>by simp at h⟩,_,rfl⟩ ?_ ?_⟩
 ·rintro i σ H2 hi ⟨fx,kp,S2,⟨ht2,hts2⟩,⟨ds,hd2,hl2,hds⟩,x,rfl⟩
  have hw1:=fx _ _ nw0 nwt nwd hw0;have e2:(2:Int)-(0+(i:Nat))=((2-i:Nat):Int):=by lia
  unfold w5;dsimp only[List.set]
  refine cutD (fun D_ fin=>?_) (fun _ _ h=>h);refine⟨_,rfl,ixL hw1 aI3 ⟨.inl ⟨rfl,_,SqL.of hd2⟩,_,rfl,_,rfl,_,_,rfl,rfl,w0,z,b,_,2-i,(by show[V.ref w0,V.int (2-(0+(i:Nat)))]=_;rw[e2]),hw1,zl,?_⟩⟩;refine⟨_,rfl,st,0,3,_,rfl,by decide,by decide,S2,by lia,fun H3 p l k3 S3 f3 b3 o3 hp3=>?_⟩;refine⟨_,rfl,st,3,_,rfl,S3,by lia,by decide,fun H4 r k4 S4 g0 g1=>⟨sN3,fun t ht=>?_⟩⟩;have k24:=k3.trans k4;have hp4:=k4.k _ _ (S3.neI hp3) hp3;have hd4:=k24.k _ _ ndl hd2;have ht4:=k24.k _ _ ntl ht2;have npd:p≠dl:=(zi hd2 f3).symm;have tp:Tups H2 (upd (upd H4 t (.tup [.str (nm z b (2-i)),.ref p,.int r])) dl (.lst (ds.map V.ref++[.ref t]))):=fun a xs ha=>by
   have g:=k24.tups S2 _ _ ha;rw[zj (yv g hd4 (by intro e;cases e))];exact old ht g
  have kpt:=(kp.trans k24).new (o:=.tup [.str (nm z b (2-i)),.ref p,.int r]) ht;refine⟨dl,_,_,rfl,rfl,old ht hd4,by rw[ua];lia,fin _ _ ⟨Fx.dl (Fx.kp fx (k24.new ht)),kpt.put f_dl,Sta.put S0 f_dl kpt ((S4.mono (by lia)).new ht _),⟨?_,fun k u hu=>tp _ _ (hts2 k u hu)⟩,⟨ds++[t],by rw[uX9];simp,by simp[hl2],fun k u hu=>?_⟩,_,rfl⟩⟩
  ·rw[zj ntd]
   exact old ht ht4
  ·rcases Nat.lt_or_ge k ds.length with c|c
   ·rw[Us c]at hu
    obtain⟨q,s,g,h1,h2,h3,h4,h5⟩:=hds k u hu;exact⟨q,s,g,tp _ _ h1,by rw[zj h4];exact old ht (k24.k _ _ h5 h2),h3,h4,h5⟩
   ·rw[UC c]at hu
    have c':k=i:=by
     have:=(ud.mp hu).1
     simp at this
     lia
    subst c';rw[hl2,Nat.sub_self]at hu;simp at hu
    subst hu;exact⟨p,l,r,by rw[zj (zi hd4 ht).symm];exact uX9,by rw[zj npd];exact old ht hp4,⟨b3,o3,g0,by lia⟩,npd,S3.neI hp3⟩
 rintro σ H2 ⟨fx,kp,S2,⟨ht2,hts2⟩,⟨ds,hd2,hl2,hds⟩,x,rfl⟩;obtain⟨tags,hT,lT,aT⟩:=XG (H:=H2) (nm z b) (fun k s g=>(s.length<=9/\So s)/\g=1+((k:Nat):Int) / 3) ts fun k t h=>⟨AD k,SS k,_,hts2 k t h,hAD k fx,hSS k,rfl⟩;obtain⟨defs,hD,lD,aD⟩:=XG (H:=H2) (fun k=>nm z b (2-k)) (fun k s g=>s.length<=3/\So s/\0<=g/\g<=2) ds fun k t h=>by
  obtain⟨q,s,g,h1,h2,h3,_⟩:=hds k t h;exact⟨q,s,g,h1,h2,h3⟩
 refine⟨_,rfl,q _ w0 ⟨z,b,tags,defs⟩ kp (S2.mono (by lia)) ⟨⟨tl,dl,ts,ds,fx _ _ nw0 nwt nwd hw0,ht2,hd2,hT,hD⟩,?_⟩⟩;refine⟨zl,names_of (by show tags.length=4;lia) fun k p h=>(aT k p h).1,?_,fun p hp=>?_,names_of (by show defs.length=3;lia) fun k p h=>(aD k p h).1,fun p hp=>?_,hzc⟩
 ·have e:([1,1,1,2]:List Int)=(uK 4).map fun k=>1+((k:Nat):Int) / 3:=by decide
  show tags.map (·.2.2)=[1,1,1,2];rw[e];exact names_of (by lia) fun k p h=>(aT k p h).2.2
 ·obtain⟨k,h⟩:=U9.mp hp
  exact(aT k p h).2.1
 ·obtain⟨k,h⟩:=U9.mp hp
  exact(aD k p h).2
inductive Tps(H:Hp):List (Str×Int)->List Addr->Prop
 |nil:Tps H [] []
 |cons {a:Str} {s:Int} {t:Addr} {l:List (Str×Int)} {ts:List Addr}:H t=some (.tup [.str a,.int s])->Tps H l ts->Tps H ((a,s)::l) (t::ts)
theorem Tps.keep(t:Tups H H'){l:List (Str×Int)}(h:Tps H l ts):Tps H' l ts:=by
 induction h with
 |nil=>exact .nil
 |cons a _ ih=>exact .cons (t _ _ a) ih
theorem Tps.app{a b:List (Str×Int)}{p:List Addr}(h:Tps H a p)(g:Tps H b q):Tps H (a++b) (p++q):=by
 induction h with
 |nil=>exact g
 |cons x _ ih=>exact .cons x ih
theorem Tps.len{l:List (Str×Int)}(h:Tps H l ts):l.length=ts.length:=by
 induction h with
 |nil=>rfl
 |cons _ _ ih=>rw[ui,ui,ih]
theorem Tps.get{H:Hp}:∀{l:List (Str×Int)}{ts:List Addr}{i:Nat}{t:Addr},Tps H l ts->ts[i]?=some t->∃a s,l[i]?=some (a,s)/\H t=some (.tup [.str a,.int s])
 |_,_,_,_,.nil,e=>by simp at e
 |_,_,0,_,.cons a _,e=>by
  simp at e
  subst e;exact⟨_,_,rfl,a⟩
 |_,_,i+1,_,.cons _ b,e=>by
  obtain⟨a,s,h1,h2⟩:=Tps.get (i:=i) b (by simpa using e);exact⟨a,s,by simpa using h1,h2⟩
theorem Yw{α β:Type}{l:List α}{x:α}(f:α->β)(h:l[i]?=some x):(l.take i).map f++[f x]=(l.take (i+1)).map f:=by
 rw[uD,h,ut]
 rfl
theorem Yx{α:Type}{l:List α}{x:α}(p:α->Bool)(h:l[i]?=some x):(l.take (i+1)).filter p=(l.take i).filter p++(if p x=true then[x]else[]):=by
 rw[uD,h,UQ]
 congr 1
 cases e:p x<;>simp[e]
structure Sc(H:Hp)(l:List (Str×Int))(sc:Addr):Prop where
 ex:∃ts,H sc=some (.lst (ts.map V.ref))/\Tps H l ts
 n:l.length<=1000
 s:∀p∈l,0<=p.2/\p.2<=13
theorem Sc.kp{sc:Addr}{l:List (Str×Int)}(h:Sc H l sc)(S:Sta K H st B)(k:Kp st H H'):Sc H' l sc:=by
 obtain⟨⟨ts,h1,h2⟩,n,s⟩:=h;exact⟨⟨ts,k.k _ _ (S.neR h1) h1,h2.keep (k.tups S)⟩,n,s⟩
theorem Sc.same{sc:Addr}{l:List (Str×Int)}(h:Sc H l sc)(k:Same H H'):Sc H' l sc:=by
 obtain⟨⟨ts,h1,h2⟩,n,s⟩:=h;exact⟨⟨ts,k _ _ h1,h2.keep (.of k)⟩,n,s⟩
inductive spPick(K:ub)(vs:List V)(H:Hp)(Q:VK)(e_3:XK):Prop
 |mk (st:Addr) (sc:Addr) (s:Int) (B:Nat):(∃l:List (Str×Int),vs=[.ref st,.ref sc,.int s]/\Sta K H st B/\B+2 < LIM/\Sc H l sc/\l≠[]/\∀(H':Hp)(x:Str),Kp st H H'->Sta K H' st (B+2)->x∈l.map (·.1)->Q (.str x) H')->spPick K vs H Q e_3
inductive spPicks(K:ub)(vs:List V)(H:Hp)(Q:VK)(e_3:XK):Prop
 |mk (st:Addr) (sc:Addr) (q:Addr) (s:List Int) (B:Nat):(∃l:List (Str×Int),vs=[.ref st,.ref sc,.ref q]/\Sta K H st B/\B+80 < LIM/\Sc H l sc/\l≠[]/\H q=some (.lst (s.map V.int))/\s.length<=40/\∀(H':Hp)(p:Addr)(xs:lS),Kp st H H'->Sta K H' st (B+80)->H' p=some (.tup (xs.map V.str))->xs.length=s.length->(∀x∈xs,x∈l.map (·.1))->Q (.ref p) H')->spPicks K vs H Q e_3
theorem scPick:FnScope ["_law_state","_law_scope","_law_sort","_law_some"] lS8 (zp Jp):=.ok
theorem ZB:(["_law_state","_law_scope","_law_sort","_law_some","_law_name_here","_law_one"]:lS).Nodup:=by decide +kernel
theorem zat(F:Fun K "_law_pick" "_law_pick" Jp f fd)(GD:Ca P w K mg base CX0 1 "_law_draw" lS5 (spDraw K))(m_len:mg "len"=none):FnOk P w K mg base CX0 2 f fd lS8 (spPick K):=by
 refine F.by scPick (fun vs H Q E h=>?_) (fun cdv A outer s H vs Q E hr h=>?_)
 ·obtain⟨st,sc,s,B,l,rfl,_⟩:=h
  rfl
 obtain⟨st,sc,s,B,l,rfl,S0,hB,hSc,hl0,q⟩:=h;obtain⟨⟨ts,hsc,hT⟩,hn,_⟩:=hSc;refine⟨_,
  (zh (yx ["_law_name_here","_law_one"] (i:=3) scPick.nd rfl (Or.inl rfl) rfl (zR K (jv 1)) (fun _ _ _ _ _=>(zN K (n:=2) rfl (zu (gN 4 ZB) (zu (gN 5 ZB) zM)))) (fun _ _ _ _ _=>(z5 (tN zI (jv 5) (jv 2)))) (fun _ _ _ _ _=>(jv 4)))
  (zh (zE (jW.pt (wu (tN (Xp hr) (jv 3) (zD zL)) (xM (tN zI (cA GD hr (jA2 (jv 0) zt)) zt))))
   (zk (yx ["_law_name_here","_law_one"] (i:=3) scPick.nd rfl (Or.inl rfl) rfl (zR K (jv 1)) (fun _ _ _ _ _=>(zN K (n:=2) rfl (zu (gN 4 ZB) (zu (gN 5 ZB) zM)))) (fun _ _ _ _ _=>yn) (fun _ _ _ _ _=>(jv 4)))) zx)
  (zk (zv (xX (zY K) (jv 3) (cA GD hr (jA2 (jv 0) (yu (zF K) rfl m_len Ud (jA1 (jv 3)))))))))),?_⟩
 have sl:=zO;have LM:LIM=4611686018427387904:=rfl;have htl:=hT.len;refine(show ∀(u:TS)(D:Ends),(∀(H':Hp)(p:Addr)(xs:lS),Kp st H H'->Sta K H' st (B+1)->H' p=some (.lst (xs.map V.str))->xs≠[]->(∀x∈xs,x∈l.map (·.1))->u D [sR st,sR sc,some (.int s),sR p] H')->(tSeq _ (tSeq _ u):TS) D _ H from ?key) _ _ ?rest
 case key =>
  intro u D tail;refine(zq rfl rfl ⟨⟨_,SqL.of hsc⟩,ym (xs:=ts.map V.ref) (fun j τ ys H'=>H=H'/\(∃u v,τ=[sR st,sR sc,some (.int s),none,u,v])/\ys=((l.take j).filter fun a=>decide (V.int a.2=V.int s)).map fun a=>V.str a.1) ⟨rfl,⟨none,none,rfl⟩,rfl⟩ (fun j τ ys H' _ h=>by rw[<- h.1];exact SqL.of hsc) ?_ ?_⟩)
  ·rintro j v τ ys H3 hv ⟨rfl,⟨u,v',rfl⟩,rfl⟩
   obtain⟨tq,htq,rfl⟩:=L2.gM hv;obtain⟨a,n,e1,e2⟩:=hT.get htq;have hj:j < l.length:=(ud.mp e1).1;have tf:=Yx (fun a:Str×Int=>decide (V.int a.2=V.int s)) e1;refine⟨_,_,rfl,SqT.of e2,rfl,_,_,rfl,_,_,rfl,rfl,(zq rfl rfl ⟨rfl,(zg rfl ?_)⟩)⟩;refine ite2 (fun c=>?_) (fun c=>?_)
   ·refine(zg rfl ⟨?_,rfl,⟨_,_,rfl⟩,?_⟩)
    ·rw[ua]
     have:=um (fun a:Str×Int=>decide (V.int a.2=V.int s)) (l.take j)
     rw[uq]at this;lia
    ·rw[tf,if_pos c,ut]
     rfl
   ·refine⟨rfl,⟨_,_,rfl⟩,?_⟩
    rw[tf,if_neg c,u6]
  rintro τ ys H3 ⟨rfl,_,rfl⟩ p1 hp1;rw[ua,<- htl,ur (uj _)];generalize hf:l.filter (fun a:Str×Int=>decide (V.int a.2=V.int s))=fl;have hfm:∀x∈fl.map (·.1),x∈l.map (·.1):=fun x hx=>by
   obtain⟨a,h1,h2⟩:=uu.mp hx;rw[<- hf]at h1;exact uu.mpr ⟨a,(uW.mp h1).1,h2⟩
  have em:(fl.map fun a=>V.str a.1)=(fl.map (·.1)).map V.str:=by rw[UB];rfl
  rw[em];have k1:Kp st H (upd H p1 (.lst ((fl.map (·.1)).map V.str))):=Kp.refl.new hp1;have S1:=S0.new hp1 (.lst ((fl.map (·.1)).map V.str));have h1:=uX9 (H:=H) (a:=p1) (o:=.lst ((fl.map (·.1)).map V.str));generalize upd H p1 (.lst ((fl.map (·.1)).map V.str))=H4 at *;refine(zg rfl ⟨sN0,fun pe h2=>?_⟩);have k2:=k1.new (o:=.lst []) h2;have S2:=S1.new h2 (.lst []);have h12:=old (o:=.lst []) h2 h1;refine⟨_,_,_,rfl,rfl,SqL.of h12,SqL.of uX9,(zg rfl ?_)⟩;show if(if false=true then !((fl.map (·.1)).map V.str).isEmpty else((fl.map (·.1)).map V.str).isEmpty)=true then _ else _
  generalize upd H4 pe (.lst [])=H5 at *;by_cases hfe:fl=[]
  ·have e0:((fl.map (·.1)).map V.str).isEmpty=true:=by rw[hfe];rfl
   rw[e0];refine iteT ?_;obtain⟨hsc2,hT2⟩:H5 sc=some (.lst (ts.map V.ref))/\Tps H5 l ts:=⟨(k2).k _ _ (S0.neR hsc) hsc,hT.keep ((k2).tups S0)⟩;refine(zq rfl rfl ⟨⟨_,SqL.of hsc2⟩,ym (xs:=ts.map V.ref) (fun j τ ys H'=>H5=H'/\(∃u v,τ=[sR st,sR sc,some (.int s),sR p1,u,v])/\ys=(l.take j).map fun a=>V.str a.1) ⟨rfl,⟨none,none,rfl⟩,rfl⟩ (fun j τ ys H' _ h=>by rw[<- h.1];exact SqL.of hsc2) ?_ ?_⟩)
   ·rintro j v τ ys H3 hv ⟨rfl,⟨u,v',rfl⟩,rfl⟩
    obtain⟨tq,htq,rfl⟩:=L2.gM hv;obtain⟨a,n,e1,e2⟩:=hT2.get htq;have hj:j < l.length:=(ud.mp e1).1;refine⟨_,_,rfl,SqT.of e2,rfl,_,_,rfl,_,_,rfl,rfl,(zg rfl ⟨?_,rfl,⟨_,_,rfl⟩,Yw (fun a:Str×Int=>V.str a.1) e1⟩)⟩;rw[ua,uq];lia
   ·rintro τ ys H3 ⟨rfl,_,rfl⟩ p2 hp2
    rw[ua,<- htl,ur (uj _)];have em:(l.map fun a=>V.str a.1)=(l.map (·.1)).map V.str:=by rw[UB];rfl
    rw[em];exact tail _ p2 (l.map (·.1)) ((k2).new hp2) (((S2).mono (by lia)).new hp2 _) uX9 (by simpa using hl0) (fun x hx=>hx)
  ·have e0:((fl.map (·.1)).map V.str).isEmpty=false:=by
    cases fl with
    |nil=>exact absurd rfl hfe
    |cons _ _=>rfl
   rw[e0];refine iteF ?_;refine(zg rfl ⟨st,16,B,rfl,S2,by lia,by decide,fun H6 r k6 S6 _ _=>?_⟩);have k26:=k2.trans k6;refine⟨rfl,(zg rfl ?_)⟩;refine ite2 (fun _=>?_) (fun _=>?_)
   ·obtain⟨hsc2,hT2⟩:H6 sc=some (.lst (ts.map V.ref))/\Tps H6 l ts:=⟨(k26).k _ _ (S0.neR hsc) hsc,hT.keep ((k26).tups S0)⟩
    refine(zq rfl rfl ⟨⟨_,SqL.of hsc2⟩,ym (xs:=ts.map V.ref) (fun j τ ys H'=>H6=H'/\(∃u v,τ=[sR st,sR sc,some (.int s),sR p1,u,v])/\ys=(l.take j).map fun a=>V.str a.1) ⟨rfl,⟨none,none,rfl⟩,rfl⟩ (fun j τ ys H' _ h=>by rw[<- h.1];exact SqL.of hsc2) ?_ ?_⟩)
    ·rintro j v τ ys H3 hv ⟨rfl,⟨u,v',rfl⟩,rfl⟩
     obtain⟨tq,htq,rfl⟩:=L2.gM hv;obtain⟨a,n,e1,e2⟩:=hT2.get htq;have hj:j < l.length:=(ud.mp e1).1;refine⟨_,_,rfl,SqT.of e2,rfl,_,_,rfl,_,_,rfl,rfl,(zg rfl ⟨?_,rfl,⟨_,_,rfl⟩,Yw (fun a:Str×Int=>V.str a.1) e1⟩)⟩;rw[ua,uq];lia
    ·rintro τ ys H3 ⟨rfl,_,rfl⟩ p2 hp2
     rw[ua,<- htl,ur (uj _)];have em:(l.map fun a=>V.str a.1)=(l.map (·.1)).map V.str:=by rw[UB];rfl
     rw[em];exact tail _ p2 (l.map (·.1)) ((k26).new hp2) (((S6).mono (by lia)).new hp2 _) uX9 (by simpa using hl0) (fun x hx=>hx)
   ·exact tail _ p1 (fl.map (·.1)) k26 S6 (k6.k _ _ (S2.neS h12) h12) (by simpa using hfe) hfm
 case rest =>
  intro H' p xs kp S1 hp hx hm;have h0:0 < xs.length:=List.length_pos_iff.mpr hx;refine(zq rfl rfl (zg rfl ⟨_,_,rfl,.inl (SqL.of hp),st,_,_,rfl,S1,by lia,(by rw[ua];lia),fun H2 r k2 S2 r0 r1=>?_⟩));rw[ua]at r1;have hi:r.toNat < xs.length:=by lia
  have e:atI (xs.map V.str) r=some (.str xs[r.toNat]):=by
   have g:(xs.map V.str)[r.toNat]?=some (.str xs[r.toNat]):=by rw[ug,uh hi];rfl
   have g2:=yB g;rw[tO r0]at g2;exact g2
  exact⟨p,_,_,_,rfl,rfl,SqL.of (k2.k _ _ (S1.neS hp) hp),e,q _ _ (kp.trans k2) S2 (hm _ (List.getElem_mem hi))⟩
theorem zau:FnScope lS9 lS9 (zp Xy):=.ok
theorem zav:(["_law_state","_law_scope","_law_sorts_here","_law_sort"]:lS).Nodup:=by decide +kernel
theorem Jz(F:Fun K "_law_picks" "_law_picks" Xy f fd)(GP:Ca P w K mg base CX0 2 "_law_pick" lS8 (spPick K))(m_tuple:mg "tuple"=none):FnOk P w K mg base CX0 3 f fd lS9 (spPicks K):=by
 refine F.by zau (fun vs H Q E h=>?_) (fun cdv A outer s H vs Q E hr h=>?_)
 ·obtain⟨st,sc,q,s,B,l,rfl,_⟩:=h
  rfl
 obtain⟨st,sc,qs,s,B,l,rfl,S0,hB,hSc,hl0,hq,hs,q⟩:=h;refine⟨_,
  (zk (zv (zS (zH K) rfl m_tuple uN (jA1 (yf ["_law_sort"] rfl (zR K (jv 2)) (fun _ _ _ _ _=>(gN 3 zav)) (fun _ _ _ _ _=>yn) (fun _ _ _ _ _=>(cA GP hr (jA3 (jv 0) (jv 1) (jv 3))))))))),?_⟩
 have sl:=zO;have LM:LIM=4611686018427387904:=rfl;refine(zq rfl rfl ⟨⟨_,SqL.of hq⟩,ym (xs:=s.map V.int) (fun i τ ys H'=>Kp st H H'/\Sta K H' st (B+2*i)/\(∃x,τ=[sR st,sR sc,sR qs,x])/\∃xs:lS,ys=xs.map V.str/\xs.length=i/\∀x∈xs,x∈l.map (·.1)) ⟨Kp.refl,S0,⟨none,rfl⟩,[],rfl,rfl,fun x hx=>by cases hx⟩ (fun i τ ys H' _ h=>SqL.of (h.1.k _ _ (S0.neI hq) hq)) ?_ ?_⟩)
 ·rintro i v τ ys H1 hv ⟨k1,S1,⟨x,rfl⟩,xs,rfl,hl,hm⟩
  obtain⟨n,hn,rfl⟩:=L2.gM hv;have hi:i < s.length:=(ud.mp hn).1;refine(zq rfl rfl (zg rfl ⟨st,sc,n,B+2*i,l,rfl,S1,by lia,hSc.kp S0 k1,hl0,fun H2 y k2 S2 hy=>⟨by rw[ua];lia,k1.trans k2,S2,⟨_,rfl⟩,xs++[y],by simp,by simp[hl],fun z hz=>?_⟩⟩));rcases uy.mp hz with hz|hz
  ·exact hm z hz
  ·rw[uo.mp hz]
   exact hy
 ·rintro τ ys H1 ⟨k1,S1,_,xs,rfl,hl,hm⟩ p hp
  rw[ua]at hl S1;refine⟨p,(zg rfl (.inl ⟨SqL.of uX9,fun p2 hp2=>?_⟩))⟩;exact q _ p2 xs ((k1.new hp).new hp2) ((((S1.mono (by lia)).new hp _)).new hp2 _) uX9 hl hm
inductive De
 |num (i:Int)
 |op (w a b:Str)
 |app (w f:Str) (xs:lS)
def De.uses:De->lS
 |.num _=>[]
 |.op _ a b=>[a,b]
 |.app w f xs=>if w="ask"then f::xs else xs
theorem zX{f:Str}{xs:lS}:De.uses (.app "ask" f xs)=f::xs:=by unfold De.uses;exact if_pos rfl
theorem zV{w f:Str}{xs:lS}(h:w≠"ask"):De.uses (.app w f xs)=xs:=by unfold De.uses;exact if_neg h
inductive IsDe(H:Hp):De->Addr->Prop
 |num {i:Int} {p:Addr}:H p=some (.tup [.str "num",.int i])->IsDe H (.num i) p
 |op {w a b:Str} {p:Addr}:H p=some (.tup [.str "op",.str w,.str a,.str b])->IsDe H (.op w a b) p
 |app {w f:Str} {xs:lS} {p q:Addr}:(w≠"num"/\w≠"op"/\xs.length<=40)->H p=some (.tup [.str w,.str f,.ref q])->H q=some (.tup (xs.map V.str))->IsDe H (.app w f xs) p
theorem IsDe.keep{d:De}(h:IsDe H d p)(t:Tups H H'):IsDe H' d p:=by
 cases h with
 |num a=>exact .num (t _ _ a)
 |op a=>exact .op (t _ _ a)
 |app c a b=>exact .app c (t _ _ a) (t _ _ b)
theorem Yy{α:Type}{f:α->V}{s:List α}{m:Int}(h:0<=m):cutV (s.map f) none (some m)=(s.take m.toNat).map f:=by
 unfold cutV;have c1:HT.sIx (s.map f).length 0 none=0:=rfl;have c2:HT.sIx (s.map f).length (s.map f).length (some m)=min m.toNat (s.map f).length:=by
  show(if m < 0 then(m+((s.map f).length:Nat)).toNat else min m.toNat (s.map f).length)=_;rw[if_neg (by lia)]
 rw[c1,c2,List.drop_zero,Nat.sub_zero,List.map_take,ua];rcases Nat.le_total m.toNat s.length with c|c
 ·rw[Nat.min_eq_left c]
 ·rw[Nat.min_eq_right c,ur (by simp),ur (by simpa using c)]
theorem vV{α β:Type}{f:α->β}{xs:List α}{r:Int}{x:α}(h0:0<=r)(h:xs[r.toNat]?=some x):atI (xs.map f) r=some (f x):=by
 have g:(xs.map f)[r.toNat]?=some (f x):=by rw[ug,h];rfl
 have g2:=yB g;rw[tO h0]at g2;exact g2
def Yz(o:Wo):De->Prop
 |.app w f xs=>w="call"->∃s∈o.defs,s.1=f/\s.2.1.length=xs.length
 |_=>True
def DeQ(K:ub)(o:Wo)(st:Addr)(B:Nat)(l:List (Str×Int))(H:Hp)(Q:VK):Prop:=∀(H':Hp)(p q:Addr)(d:De)(g:Int),Kp st H H'->Sta K H' st B->H' p=some (.tup [.ref q,.int g])->IsDe H' d q->0<=g->g<=13->Yz o d->(∀x∈d.uses,x∈l.map (·.1))->Q (.ref p) H'
inductive spHanded(K:ub)(vs:List V)(H:Hp)(Q:VK)(e_3:XK):Prop
 |mk (st:Addr) (sc:Addr) (w:Addr) (B:Nat) (l:List (Str×Int)):(∃o:Wo,vs=[.ref st,.ref sc,.ref w]/\Sta K H st B/\B+100 < LIM/\Sc H l sc/\l≠[]/\IsW H o w/\DeQ K o st (B+100) l H Q)->spHanded K vs H Q e_3
inductive spDeed(K:ub)(vs:List V)(H:Hp)(Q:VK)(e_3:XK):Prop
 |mk (st:Addr) (sc:Addr) (w:Addr) (B:Nat) (l:List (Str×Int)) (o:Wo):(∃a:Nat,vs=[.ref st,.ref sc,.ref w,.int (a:Nat)]/\a < 3/\Sta K H st B/\B+200 < LIM/\Sc H l sc/\IsW H o w/\DeQ K o st (B+200) l H Q)->spDeed K vs H Q e_3
theorem zcX{i j:Int}(h:i<=3)(h2:j<=3)(h0:0<=j):0<=(if j > i then j else i)/\(if j > i then j else i)<=3:=by
 split<;>lia
theorem scHanded:FnScope ["_law_state","_law_scope","_law_world_here","_law_some","_law_way","_law_name_here","_law_sort","_law_sorts_here","_law_gives","_law_many"] lS18 (zp Zr):=.ok
theorem JA:(["_law_state","_law_scope","_law_world_here","_law_some","_law_way","_law_name_here","_law_sort","_law_sorts_here","_law_gives","_law_many","_law_one"]:lS).Nodup:=by decide +kernel
theorem WX:(["_law_state","_law_scope","_law_world_here","_law_some","_law_way","_law_name_here","_law_sort","_law_sorts_here","_law_gives","_law_many","_law_k"]:lS).Nodup:=by decide +kernel
theorem WY(F:Fun K "_law_handed" "_law_handed" Zr f fd)(GD:Ca P w K mg base CX0 1 "_law_draw" lS5 (spDraw K))(GP:Ca P w K mg base CX0 3 "_law_picks" lS9 (spPicks K))(m_len:mg "len"=none)(m_range:mg "range"=none)(m_max:mg "max"=none):FnOk P w K mg base CX0 4 f fd lS18 (spHanded K):=by
 refine F.by scHanded (fun vs H Q E h=>?_) (fun cdv A outer s H vs Q E hr h=>?_)
 ·obtain⟨st,sc,w,B,l,o,rfl,_⟩:=h
  rfl
 obtain⟨st,sc,w0,B,l,o,rfl,S0,hB,hSc,hl0,hW,q⟩:=h;have hr1:Room 1 _:=hr.mono (by decide);refine⟨_,
  (zh (yx ["_law_one"] (i:=3) scHanded.nd rfl (Or.inl rfl) rfl (zR K (jv 1)) (fun _ _ _ _ _=>(gN 10 JA)) (fun _ _ _ _ _=>(z5 (tN zdT (zn K (jv 10)) zt))) (fun _ _ _ _ _=>(jv 10)))
  (zh (sE 4 scHanded.nd (cA GD hr1 (jA2 (jv 0) zt)))
  (zh (zE (tN zI (jv 4) zt)
   (zk (sE 3 scHanded.nd (jv 1))) zx)
  (zh (zE (jW.pt (vI (tN (VT hr) (jv 3) (zD zL)) (wr (tN jJ (jv 4) zt))))
   (zh (xN (xX (zY K) (jv 3) (cA GD hr1 (jA2 (jv 0) (yu (zF K) rfl m_len Ud (jA1 (jv 3)))))) (zN K rfl (zu (gN 5 scHanded.nd) (zu (gN 6 scHanded.nd) zM))))
   (zk (zv (zB (jA2 (zB (jA3 zw (jv 5) (cA GP hr (jA3 (jv 0) (jv 1) (yf ["_law_k"] rfl (yC rfl m_range (jA1 (yu (zap rfl) rfl m_max PyProof.Rows.boot_max (jA2 (zA xo (jv 6) zt) (cA GD hr1 (jA2 (jv 0) zt)))))) (fun _ _ _ _ _=>(gN 10 WX)) (fun _ _ _ _ _=>yn) (fun _ _ _ _ _=>(zA xy (jv 10) zt))))))) zt))))) zx)
  (zh (xN (xX (zY K) (zQ K (jv 2)) (cA GD hr1 (jA2 (jv 0) zt))) (zN K rfl (zu (gN 5 scHanded.nd) (zu (gN 7 scHanded.nd) (zu (gN 8 scHanded.nd) zM)))))
  (zh (sE 9 scHanded.nd (cA GD hr1 (jA2 (jv 0) (zA yy (yu (zF K) rfl m_len Ud (jA1 (jv 7))) zt))))
  (zk (zv (zB (jA2 (zB (jA3 zw (jv 5) (cA GP hr (jA3 (jv 0) (jv 1) (yL (wB K) (jv 7) yW (yX (jv 9))))))) (zA xo (zA yy zt (yu (zF K) rfl m_len Ud (jA1 (jv 7)))) (jv 9)))))))))))),?_⟩
 have sl:=zO;have LM:LIM=4611686018427387904:=rfl;obtain⟨⟨ts,hsc,hT⟩,hn,hs⟩:=id hSc;have htl:=hT.len;refine(show ∀(u:TS)(D:Ends),(∀(H':Hp)(p:Addr)(fl:List (Str×Int))(fs:List Addr)(r:Int),Kp st H H'->Sta K H' st (B+1)->H' p=some (.lst (fs.map V.ref))->Tps H' fl fs->(∀x∈fl,x∈l)->u D [sR st,sR sc,sR w0,sR p,some (.int r),none,none,none,none,none] H')->(tSeq _ (tSeq _ (tSeq _ u)):TS) D _ H from ?key) _ _ ?rest
 case key =>
  intro u D tail;refine(zq rfl rfl ⟨⟨_,SqL.of hsc⟩,ym (xs:=ts.map V.ref) (fun j τ ys H'=>H=H'/\(∃v,τ=[sR st,sR sc,sR w0,none,none,none,none,none,none,none,v])/\∃(fl:List (Str×Int))(fs:List Addr),ys=fs.map V.ref/\fs.length<=j/\Tps H fl fs/\∀x∈fl,x∈l) ⟨rfl,⟨none,rfl⟩,[],[],rfl,uM _,.nil,fun x hx=>by cases hx⟩ (fun j τ ys H' _ h=>by rw[<- h.1];exact SqL.of hsc) ?_ ?_⟩)
  ·rintro j v τ ys H3 hv ⟨rfl,⟨v',rfl⟩,fl,fs,rfl,hj,hf,hm⟩
   obtain⟨tq,htq,rfl⟩:=L2.gM hv;obtain⟨a,n,e1,e2⟩:=hT.get htq;have hjl:j < l.length:=(ud.mp e1).1;refine(zg rfl (ixT e2 aI1 (zC rfl rfl (zg rfl ?_))));refine ite2 (fun c=>?_) (fun c=>?_)
   ·refine(zg rfl ⟨by rw[ua];lia,rfl,⟨_,rfl⟩,fl++[(a,n)],fs++[tq],by simp,by simp;lia,hf.app (.cons e2 .nil),fun x hx=>?_⟩)
    rcases uy.mp hx with hx|hx
    ·exact hm x hx
    ·rw[uo.mp hx]
     exact uw e1
   ·exact⟨rfl,⟨_,rfl⟩,fl,fs,rfl,by lia,hf,hm⟩
  rintro τ ys H3 ⟨rfl,_,fl,fs,rfl,hj,hf,hm⟩ p1 hp1;have S1:=S0.new hp1 (.lst (fs.map V.ref));refine(zg rfl ⟨st,4,B,rfl,S1,by lia,by decide,fun H2 r k2 S2 r0 r1=>?_⟩);have k12:=(Kp.refl.new (o:=.lst (fs.map V.ref)) hp1).trans k2;have hp2:=k2.k _ _ (S0.ne hp1) (uX9 (H:=H) (a:=p1) (o:=.lst (fs.map V.ref)));refine(zg rfl ⟨rfl,(zg rfl ?_)⟩);refine ite2 (fun c=>?_) (fun c=>?_)
  ·exact(zg rfl (tail _ sc l ts r k12 S2 (k12.k _ _ (S0.neR hsc) hsc) (hT.keep (k12.tups S0)) fun x hx=>hx))
  ·exact tail _ p1 fl fs r k12 S2 hp2 (hf.keep (k12.tups S0)) hm
 case rest =>
  intro H1 p1 fl fs r k1 S1 hp1 hf hm;have hfl:=hf.len;have gpos:∀x∈fl,0<=x.2/\x.2<=13:=fun x hx=>hs x (hm x hx);refine(show ∀(u:TS)(D:Ends),D.rt=Q->(∀(H':Hp),Kp st H H'->Sta K H' st (B+1)->u D [sR st,sR sc,sR w0,sR p1,some (.int r),none,none,none,none,none] H')->(tSeq _ u:TS) D _ H1 from ?key2) _ _ rfl ?rest2
  case key2 =>
   intro u D hD tail;refine(zg rfl ⟨sN0,fun pe h2=>?_⟩);have k2:=k1.new (o:=.lst []) h2;have S2:=S1.new h2 (.lst []);have hp2:=old (o:=.lst []) h2 hp1;have hf2:=hf.keep (.of (zo h2 (.lst [])));refine⟨_,_,_,rfl,rfl,SqL.of hp2,SqL.of uX9,(zg rfl ?_)⟩;show if(if true=true then !(fs.map V.ref).isEmpty else(fs.map V.ref).isEmpty)=true then _ else _
   generalize upd H1 pe (.lst [])=H2 at *;by_cases hfe:fs=[]
   ·have e0:(fs.map V.ref).isEmpty=true:=by rw[hfe];rfl
    rw[e0];exact iteF (tail _ k2 S2)
   have e0:(fs.map V.ref).isEmpty=false:=by
    cases fs with
    |nil=>exact absurd rfl hfe
    |cons _ _=>rfl
   rw[e0];refine iteT ?_;refine(zg rfl (zC rfl rfl (zg rfl ?_)));refine ite2 (fun _=>?_) (fun _=>tail _ k2 S2);have h0:0 < fs.length:=List.length_pos_iff.mpr hfe;refine(zq rfl rfl (zg rfl ⟨_,_,rfl,.inl (SqL.of hp2),st,_,_,rfl,S2,by lia,(by rw[ua];lia),fun H3 r3 k3 S3 q0 q1=>?_⟩));rw[ua]at q1;have hi:r3.toNat < fs.length:=by lia
   obtain⟨t,ht⟩:∃t,fs[r3.toNat]?=some t:=⟨_,uh hi⟩;have hf3:=hf2.keep (k3.tups S2);obtain⟨a,g,e1,e2⟩:=hf3.get ht;have hg:=gpos _ (uw e1);have ha:a∈l.map (·.1):=uu.mpr ⟨_,hm _ (uw e1),rfl⟩;have hp3:=k3.k _ _ (S2.neR hp2) hp2;refine⟨p1,_,_,_,rfl,rfl,SqL.of hp3,vV q0 ht,_,_,rfl,SqT.of e2,rfl,_,_,rfl,_,_,rfl,rfl,?_⟩;refine(zq rfl rfl (zq rfl rfl (zC rfl rfl (zg rfl ⟨st,3,(zg rfl ⟨S3,by lia,by decide,fun H4 r4 k4 S4 q2 q3=>?_⟩)⟩))));have mx:=zcX (i:=g-10) (j:=r4) (by lia) (by lia) q2;refine⟨_,_,rfl,?_⟩;generalize (if r4 > g-10 then r4 else g-10)=n at *;refine(zg rfl ⟨by lia,by lia,xf (n:=n.toNat) (fun i τ ys H'=>H4=H'/\(∃x,τ=[sR st,sR sc,sR w0,sR p1,some (.int r),some (.str a),some (.int g),none,none,none,x])/\∃ns:List Int,ys=ns.map V.int/\ns.length=i) ⟨rfl,⟨none,rfl⟩,[],rfl,rfl⟩ ?_ ?_⟩)
   ·rintro i τ ys H5 hi ⟨rfl,⟨x,rfl⟩,ns,rfl,hln⟩
    exact(zg rfl (zC rfl rfl ⟨(by show(0:Int) < _;decide),by rw[ua];lia,rfl,⟨_,rfl⟩,ns++[_],by rw[ut];rfl,by simp[hln]⟩))
   rintro τ ys H5 ⟨rfl,_,ns,rfl,hln⟩ p5 hp5;have k04:=(k2.trans k3).trans k4;have k5:=k04.new (o:=.lst (ns.map V.int)) hp5;have S5:=S4.new hp5 (.lst (ns.map V.int));refine⟨st,sc,p5,ns,_,l,rfl,S5,by lia,hSc.kp S0 k5,hl0,uX9,by lia,fun H6 p6 xs k6 S6 hp6 hl6 hm6=>?_⟩;refine⟨sN3,fun t1 h7=>⟨sN2,fun t2 h8=>?_⟩⟩;rw[hD];refine q _ t2 t1 (.app "ask" a xs) 0 (((k5.trans k6).new h7).new h8) ((((S6.mono (by lia)).new h7 _)).new h8 _) uX9 (.app ⟨by decide,by decide,by lia⟩ (old h8 uX9) (old h8 (old h7 hp6))) (by decide) (by decide) (fun e=>absurd e (by decide)) fun x hx=>?_;rw[zX]at hx;rcases uk.mp hx with e|e
   ·rw[e];exact ha
   ·exact hm6 x e
  case rest2 =>
   intro H2 k2 S2;obtain⟨⟨tl,dl,tt,ds,hw,htl2,hdl,hTt,hTd⟩,wok⟩:=hW.kp S0 k2;have dlen:=wok.dlen;have hdl2:=hTd.len;refine(zg rfl (ixL hw aI3 (zg rfl ⟨st,3,(zg rfl ⟨S2,by lia,by decide,fun H3 r3 k3 S3 q0 q1=>?_⟩)⟩)));have hi:r3.toNat < ds.length:=by lia
   obtain⟨t,ht⟩:∃t,ds[r3.toNat]?=some t:=⟨_,uh hi⟩;obtain⟨z,ss,g,sq,e1,e2,e3⟩:=(hTd.kp S2 k3).get ht;have wd:ss.length<=3/\So ss/\0<=g/\g<=2:=wok.ds _ (uw e1);refine⟨dl,_,_,_,rfl,rfl,SqL.of (k3.k _ _ (S2.neR hdl) hdl),vV q0 ht,_,_,rfl,SqT.of e2,rfl,_,_,rfl,_,_,rfl,_,_,rfl,rfl,?_⟩;refine(zq rfl rfl ⟨_,_,rfl,.inl (SqL.of e3),(zC rfl rfl ⟨st,_,_,rfl,S3,by lia,(by lia),fun H4 r4 k4 S4 q2 q3=>?_⟩)⟩);rw[ua]at q3;have e34:=k4.k _ _ (S3.neI e3) e3;refine(zq rfl rfl (zq rfl rfl (zq rfl rfl ⟨_,_,rfl,SqL.of e34,fun p5 hp5=>?_⟩)));rw[Yy q2];have k04:=(k2.trans k3).trans k4;have k5:=k04.new (o:=.lst ((ss.take r4.toNat).map V.int)) hp5;have S5:=S4.new hp5 (.lst ((ss.take r4.toNat).map V.int));refine⟨st,sc,p5,ss.take r4.toNat,_,l,rfl,S5,by lia,hSc.kp S0 k5,hl0,uX9,by rw[uq];lia,fun H6 p6 xs k6 S6 hp6 hl6 hm6=>?_⟩;refine⟨sN3,fun t1 h7=>?_⟩;have e37:=old (o:=.tup [.str "func",.str z,.ref p6]) h7 (k6.k _ _ (S5.neI (old hp5 e34)) (old hp5 e34));refine(zg rfl ⟨_,_,rfl,.inl (SqL.of e37),(zC rfl rfl (zg rfl (zC rfl rfl ⟨sN2,fun t2 h8=>?_⟩)))⟩);rw[ua];refine q _ t2 t1 (.app "func" z xs) _ (((k5.trans k6).new h7).new h8) ((((S6.mono (by lia)).new h7 _)).new h8 _) uX9 (.app ⟨by decide,by decide,by rw[hl6,uq];lia⟩ (old h8 uX9) (old h8 (old h7 hp6))) (by lia) (by lia) (fun e=>absurd e (by decide)) fun x hx=>?_;rw[zV (by decide)]at hx;exact hm6 x hx
theorem scDeed:FnScope ["_law_state","_law_scope","_law_world_here","_law_at","_law_way","_law_word","_law_tag","_law_sorts_here","_law_kind","_law_to","_law_name_here","_law_gives"] lS10 (zp Jq):=.ok
theorem zaw(F:Fun K "_law_deed" "_law_deed" Jq f fd)(GD:Ca P w K mg base CX0 1 "_law_draw" lS5 (spDraw K))(GK:Ca P w K mg base CX0 2 "_law_pick" lS8 (spPick K))(GP:Ca P w K mg base CX0 3 "_law_picks" lS9 (spPicks K))(GH:Ca P w K mg base CX0 4 "_law_handed" lS18 (spHanded K)):FnOk P w K mg base CX0 5 f fd lS10 (spDeed K):=by
 refine F.by scDeed (fun vs H Q E h=>?_) (fun cdv A outer s H vs Q E hr h=>?_)
 ·obtain⟨st,sc,w,B,l,o,a,rfl,_⟩:=h
  rfl
 obtain⟨st,sc,w0,B,l,o,a,rfl,ha,S0,hB,hSc,hW,q⟩:=h;have hr1:Room 1 _:=hr.mono (by decide);have hr2:Room 2 _:=hr.mono (by decide);have hr3:Room 3 _:=hr.mono (by decide);refine⟨_,
  (zh (sE 4 scDeed.nd (cA GD hr1 (jA2 (jv 0) zt)))
  (zh (zE (jW.pt (wu (tN jH (jv 4) zt) (xM (tN (Xp hr) (jv 1) (zD zL)))))
   (zk (zv (zB (jA2 (zB (jA2 zw (zA xo (cA GD hr1 (jA2 (jv 0) zt)) zt))) zt)))) zx)
  (zh (zE (tN zI (jv 4) zt)
   (zh (sE 5 scDeed.nd (xX (zY K) (zD (jA7 zw zw zw zw zw zw zw)) (cA GD hr1 (jA2 (jv 0) zt))))
   (zk (zv (zB (jA2 (zB (jA4 zw (jv 5) (cA GK hr2 (jA3 (jv 0) (jv 1) zt)) (cA GK hr2 (jA3 (jv 0) (jv 1) zt)))) zt))))) zx)
  (zh (zE (tN jH (jv 4) zt)
   (zh (xN (xX (zY K) (zQ K (jv 2)) (cA GD hr1 (jA2 (jv 0) zt))) (zN K rfl (zu (gN 6 scDeed.nd) (zu (gN 7 scDeed.nd) (zu (gN 8 scDeed.nd) zM)))))
   (zk (zv (zB (jA2 (zB (jA3 zw (jv 6) (cA GP hr3 (jA3 (jv 0) (jv 1) (jv 7))))) (jv 8)))))) zx)
  (zh (zE (tN zI (jv 4) zt)
   (zk (zv (cA GH hr (jA3 (jv 0) (jv 1) (jv 2))))) zx)
  (zh (sE 9 scDeed.nd (cA GD hr1 (jA2 (jv 0) zt)))
  (zh (zE (jW.pt (vI (tN jH (jv 3) zt) (wr (tN jJ (cA GD hr1 (jA2 (jv 0) zt)) zt))))
   (zk (sE 9 scDeed.nd (zA yy (zA yy (jv 3) zt) (cA GD hr1 (jA2 (jv 0) (zA xo zt (jv 3))))))) zx)
  (zh (xN (xX (zY K) (zQ K (jv 2)) (jv 9)) (zN K rfl (zu (gN 10 scDeed.nd) (zu (gN 7 scDeed.nd) (zu (gN 11 scDeed.nd) zM)))))
  (zk (zv (zB (jA2 (zB (jA3 zw (jv 10) (cA GP hr3 (jA3 (jv 0) (jv 1) (jv 7))))) (jv 11))))))))))))),?_⟩
 have sl:=zO;have LM:LIM=4611686018427387904:=rfl;obtain⟨⟨ts,hsc,hT⟩,hn,hs⟩:=id hSc;have htl:=hT.len;refine(zg rfl ⟨st,9,B,rfl,S0,by lia,by decide,fun H1 r k1 S1 r0 r1=>?_⟩);refine(show ∀(u:TS)(D:Ends),D.rt=Q->(∀(H':Hp),l≠[]->Kp st H H'->Sta K H' st (B+1)->u D [sR st,sR sc,sR w0,some (.int (a:Nat)),some (.int r),none,none,none,none,none,none,none] H')->(tSeq _ (tSeq _ u):TS) D _ H1 from ?key) _ _ rfl ?rest
 case key =>
  intro u D hD tail;refine(zg rfl (zC rfl rfl (zg rfl ?_)));refine ite2 (fun _=>?_) (fun _=>?_)
  ·refine(zg rfl ⟨st,9,(zg rfl ⟨S1,by lia,by decide,fun H2 r2 k2 S2 _ _=>(zC rfl rfl ⟨sN2,fun t1 h3=>⟨sN2,fun t2 h4=>?_⟩⟩)⟩)⟩)
   rw[hD];exact q _ t2 t1 (.num (r2-4)) 0 (((k1.trans k2).new h3).new h4) (((S2.mono (by lia)).new h3 _).new h4 _) uX9 (.num (old h4 uX9)) (by decide) (by decide) trivial fun x hx=>by cases hx
  ·refine(zg rfl ⟨sN0,fun pe h2=>?_⟩)
   have k2:=k1.new (o:=.lst []) h2;have S2:=S1.new h2 (.lst []);have hsc2:=k2.k _ _ (S0.neR hsc) hsc;refine⟨_,_,_,rfl,rfl,SqL.of hsc2,SqL.of uX9,(zg rfl ?_)⟩;show if(if false=true then !(ts.map V.ref).isEmpty else(ts.map V.ref).isEmpty)=true then _ else _
   generalize upd H1 pe (.lst [])=H2 at *;by_cases he:ts=[]
   ·have e0:(ts.map V.ref).isEmpty=true:=by rw[he];rfl
    rw[e0];refine iteT ?_;refine(zg rfl ⟨st,9,(zg rfl ⟨S2,by lia,by decide,fun H3 r2 k3 S3 _ _=>(zC rfl rfl ⟨sN2,fun t1 h3=>⟨sN2,fun t2 h4=>?_⟩⟩)⟩)⟩);rw[hD];exact q _ t2 t1 (.num (r2-4)) 0 (((k2.trans k3).new h3).new h4) (((S3.mono (by lia)).new h3 _).new h4 _) uX9 (.num (old h4 uX9)) (by decide) (by decide) trivial fun x hx=>by cases hx
   ·have e0:(ts.map V.ref).isEmpty=false:=by
     cases ts with
     |nil=>exact absurd rfl he
     |cons _ _=>rfl
    rw[e0];refine iteF (tail _ (fun e=>he ?_) k2 S2);rw[e]at htl;exact u5.mp htl.symm
 case rest =>
  intro H2 hl0 k2 S2;have hSc2:=hSc.kp S0 k2;have hW2:=hW.kp S0 k2;refine cut1 fun c_ hc_=>?_;refine(zg rfl ⟨rfl,(zg rfl ?_)⟩);refine ite2 (fun _=>?_) (fun _=>?_)
  ·refine⟨sN7,fun pl h3=>?_⟩
   have S3:=S2.new h3 (.lst [.str "plus",.str "minus",.str "times",.str "over",.str "rest",.str "less",.str "same"]);have k3:=k2.new (o:=.lst [.str "plus",.str "minus",.str "times",.str "over",.str "rest",.str "less",.str "same"]) h3;refine(zg rfl ⟨st,7,(zg rfl ⟨S3,by lia,by decide,fun H4 r4 k4 S4 q0 q1=>?_⟩)⟩);have hpl:=k4.k _ _ (S2.ne h3) (uX9 (H:=H2) (a:=pl) (o:=.lst [.str "plus",.str "minus",.str "times",.str "over",.str "rest",.str "less",.str "same"]));have hi:r4.toNat < (["plus","minus","times","over","rest","less","same"]:lS).length:=by show r4.toNat < 7;lia
   obtain⟨wd,hwd⟩:∃x,(["plus","minus","times","over","rest","less","same"]:lS)[r4.toNat]?=some x:=⟨_,uh hi⟩;refine⟨pl,_,_,_,rfl,rfl,SqL.of hpl,vV (f:=V.str) q0 hwd,?_⟩;have k34:=k3.trans k4;refine(zq rfl rfl (zg rfl ⟨st,sc,0,_,l,rfl,S4,by lia,hSc.kp S0 k34,hl0,fun H5 x k5 S5 hx=>?_⟩));have k35:=k34.trans k5;refine(zq rfl rfl ⟨st,sc,0,_,l,rfl,S5,by lia,hSc.kp S0 k35,hl0,fun H6 y k6 S6 hy=>?_⟩);refine⟨sN4,fun t1 h7=>⟨sN2,fun t2 h8=>?_⟩⟩;refine q _ t2 t1 (.op wd x y) 0 (((k35.trans k6).new h7).new h8) (((S6.mono (by lia)).new h7 _).new h8 _) uX9 (.op (old h8 uX9)) (by decide) (by decide) trivial fun z hz=>?_;have hz':z∈[x,y]:=hz;rcases uk.mp hz' with e|e
   ·rw[e];exact hx
   ·rw[uo.mp e];exact hy
  subst hc_;refine nxtC ?_;dsimp only
  refine cut1 fun c_ hc_=>?_;refine(zg rfl (zC rfl rfl (zg rfl ?_)));obtain⟨⟨tl,dl,tt,ds,hw,htl2,hdl,hTt,hTd⟩,wok⟩:=hW2;refine ite2 (fun _=>?_) (fun _=>?_)
  ·have tlen:=wok.tlen
   have htl3:=hTt.len;refine(zg rfl (ixL hw aI2 (zg rfl ⟨st,4,(zg rfl ⟨S2,by lia,by decide,fun H3 r3 k3 S3 q0 q1=>?_⟩)⟩)));have hi:r3.toNat < tt.length:=by lia
   obtain⟨t,ht⟩:∃t,tt[r3.toNat]?=some t:=⟨_,uh hi⟩;obtain⟨z,ss,g,sq,e1,e2,e3⟩:=(hTt.kp S2 k3).get ht;have wd:ss.length<=9/\So ss:=wok.ts _ (uw e1);have hg:g=1\/g=2:=by
    have m:g∈o.tags.map (·.2.2):=uu.mpr ⟨_,uw e1,rfl⟩;rw[wok.tk]at m;simpa using m
   refine⟨tl,_,_,_,rfl,rfl,SqL.of (k3.k _ _ (S2.neR htl2) htl2),vV q0 ht,_,_,rfl,SqT.of e2,rfl,_,_,rfl,_,_,rfl,_,_,rfl,rfl,?_⟩;have k23:=k2.trans k3;refine(zq rfl rfl (zq rfl rfl ⟨st,sc,sq,ss,_,l,rfl,S3,by lia,hSc.kp S0 k23,hl0,e3,by lia,fun H6 p6 xs k6 S6 hp6 hl6 hm6=>?_⟩));refine⟨sN3,fun t1 h7=>(zg rfl ⟨sN2,fun t2 h8=>?_⟩)⟩;refine q _ t2 t1 (.app "make" z xs) g (((k23.trans k6).new h7).new h8) (((S6.mono (by lia)).new h7 _).new h8 _) uX9 (.app ⟨by decide,by decide,by lia⟩ (old h8 uX9) (old h8 (old h7 hp6))) (by lia) (by lia) (fun e=>absurd e (by decide)) fun x hx=>?_;rw[zV (by decide)]at hx;exact hm6 x hx
  subst hc_;refine nxtC ?_;dsimp only
  refine cut1 fun c_ hc_=>?_;refine(zg rfl ⟨rfl,(zg rfl ?_)⟩);refine ite2 (fun _=>?_) (fun _=>?_)
  ·refine(zq rfl rfl (zg rfl ⟨st,sc,w0,_,l,o,rfl,S2,by lia,hSc2,hl0,⟨⟨tl,dl,tt,ds,hw,htl2,hdl,hTt,hTd⟩,wok⟩,fun H3 p q' d g k3 S3 h1 h2 h3 h4 h5 h6=>?_⟩))
   exact q _ p q' d g (k2.trans k3) (S3.mono (by lia)) h1 h2 h3 h4 h5 h6
  subst hc_;refine(zg rfl ⟨st,3,(zg rfl ⟨S2,by lia,by decide,fun H3 r3 k3 S3 q0 q1=>?_⟩)⟩);have k23:=k2.trans k3;refine(show ∀(u:TS)(D:Ends),(∀(H':Hp)(x:Int),Kp st H H'->Sta K H' st (B+4)->0<=x->x < 3->u D [sR st,sR sc,sR w0,some (.int (a:Nat)),some (.int r),none,none,none,none,some (.int x),none,none] H')->(tSeq _ (tSeq _ u):TS) D _ H3 from ?key3) _ _ ?rest3
  case key3 =>
   intro u D tail;refine(zg rfl (zC rfl rfl (zg rfl ?_)));refine ite2 (fun c=>?_) (fun _=>tail _ r3 k23 (S3.mono (by lia)) q0 q1);rw[decide_eq_true_eq]at c;refine(zg rfl ⟨st,4,(zg rfl ⟨S3,by lia,by decide,fun H4 r4 k4 S4 _ _=>(zC rfl rfl (zg rfl ?_))⟩)⟩);refine ite2 (fun _=>?_) (fun _=>tail _ r3 (k23.trans k4) (S4.mono (by lia)) q0 q1);refine(zg rfl (zC rfl rfl (zq rfl rfl (zC rfl rfl ⟨st,_,_,rfl,S4,by lia,by lia,fun H5 r5 k5 S5 p0 p1=>(zC rfl rfl ?_)⟩))));exact tail _ _ ((k23.trans k4).trans k5) (S5.mono (by lia)) (by lia) (by lia)
  case rest3 =>
   intro H4 x k4 S4 x0 x1;obtain⟨⟨tl,dl,tt,ds,hw,htl2,hdl,hTt,hTd⟩,wok⟩:=hW.kp S0 k4;have dlen:=wok.dlen;have hdl2:=hTd.len;have hi:x.toNat < ds.length:=by lia
   obtain⟨t,ht⟩:∃t,ds[x.toNat]?=some t:=⟨_,uh hi⟩;obtain⟨z,ss,g,sq,e1,e2,e3⟩:=hTd.get ht;have wd:ss.length<=3/\So ss/\0<=g/\g<=2:=wok.ds _ (uw e1);refine(zg rfl (ixL hw aI3 (zg rfl ⟨dl,_,_,_,rfl,rfl,SqL.of hdl,vV x0 ht,_,_,rfl,SqT.of e2,rfl,_,_,rfl,_,_,rfl,_,_,rfl,rfl,?_⟩)));refine(zq rfl rfl (zq rfl rfl ⟨st,sc,sq,ss,_,l,rfl,S4,by lia,hSc.kp S0 k4,hl0,e3,by lia,fun H6 p6 xs k6 S6 hp6 hl6 hm6=>?_⟩));refine⟨sN3,fun t1 h7=>(zg rfl ⟨sN2,fun t2 h8=>?_⟩)⟩;refine q _ t2 t1 (.app "call" z xs) g (((k4.trans k6).new h7).new h8) (((S6.mono (by lia)).new h7 _).new h8 _) uX9 (.app ⟨by decide,by decide,by lia⟩ (old h8 uX9) (old h8 (old h7 hp6))) (by lia) (by lia) (fun _=>⟨_,uw e1,rfl,hl6.symm⟩) fun x hx=>?_;rw[zV (by decide)]at hx;exact hm6 x hx
mutual
inductive Bd
 |give (x:Str)
 |lt (x:Str) (d:De) (b:Bd)
 |iff (x:Str) (a b:Bd)
 |case(x:Str) (as:Arms)
inductive Arms
 |nil
 |cons (t:Str) (ns:lS) (b:Bd) (r:Arms)
end
mutual
def Bd.sz:Bd->Nat
 |.give _=>1
 |.lt _ _ b=>b.sz+1
 |.iff _ a b=>a.sz+b.sz+1
 |.case _ as=>as.sz+1
def Arms.sz:Arms->Nat
 |.nil=>0
 |.cons _ ns b r=>ns.length+b.sz+r.sz+1
end
mutual
def Bd.dp:Bd->Nat
 |.give _=>1
 |.lt _ _ b=>b.dp+1
 |.iff _ a b=>max a.dp b.dp+1
 |.case _ as=>as.dp+1
def Arms.dp:Arms->Nat
 |.nil=>0
 |.cons _ _ b r=>max b.dp r.dp
end
def Arms.app:Arms->Arms->Arms
 |.nil,b=>b
 |.cons t ns d r,b=>.cons t ns d (Arms.app r b)
def Arms.rev:Arms->Arms
 |.nil=>.nil
 |.cons t ns d r=>Arms.app (Arms.rev r) (.cons t ns d .nil)
theorem Arms.sz_app:∀(a b:Arms),(Arms.app a b).sz=a.sz+b.sz
 |.nil,b=>by unfold Arms.app;rw[Arms.sz];lia
 |.cons t ns d r,b=>by unfold Arms.app;rw[Arms.sz,Arms.sz,Arms.sz_app r b];lia
theorem Arms.dp_app:∀(a b:Arms),(Arms.app a b).dp=max a.dp b.dp
 |.nil,b=>by unfold Arms.app;rw[Arms.dp];lia
 |.cons t ns d r,b=>by unfold Arms.app;rw[Arms.dp,Arms.dp,Arms.dp_app r b];lia
theorem Arms.dp_rev:∀(a:Arms),(Arms.rev a).dp=a.dp
 |.nil=>rfl
 |.cons t ns d r=>by unfold Arms.rev;rw[Arms.dp_app,Arms.dp_rev r,Arms.dp,Arms.dp,Arms.dp];lia
theorem Arms.sz_rev:∀(a:Arms),(Arms.rev a).sz=a.sz
 |.nil=>rfl
 |.cons t ns d r=>by unfold Arms.rev;rw[Arms.sz_app,Arms.sz_rev r,Arms.sz,Arms.sz,Arms.sz];lia
mutual
inductive IsB(H:Hp):Bd->Addr->Prop
 |give {x:Str} {p:Addr}:H p=some (.tup [.str "give",.str x])->IsB H (.give x) p
 |lt {x:Str} {d:De} {b:Bd} {p q r:Addr}:H p=some (.tup [.str "let",.str x,.ref q,.ref r])->IsDe H d q->IsB H b r->IsB H (.lt x d b) p
 |iff {x:Str} {a b:Bd} {p q r:Addr}:H p=some (.tup [.str "if",.str x,.ref q,.ref r])->IsB H a q->IsB H b r->IsB H (.iff x a b) p
 |case{x:Str} {as:Arms} {ps:List Addr} {p q:Addr}:H p=some (.tup [.str "case",.str x,.ref q])->H q=some (.tup (ps.map V.ref))->0 < ps.length->IsA H as ps->IsB H (.case x as) p
inductive IsA(H:Hp):Arms->List Addr->Prop
 |nil:IsA H .nil []
 |cons {t:Str} {ns:lS} {b:Bd} {r:Arms} {p q s:Addr} {ps:List Addr}:H p=some (.tup [.str t,.ref q,.ref s])->H q=some (.tup (ns.map V.str))->IsB H b s->IsA H r ps->IsA H (.cons t ns b r) (p::ps)
end
mutual
theorem IsB.keep{H H':Hp}(t:Tups H H'):∀{b:Bd}{p:Addr},IsB H b p->IsB H' b p
 |_,_,.give a=>.give (t _ _ a)
 |_,_,.lt a d b=>.lt (t _ _ a) (d.keep t) (IsB.keep t b)
 |_,_,.iff a b c=>.iff (t _ _ a) (IsB.keep t b) (IsB.keep t c)
 |_,_,.case a b l c=>.case (t _ _ a) (t _ _ b) l (IsA.keep t c)
theorem IsA.keep{H H':Hp}(t:Tups H H'):∀{b:Arms}{p:List Addr},IsA H b p->IsA H' b p
 |_,_,.nil=>.nil
 |_,_,.cons a b c d=>.cons (t _ _ a) (t _ _ b) (IsB.keep t c) (IsA.keep t d)
end
theorem IsA.app{H:Hp}{b:Arms}{q:List Addr}(g:IsA H b q):∀{a:Arms}{p:List Addr},IsA H a p->IsA H (Arms.app a b) (p++q)
 |_,_,.nil=>by unfold Arms.app;exact g
 |_,_,.cons x y z r=>by unfold Arms.app;exact .cons x y z (IsA.app g r)
theorem IsA.rev{H:Hp}:∀{a:Arms}{p:List Addr},IsA H a p->IsA H (Arms.rev a) p.reverse
 |_,_,.nil=>.nil
 |_,_,.cons x y z r=>by
  unfold Arms.rev;rw[tj];exact IsA.app (.cons x y z .nil) (IsA.rev r)
def CB:Nat->Nat
 |0=>0
 |n+1=>3*CB n+300
def SZ:Nat->Nat
 |0=>0
 |n+1=>3*SZ n+40
mutual
def Bd.binds:Bd->lS
 |.give _=>[]
 |.lt x _ b=>x::b.binds
 |.iff _ a b=>a.binds++b.binds
 |.case _ as=>as.binds
def Arms.binds:Arms->lS
 |.nil=>[]
 |.cons _ ns b r=>ns++(b.binds++r.binds)
end
mutual
def SndB(o:Wo):lS->Bd->Prop
 |l,.give x=>x∈l
 |l,.lt x d b=>((∀y∈d.uses,y∈l)/\x∉l/\Yz o d)/\SndB o (l++[x]) b
 |l,.iff x a b=>x∈l/\SndB o l a/\SndB o l b
 |l,.case x as=>x∈l/\SndA o l as
def SndA(o:Wo):lS->Arms->Prop
 |_,.nil=>True
 |l,.cons _ ns b r=>(((ns.Nodup/\ns.length<=40)/\∀y∈ns,y∉l)/\SndB o (l++ns) b)/\SndA o l r
end
theorem SndA.app{o:Wo}{l:lS}:∀{a b:Arms},SndA o l a->SndA o l b->SndA o l (Arms.app a b)
 |.nil,b,_,h=>by unfold Arms.app;exact h
 |.cons t ns d r,b,h,h'=>by
  unfold Arms.app;rw[SndA]at h ⊢;exact⟨h.1,SndA.app h.2 h'⟩
theorem SndA.rev{o:Wo}{l:lS}:∀{a:Arms},SndA o l a->SndA o l a.rev
 |.nil,h=>h
 |.cons t ns d r,h=>by
  unfold Arms.rev;rw[SndA]at h;refine SndA.app (SndA.rev h.2) ?_;rw[SndA,SndA];exact⟨h.1,trivial⟩
def Bnm(o:Wo)(k m:Nat)(l:lS):Prop:=∀x∈l,∃j,k<=j/\j < m/\x=nm o.z o.b j
theorem Bnm.mono{o:Wo}{k k':Nat}{l:lS}(h:Bnm o k m l)(e:k'<=k):Bnm o k' m l:=fun x hx=>let ⟨j,a,b,c⟩:=h x hx;⟨j,uI e a,b,c⟩
theorem Bnm.app{o:Wo}{k:Nat}{l l':lS}(h:Bnm o k m l)(h':Bnm o k m l'):Bnm o k m (l++l'):=fun x hx=>(uy.mp hx).elim (h x) (h' x)
theorem Bnm.nil{o:Wo}{k:Nat}:Bnm o k m []:=fun x hx=>by cases hx
theorem vW(k:Nat):cl (ys k)=uP (k % 2) 121:=by
 unfold ys;rcases(show k % 2=0\/k % 2=1 by lia)with e|e
 ·rw[e];decide +kernel
 ·rw[e];decide +kernel
theorem vq{b:Bool}{k:Nat}(hj:j < 1352)(hk:k < 1352)(h:nm z b j=nm z b k):j=k:=by
 have hl:∀i:Nat,(cl (core i)).length=3:=fun i=>by rw[wJ];rfl
 have cinj:cl (core j)=cl (core k)->j % 2=k % 2->j=k:=fun e e0=>by
  rw[wJ,wJ]at e;injection e with e1 e2
  injection e2 with _ e3
  injection e3 with e3 _
  lia
 have e:=congrArg cl h;unfold nm at e;cases b with
 |true =>
  rw[if_pos rfl,if_pos rfl,z6,z6,z6,z6]at e;have el:=congrArg tT e;rw[uf,uf,uf,uf,hl,hl,vW,vW,UG,UG]at el;rw[UA,UA]at e;exact cinj (List.append_inj_left e (by rw[hl,hl])) (by lia)
 |false =>
  rw[if_neg (by decide),if_neg (by decide),z6,z6,z6,z6]at e;have el:=congrArg tT e;rw[uf,uf,uf,uf,hl,hl,vW,vW,UG,UG]at el;exact cinj (List.append_inj_right' e (by rw[hl,hl])) (by lia)
theorem zdZ{o:Wo}{k:Nat}(h:k+n<=1352):((uK n).map fun i=>nm o.z o.b (k+i)).Nodup:=by
 unfold List.Nodup;rw[List.pairwise_map];refine List.Pairwise.imp_of_mem (fun{a b} ha hb hab e=>hab ?_) List.nodup_range
 have:=Uu.mp ha
 have:=Uu.mp hb
 have:=vq (by lia) (by lia) e
 lia
theorem zcY{o:Wo}{k:Nat}(h:k+n<=1352){l:lS}(hl:Bnm o 0 k l):∀y∈(uK n).map (fun i=>nm o.z o.b (k+i)),y∉l:=fun y hy hm=>by
 obtain⟨i,hi,rfl⟩:=uu.mp hy
 have:=Uu.mp hi
 obtain⟨j,_,hj,e⟩:=hl _ hm
 have:=vq (by lia) (by lia) e
 lia
theorem zd0{o:Wo}{k:Nat}{l:lS}(hl:Bnm o 0 k l):Bnm o 0 (k+n) (l++(uK n).map fun i=>nm o.z o.b (k+i)):=fun y hy=>by
 rcases uy.mp hy with hy|hy
 ·obtain⟨j,a,b,c⟩:=hl y hy
  exact⟨j,a,by lia,c⟩
 ·obtain⟨i,hi,rfl⟩:=uu.mp hy
  have:=Uu.mp hi
  exact⟨k+i,uM _,by lia,rfl⟩
theorem zax{o:Wo}{k:Nat}(h:k < 1352){l:lS}(hl:Bnm o 0 k l)(hy:nm o.z o.b k=y):y∉l:=fun hm=>by
 obtain⟨j,_,hj,e⟩:=hl _ hm
 have:=vq (by lia) (by lia) (hy.trans e)
 lia
theorem zcZ{o:Wo}{k:Nat}{l:lS}(hl:Bnm o 0 k l)(hy:nm o.z o.b k=y):Bnm o 0 (k+1) (l++[y]):=fun z hz=>by
 rcases uy.mp hz with hz|hz
 ·obtain⟨j,a,b,c⟩:=hl z hz
  exact⟨j,a,by lia,c⟩
 ·rw[uo.mp hz]
  exact⟨k,uM _,by lia,hy.symm⟩
theorem Arms.binds_app:∀(a b:Arms),(Arms.app a b).binds=a.binds++b.binds
 |.nil,b=>by unfold Arms.app;rw[Arms.binds];rfl
 |.cons t ns d r,b=>by unfold Arms.app;rw[Arms.binds,Arms.binds,Arms.binds_app r b,UA,UA]
theorem Bnm.rev{o:Wo}{k m:Nat}:∀{a:Arms},Bnm o k m a.binds->Bnm o k m a.rev.binds
 |.nil,h=>h
 |.cons t ns d r,h=>by
  unfold Arms.rev;rw[Arms.binds_app];rw[Arms.binds]at h;refine Bnm.app (Bnm.rev fun x hx=>h x (uE _ (uE _ hx))) ?_;rw[Arms.binds,Arms.binds,u6];exact fun x hx=>h x ((uy.mp hx).elim (uU _) fun y=>uE _ (uU _ y))
inductive spRooms(K:ub)(vs:List V)(H:Hp)(Q:VK)(e_3:XK):Prop
 |mk (st:Addr) (room:Int) (m:Nat):(∃B:Nat,vs=[.ref st,.int room,.int (m:Nat)]/\1<=room/\1<=m/\m<=10/\Sta K H st B/\B+1 < LIM/\∀(H':Hp)(p:Addr)(rs:List Int),Kp st H H'->Sta K H' st (B+1)->H p=none->H' p=some (.lst (rs.map V.int))->rs.length=m->(∀x∈rs,0<=x/\x<=room-1)->Q (.ref p) H')->spRooms K vs H Q e_3
inductive spBody(K:ub)(n:Nat)(vs:List V)(H:Hp)(Q:VK)(e_3:XK):Prop
 |mk (st:Addr) (sc:Addr) (w:Addr) (k:Nat) (a:Nat) (B:Nat) (room:Int) (l:List (Str×Int)):(∃o:Wo,vs=[.ref st,.ref sc,.int (k:Nat),.int room,.ref w,.int (a:Nat)]/\a < 3/\Sta K H st B/\B+CB n < LIM/\Sc H l sc/\IsW H o w/\room.toNat+(if l=[]then 1 else 0)+1<=n/\l.length+10*n<=900/\(k+10*n<=900/\Bnm o 0 k (l.map (·.1)))/\∀(H':Hp)(p:Addr)(b:Bd),Kp st H H'->Sta K H' st (B+CB n)->IsB H' b p->b.sz<=SZ n->b.dp<=n->Bnm o k 900 b.binds->SndB o (l.map (·.1)) b->Q (.ref p) H')->spBody K n vs H Q e_3
inductive spCase(K:ub)(n:Nat)(vs:List V)(H:Hp)(Q:VK)(e_3:XK):Prop
 |mk (st:Addr) (sc:Addr) (w:Addr) (k:Nat) (a:Nat) (B:Nat) (room:Int) (l:List (Str×Int)):(∃o:Wo,vs=[.ref st,.ref sc,.int (k:Nat),.int room,.ref w,.int (a:Nat)]/\a < 3/\Sta K H st B/\B+(3*CB n+10) < LIM/\Sc H l sc/\l≠[]/\IsW H o w/\1<=room/\room.toNat<=n/\l.length+10*(n+1)<=900/\(k+10*(n+1)<=900/\Bnm o 0 k (l.map (·.1)))/\∀(H':Hp)(p:Addr)(b:Bd),Kp st H H'->Sta K H' st (B+(3*CB n+10))->IsB H' b p->b.sz<=3*SZ n+31->b.dp<=n+1->Bnm o k 900 b.binds->SndB o (l.map (·.1)) b->Q (.ref p) H')->spCase K n vs H Q e_3
theorem ZC{H:Hp}:∀{xs:lS}{ys:List Int}{ps:List Addr},ps.length=min (xs.map V.str).length (ys.map V.int).length->(∀(i:Nat) x y,(xs.map V.str)[i]?=some x->(ys.map V.int)[i]?=some y->∃t,ps[i]?=some t/\H t=some (.tup [x,y]))->Tps H (xs.zip ys) ps
 |[],_,ps,hl,_=>by
  have:ps=[]:=u5.mp (by simpa using hl)
  rw[this];exact .nil
 |_::_,[],ps,hl,_=>by
  have:ps=[]:=u5.mp (by simpa using hl)
  rw[this];exact .nil
 |x::xs,y::ys,[],hl,_=>by simp at hl
 |x::xs,y::ys,p::ps,hl,h=>by
  obtain⟨t,h1,h2⟩:=h 0 (.str x) (.int y) rfl rfl;have e:p=t:=by simpa using h1
  refine .cons (by rw[e];exact h2) (ZC (by simp only[uC,ui]at hl;lia) fun i u v hu hv=>?_);obtain⟨t,h1,h2⟩:=h (i+1) u v (by simpa using hu) (by simpa using hv);exact⟨t,by simpa using h1,h2⟩
theorem scRooms:FnScope ["_law_state","_law_room","_law_many","_law_rooms_here"] lS15 (zp Xz):=.ok
theorem zay:(["_law_state","_law_room","_law_many","_law_rooms_here","_law_k"]:lS).Nodup:=by decide +kernel
theorem JB(F:Fun K "_law_rooms" "_law_rooms" Xz f fd)(GD:Ca P w K mg base CX0 1 "_law_draw" lS5 (spDraw K))(m_range:mg "range"=none):FnOk P w K mg base CX0 2 f fd lS15 (spRooms K):=by
 refine F.by scRooms (fun vs H Q E h=>?_) (fun cdv A outer s H vs Q E hr h=>?_)
 ·obtain⟨st,room,m,B,rfl,_⟩:=h
  rfl
 obtain⟨st,room,m,B,rfl,h1,m1,m2,S0,hB,q⟩:=h;refine⟨_,
  (zh (yx ["_law_k"] (i:=3) scRooms.nd rfl (Or.inl rfl) rfl (yC rfl m_range (jA1 (jv 2))) (fun _ _ _ _ _=>(gN 4 zay)) (fun _ _ _ _ _=>yn) (fun _ _ _ _ _=>(zA xU (zA xo (jv 1) zt) zt)))
  (zh (xN (zA xo (jv 1) zt) (We (jv 3) (cA GD hr (jA2 (jv 0) (jv 2)))))
  (zk (zv (jv 3))))),?_⟩
 have sl:=zO;have LM:LIM=4611686018427387904:=rfl;refine(zq rfl rfl ⟨by lia,by lia,xf (n:=m) (fun i τ ys H'=>H=H'/\(∃x,τ=[sR st,some (.int room),some (.int (m:Nat)),none,x])/\∃rs:List Int,ys=rs.map V.int/\rs.length=i/\∀x∈rs,0<=x/\x<=room-1) ⟨rfl,⟨none,rfl⟩,[],rfl,rfl,fun x hx=>by cases hx⟩ ?_ ?_⟩)
 ·rintro i τ ys H1 hi ⟨rfl,⟨x,rfl⟩,rs,rfl,hl,hx⟩
  refine(zg rfl (zC rfl rfl (zC rfl rfl ⟨⟨by decide,by decide⟩,by rw[ua];lia,rfl,⟨_,rfl⟩,rs++[(room-1) / 3],by rw[ut];rfl,by simp[hl],fun y hy=>?_⟩)));rcases uy.mp hy with hy|hy
  ·exact hx y hy
  ·rw[uo.mp hy]
   lia
 rintro τ ys H1 ⟨rfl,_,rs,rfl,hl,hx⟩ p hp;have S1:=S0.new hp (.lst (rs.map V.int));refine(zg rfl (zC rfl rfl (zq rfl rfl (zg rfl ⟨st,_,_,rfl,S1,by lia,by lia,fun H2 r k2 S2 r0 r1=>?_⟩))));have hp2:=k2.k _ _ (S0.ne hp) (uX9 (H:=H) (a:=p) (o:=.lst (rs.map V.int)));have k02:=(Kp.refl.new (o:=.lst (rs.map V.int)) hp).trans k2;have ix:ixN (rs.map V.int).length r=some r.toNat:=by
  unfold ixN;rw[if_pos r0,if_pos (by rw[ua];lia)]
 refine⟨p,_,r,r.toNat,rfl,rfl,hp2,ix,(zg rfl ?_)⟩;have es:(rs.map V.int).set r.toNat (.int (room-1))=(rs.set r.toNat (room-1)).map V.int:=by rw[List.map_set]
 show Q (.ref p) (upd H2 p (.lst ((rs.map V.int).set r.toNat (.int (room-1)))));rw[es];refine q _ p _ (k02.put hp) (Sta.put S0 hp k02 S2) hp uX9 (by simp[hl]) fun y hy=>?_;rcases List.mem_or_eq_of_mem_set hy with hy|hy
 ·exact hx y hy
 ·rw[hy]
  lia
theorem WZ{o:Wo}(h:WOk o){s:Int}(hs:s=1\/s=2):1<=(o.tags.filter fun p=>decide (V.int p.2.2=V.int s)).length/\(o.tags.filter fun p=>decide (V.int p.2.2=V.int s)).length<=3:=by
 have e:(o.tags.filter fun p=>decide (V.int p.2.2=V.int s)).length=((o.tags.map (·.2.2)).filter fun x=>decide (V.int x=V.int s)).length:=by
  rw[List.filter_map,ua]
  rfl
 rw[e,h.tk];rcases hs with rfl|rfl
 ·exact⟨by decide,by decide⟩
 ·exact⟨by decide,by decide⟩
theorem scCase:FnScope ["_law_state","_law_scope","_law_k","_law_room","_law_world_here","_law_at","_law_sort","_law_x","_law_arms","_law_tags","_law_one","_law_left","_law_names","_law_more"] lS0 (zp Jr):=.ok
theorem zc0:(["_law_state","_law_scope","_law_k","_law_room","_law_world_here","_law_at","_law_sort","_law_x","_law_arms","_law_tags","_law_one","_law_left","_law_names","_law_more","_law_j"]:lS).Nodup:=by decide +kernel
theorem zaz(F:Fun K "_law_case" "_law_case" Jr f fd)(GD:Ca P w K mg base CX0 1 "_law_draw" lS5 (spDraw K))(GN':Ca P w K mg base CX0 1 "_law_name" lS14 spNm)(GK:Ca P w K mg base CX0 2 "_law_pick" lS8 (spPick K))(GR:Ca P w K mg base CX0 2 "_law_rooms" lS15 (spRooms K))(GB:Ca P w K mg base CX0 (6+2*n) "_law_body" lS0 (spBody K n))(m_len:mg "len"=none)(m_range:mg "range"=none)(m_zip:mg "zip"=none)(m_list:mg "list"=none)(m_tuple:mg "tuple"=none):FnOk P w K mg base CX0 (7+2*n) f fd lS0 (spCase K n):=by
 rw[show 7+2*n=(6+2*n)+1 by lia];refine F.by scCase (fun vs H Q E h=>?_) (fun cdv A outer s H vs Q E hr h=>?_)
 ·obtain⟨st,sc,w,k,a,B,room,l,o,rfl,_⟩:=h
  rfl
 obtain⟨st,sc,w0,k,a,B,room,l,o,rfl,ha,S0,hB,hSc,hl0,hW,hroom,hrn,hln,⟨hkn,hbl⟩,q⟩:=h;have hr1:Room 1 _:=hr.mono (by lia);have hr2:Room 2 _:=hr.mono (by lia);refine⟨_,
  (zh (sE 6 scCase.nd (zA yy zt (zA xU (cA GD hr1 (jA2 (jv 0) zt)) zt)))
  (zh (sE 7 scCase.nd (cA GK hr2 (jA3 (jv 0) (jv 1) (jv 6))))
  (zh (sE 8 scCase.nd (zD zL))
  (zh (Yh [10] [] (i:=9) scCase.nd rfl (Or.inl rfl) rfl (zR K (zQ K (jv 4))) (fun _ _ _ _ _=>(gN 10 scCase.nd)) (fun _ _ _ _ _=>(z5 (tN zI (zn K (jv 10)) (jv 6)))) (fun _ _ _ _ _=>(jv 10)))
  (zh (yt PassesOwn.never rfl (yI K rfl m_zip (jA2 (jv 9) (cA GR hr2 (jA3 (jv 0) (jv 3) (yu (zF K) rfl m_len Ud (jA1 (jv 9))))))) (zN K rfl (zu (gN 10 scCase.nd) (zu (gN 11 scCase.nd) zM)))
   (zh (yx ["_law_j"] (i:=12) scCase.nd rfl (Or.inl rfl) rfl (yC rfl m_range (jA1 (yu (zF K) rfl m_len Ud (jA1 (zn K (jv 10)))))) (fun _ _ _ _ _=>(gN 14 zc0)) (fun _ _ _ _ _=>yn) (fun _ _ _ _ _=>(cA GN' hr1 (jA2 (jv 4) (zA yy (jv 2) (jv 14))))))
   (zh (sE 13 scCase.nd (zA yz (jv 1) (X6 rfl rfl m_list rfl m_zip (jA2 (jv 12) (zn K (jv 10))))))
   (zk (yw (yP uF uS uT yi (jv 8) (jA1 (zB (jA3 (zn K (jv 10)) (zS (zH K) rfl m_tuple uN (jA1 (jv 12))) (cA GB hr (jA6 (jv 0) (jv 13) (zA yy (jv 2) (yu (zF K) rfl m_len Ud (jA1 (jv 12)))) (jv 11) (jv 4) (jv 5))))))))))))
  (zh (zE (tN zI (cA GD hr1 (jA2 (jv 0) zt)) zt)
   (zk (yw (Xl uF PySem.F.slot_list_reverse PySem.F.type_list_reverse XF (jv 8)))) zx)
  (zk (zv (zB (jA3 zw (jv 7) (zS (zH K) rfl m_tuple uN (jA1 (jv 8))))))))))))),?_⟩
 have sl:=zO;have LM:LIM=4611686018427387904:=rfl;refine cut4 fun r1_ hr1_=>?_;refine(zg rfl ⟨st,4,B,rfl,S0,by lia,by decide,fun H1 r k1 S1 r0 r1=>(zC rfl rfl ⟨⟨by decide,by decide⟩,(zC rfl rfl ?_)⟩)⟩);have hsort:1+r / 3=1\/1+r / 3=2:=by lia
 show(tSeq _ _:TS) _ [sR st,sR sc,some (.int (k:Nat)),some (.int room),sR w0,some (.int (a:Nat)),some (.int (1+r / 3)),none,none,none,none,none,none,none] H1;generalize 1+r / 3=so at *;refine(zq rfl rfl (zg rfl ⟨st,sc,so,_,l,rfl,S1,by lia,hSc.kp S0 k1,hl0,fun H2 x k2 S2 hx=>?_⟩));refine⟨sN0,fun pa h3=>?_⟩;have k12:=k1.trans k2;have k3:=k12.new (o:=.lst []) h3;have S3:=S2.new h3 (.lst []);have npa:=S2.ne h3;have fpa:H pa=none:=k12.free npa h3;have hpa:=uX9 (H:=H2) (a:=pa) (o:=.lst []);generalize upd H2 pa (.lst [])=H3 at *;obtain⟨⟨tl,dl,tt,ds,hw0,htl0,hdl0,hTt,hTd⟩,wok⟩:=id hW;have hw:=k3.k _ _ (S0.neW hw0) hw0;have htl:=k3.k _ _ (S0.neR htl0) htl0;have tlen:=wok.tlen;have htt:=hTt.len;refine(zg rfl (ixL hw aI2 ⟨tl,rfl,⟨_,SqL.of htl⟩,ym (xs:=tt.map V.ref) (fun j τ ys H'=>H3=H'/\(∃v,τ=[sR st,sR sc,some (.int (k:Nat)),some (.int room),sR w0,some (.int (a:Nat)),some (.int so),some (.str x),sR pa,none,v,none,none,none])/\∃fs:List Addr,ys=fs.map V.ref/\fs.length<=j/\Tri H ((o.tags.take j).filter fun p=>decide (V.int p.2.2=V.int so)) fs) ⟨rfl,⟨none,rfl⟩,[],rfl,uM _,.nil⟩ (fun j τ ys H' _ h=>by rw[<- h.1];exact SqL.of htl) ?_ ?_⟩))
 ·rintro j v τ ys H4 hv ⟨rfl,⟨v',rfl⟩,fs,rfl,hj,hf⟩
  obtain⟨t,ht,rfl⟩:=L2.gM hv;obtain⟨z,ss,g,sq,e1,e2,e3⟩:=hTt.get ht;have hjl:j < o.tags.length:=(ud.mp e1).1;have tf:=Yx (fun p:Str×List Int×Int=>decide (V.int p.2.2=V.int so)) e1;refine(zg rfl (ixT (k3.tups S0 _ _ e2) aI2 (zg rfl ⟨rfl,(zg rfl ?_)⟩)));refine ite2 (fun c=>?_) (fun c=>?_)
  ·refine(zg rfl ⟨by rw[ua];lia,rfl,⟨_,rfl⟩,fs++[t],by simp,by simp;lia,?_⟩)
   rw[tf,if_pos c];exact hf.app (.cons e2 e3 .nil)
  ·refine⟨rfl,⟨_,rfl⟩,fs,rfl,by lia,?_⟩
   rw[tf,if_neg c,u6];exact hf
 rintro τ ys H4 ⟨rfl,_,fs,rfl,_,hf⟩ pt h4;rw[ua,<- htt,ur (uj _)]at hf;obtain⟨fl1,fl2⟩:=WZ wok hsort;have ftl:∀p∈o.tags.filter (fun p=>decide (V.int p.2.2=V.int so)),p.2.1.length<=9/\So p.2.1:=fun p hp=>wok.ts p (uW.mp hp).1;generalize o.tags.filter (fun p=>decide (V.int p.2.2=V.int so))=fl at *;have hfl:=hf.len;have S4:=S3.new h4 (.lst (fs.map V.ref));have k4:=k3.new (o:=.lst (fs.map V.ref)) h4;have hpt:=uX9 (H:=H3) (a:=pt) (o:=.lst (fs.map V.ref));have npt:pt≠pa:=(zi hpa h4).symm
 replace hpa:=old (o:=.lst (fs.map V.ref)) h4 hpa
 generalize upd H3 pt (.lst (fs.map V.ref))=H4 at *;subst hr1_;refine(zq rfl rfl (zq rfl rfl ⟨_,_,rfl,.inl (SqL.of hpt),st,room,(fs.map V.ref).length,(zg rfl ⟨hroom,by rw[ua];lia,by rw[ua];lia,S4,by lia,fun H5 pr rs k5 S5 fpr hpr hrl hrs=>?_⟩)⟩));rw[ua]at hrl;have npr:pr≠pa:=(zi hpa fpr).symm;have npt':=S4.neR hpt
 replace hpt:=k5.k _ _ npt' hpt
 replace hpa:=k5.k _ _ npa hpa
 replace k5:=k4.trans k5
 clear hw htl k4 S4;have hSc5:=hSc.kp S0 k5;have hW5:=hW.kp S0 k5;have npr':=S5.neI hpr
 let Fx:Hp->Prop:=fun H'=>(∀b u,b≠st->b≠pa->H5 b=some u->H' b=some u)
 have Fx.kp:∀{H1 H2:Hp},Fx H1->Kp st H1 H2->Fx H2:=fun f k b u n1 n2 h=>k.k _ _ n1 (f b u n1 n2 h);have Fx.pa:∀{H1:Hp}{o:HO},Fx H1->Fx (upd H1 pa o):=fun f b u n1 n2 h=>by rw[zj n2];exact f b u n1 n2 h
 refine⟨_,_,true,true,_,_,rfl,SqK.l hpt,SqK.l hpr,vk (xs:=fs.map V.ref) (ys:=rs.map V.int) (by rw[ua,ua];lia) (fun i σ H'=>Fx H'/\Kp st H H'/\Sta K H' st (B+4+i*CB n)/\(∃(as:List Addr)(ar:Arms),H' pa=some (.lst (as.map V.ref))/\as.length=i/\IsA H' ar as/\ar.sz<=i*(SZ n+10)/\ar.dp<=n/\Bnm o k 900 ar.binds/\SndA o (l.map (·.1)) ar)/\∃v1 v2 v3 v4,σ=[sR st,sR sc,some (.int (k:Nat)),some (.int room),sR w0,some (.int (a:Nat)),some (.int so),some (.str x),sR pa,sR pt,v1,v2,v3,v4])
  ⟨fun b u _ _ h=>h,k5,(S5.mono (by lia)),⟨[],.nil,hpa,rfl,.nil,by rw[Arms.sz];lia,by rw[Arms.dp];lia,by rw[Arms.binds];exact Bnm.nil,by rw[SndA];trivial⟩,none,none,none,none,rfl⟩ (fun i σ H' _ h=>⟨SqK.l (h.1 _ _ npt' npt hpt),SqK.l (h.1 _ _ npr' npr hpr)⟩) ?_ ?_⟩
 ·rintro i v y T σ H1 hv hy hT ⟨fx,kp,S1,⟨as,ar,hpa1,hal,hA,hz,hdp,hbn,hsn⟩,v1,v2,v3,v4,rfl⟩
  rw[ug]at hv hy;obtain⟨t,ht,rfl⟩:=ue.mp hv;obtain⟨rr,hrr,rfl⟩:=ue.mp hy;have hi:i < fs.length:=(ud.mp ht).1;have hrx:=hrs rr (uw hrr);refine⟨_,_,rfl,SqT.of uX9,rfl,_,_,rfl,_,_,rfl,rfl,?_⟩;refine cutD (fun D' fin=>?_) (fun _ _ h=>h);refine cut2 fun r2_ hr2_=>?_
  replace fx:=Fx.kp fx (Kp.refl.new (o:=.tup [.ref t,.int rr]) hT)
  replace kp:=kp.new (o:=.tup [.ref t,.int rr]) hT
  replace S1:=S1.new hT (.tup [.ref t,.int rr])
  replace hpa1:=old (o:=.tup [.ref t,.int rr]) hT hpa1
  replace hA:=hA.keep (.of (zo hT (.tup [.ref t,.int rr])))
  generalize upd H1 T (.tup [.ref t,.int rr])=H6 at *;obtain⟨z,ss,g,sq,e1,e2,e3⟩:=(hf.kp S0 kp).get ht;have hss:ss.length<=9/\So ss:=ftl _ (uw e1);have hw6:=kp.k _ _ (S0.neW hw0) hw0;refine(zg rfl (ixT e2 aI1 ⟨_,_,rfl,.inl (SqL.of e3),(zg rfl ⟨by rw[ua];lia,by rw[ua];lia,xf (n:=(ss.map V.int).length) (fun j τ ys H'=>H6=H'/\(∃v,τ=[sR st,sR sc,some (.int (k:Nat)),some (.int room),sR w0,some (.int (a:Nat)),some (.int so),some (.str x),sR pa,sR pt,sR t,some (.int rr),v3,v4,v])/\ys=((uK j).map fun i=>nm o.z o.b (k+i)).map V.str) ⟨rfl,⟨none,rfl⟩,rfl⟩ ?_ ?_⟩)⟩))
  ·rintro j τ ys H7 hj ⟨rfl,⟨v,rfl⟩,rfl⟩
   rw[ua]at hj;have ek:((k:Nat):Int)+(0+(j:Nat))=((k+j:Nat):Int):=by lia
   refine(zq rfl rfl (zg rfl (zC rfl rfl ⟨w0,o.z,o.b,_,k+j,(by show[V.ref w0,V.int (((k:Nat):Int)+(0+(j:Nat)))]=_;rw[ek]),hw6,wok.z,by rw[ua,ua,UT];lia,rfl,⟨_,rfl⟩,?_⟩)));rw[List.range_succ,ut,ut]
   rfl
  rintro τ ys H7 ⟨rfl,_,rfl⟩ pn hpn;rw[ua];have nl:((uK ss.length).map fun i=>nm o.z o.b (k+i)).length=ss.length:=by rw[ua,UT]
  have nb:Bnm o k 900 ((uK ss.length).map fun i=>nm o.z o.b (k+i)):=fun x hx=>by
   obtain⟨j,hj,rfl⟩:=uu.mp hx
   have:=Uu.mp hj
   exact⟨k+j,UP _ _,by lia,rfl⟩
  have nnd:((uK ss.length).map fun i=>nm o.z o.b (k+i)).Nodup/\((uK ss.length).map fun i=>nm o.z o.b (k+i)).length<=40:=⟨zdZ (by lia),by rw[ua,UT];lia⟩;have nnw:=zcY (n:=ss.length) (by lia) hbl;have nup:=zd0 (n:=ss.length) hbl;generalize (uK ss.length).map (fun i=>nm o.z o.b (k+i))=NS at *
  replace fx:=Fx.kp fx (Kp.refl.new (o:=.lst (NS.map V.str)) hpn)
  have kp7:=kp.new (o:=.lst (NS.map V.str)) hpn
  replace S1:=S1.new hpn (.lst (NS.map V.str))
  replace hpa1:=old (o:=.lst (NS.map V.str)) hpn hpa1
  replace hA:=hA.keep (.of (zo hpn (.lst (NS.map V.str))))
  replace e2:=old (o:=.lst (NS.map V.str)) hpn e2
  replace e3:=old (o:=.lst (NS.map V.str)) hpn e3
  have hpn7:=uX9 (H:=H6) (a:=pn) (o:=.lst (NS.map V.str));generalize upd H6 pn (.lst (NS.map V.str))=H7 at *;obtain⟨⟨ts,hsc,hTs⟩,scn,scs⟩:=id hSc;have htl2:=hTs.len;have npn:=S1.neS hpn7;refine(zq rfl rfl (zg rfl (ixT e2 aI1 ⟨pn,sq,_,_,rfl,.inl (SqL.of hpn7),.inl (SqL.of e3),fun H8 pz zs s8 f8 hpz hzl _ _ hpair=>?_⟩)));have tz:=ZC hzl hpair;have hzl2:zs.length=ss.length:=by rw[hzl,ua,ua];lia
  have kp8:=kp7.trans (.of s8);refine⟨sc,pz,(zC rfl rfl ⟨kp8.k _ _ (S0.neR hsc) hsc,hpz,by rw[ua,ua];lia,fun pm h9=>?_⟩)⟩;rw[<- ut];have kp9:=kp8.new (o:=.lst ((ts++zs).map V.ref)) h9;have s79:Same H7 (upd H8 pm (.lst ((ts++zs).map V.ref))):=s8.new h9;have hpm:=uX9 (H:=H8) (a:=pm) (o:=.lst ((ts++zs).map V.ref));have tz9:=tz.keep (.of (zo h9 (.lst ((ts++zs).map V.ref))));have sc9:Sc (upd H8 pm (.lst ((ts++zs).map V.ref))) (l++NS.zip ss) pm:=by
   refine⟨⟨ts++zs,hpm,(hTs.keep (kp9.tups S0)).app tz9⟩,?_,fun p hp=>?_⟩
   ·rw[uf,Ue]
    lia
   ·rcases uy.mp hp with hp|hp
    ·exact scs p hp
    ·have:=hss.2 p.2 (Uv hp).2
     lia
  replace fx:=Fx.kp fx (.of s79)
  replace S1:=S1.same s79
  replace hpa1:=s79 _ _ hpa1
  replace hA:=hA.keep (.of s79)
  replace e2:=s79 _ _ e2
  replace hpn7:=s79 _ _ hpn7
  generalize upd H8 pm (.lst ((ts++zs).map V.ref))=H9 at *;subst hr2_;refine(zg rfl ⟨.inl ⟨rfl,_,SqL.of hpa1⟩,(zg rfl (ixT e2 aI0 (zg rfl ⟨pn,(zg rfl (.inl ⟨SqL.of hpn7,fun pu h10=>?_⟩))⟩)))⟩)
  replace fx:=Fx.kp fx (Kp.refl.new (o:=.tup (NS.map V.str)) h10)
  have kp10:=kp9.new (o:=.tup (NS.map V.str)) h10
  replace S1:=S1.new h10 (.tup (NS.map V.str))
  replace hpa1:=old (o:=.tup (NS.map V.str)) h10 hpa1
  replace hA:=hA.keep (.of (zo h10 (.tup (NS.map V.str))))
  replace hpn7:=old (o:=.tup (NS.map V.str)) h10 hpn7
  replace sc9:=sc9.same (zo h10 (.tup (NS.map V.str)))
  have hpu:=uX9 (H:=H9) (a:=pu) (o:=.tup (NS.map V.str));generalize upd H9 pu (.tup (NS.map V.str))=H10 at *;have hne:l++NS.zip ss≠[]:=fun e=>hl0 (List.append_eq_nil_iff.mp e).1;have hbnd:B+4+i*CB n+CB n<=B+4+3*CB n:=by
   have:i+1<=3:=by lia
   have:=U0 (CB n) this
   rw[tw]at this;lia
  refine(zq rfl rfl (zq rfl rfl ⟨_,_,rfl,.inl (SqL.of hpn7),(zC rfl rfl (zq rfl rfl (zg rfl ⟨st,pm,w0,k+(NS.map V.str).length,a,_,rr,l++NS.zip ss,o,rfl,ha,S1,by lia,sc9,hW.kp S0 kp10,?_,?_,⟨by rw[ua];lia,by rw[ua,nl,ut,List.map_fst_zip (by lia)];exact nup⟩,fun H11 pb b k11 S11 hb hbz hbd hbb hsb=>?_⟩)))⟩))
  ·rw[if_neg hne]
   lia
  ·rw[uf,Ue]
   lia
  refine⟨sN3,fun tt h12=>?_⟩;have hpa11:=k11.k _ _ npa hpa1;have tp:Tups H10 (upd (upd H11 tt (.tup [.str z,.ref pu,.ref pb])) pa (.lst (as.map V.ref++[.ref tt]))):=fun p xs hp=>by
   have g:=k11.tups S1 _ _ hp;rw[zj (yv g hpa11 (by intro e;cases e))];exact old h12 g
  have tp2:Tups H11 (upd (upd H11 tt (.tup [.str z,.ref pu,.ref pb])) pa (.lst (as.map V.ref++[.ref tt]))):=fun p xs g=>by
   rw[zj (yv g hpa11 (by intro e;cases e))];exact old h12 g
  have kp12:=(kp10.trans k11).new (o:=.tup [.str z,.ref pu,.ref pb]) h12;refine⟨pa,(zC rfl rfl ⟨old h12 hpa11,by rw[ua];lia,fin _ _ ⟨Fx.pa (Fx.kp fx (k11.new h12)),kp12.put fpa,Sta.put S0 fpa kp12 ((S11.mono ?_).new h12 _),⟨as++[tt],Arms.app ar (.cons z NS b .nil),by rw[uX9];simp,by simp[hal],?_,?_,by rw[Arms.dp_app,Arms.dp,Arms.dp];lia,by rw[Arms.binds_app,Arms.binds,Arms.binds,u6];exact hbn.app (nb.app (hbb.mono (UP _ _))),hsn.app (by rw[SndA,SndA];rw[ut,List.map_fst_zip (by lia)]at hsb;exact⟨⟨⟨nnd,nnw⟩,hsb⟩,trivial⟩)⟩,_,_,_,_,rfl⟩⟩)⟩
  ·rw[tw]
   lia
  ·refine IsA.app (.cons ?_ (tp _ _ hpu) (hb.keep tp2) .nil) (hA.keep tp)
   rw[zj (zi hpa11 h12).symm];exact uX9
  ·rw[Arms.sz_app,Arms.sz,Arms.sz,tw]
   lia
 rintro σ H6 ⟨fx,kp,S6,⟨as,ar,hpa6,hal,hA,hz,hdp,hbn,hsn⟩,v1,v2,v3,v4,rfl⟩;rw[ua]at hal S6 hz;have hl3:fs.length<=3:=by lia
 have hc3:=U0 (CB n) hl3;have hz3:=U0 (SZ n+10) hl3;refine(show ∀(u:TS)(D:Ends),(∀(H':Hp)(as:List Addr)(ar:Arms),Kp st H H'->Sta K H' st (B+(3*CB n+10))->H' pa=some (.lst (as.map V.ref))->IsA H' ar as->0 < as.length->ar.sz<=3*SZ n+30->ar.dp<=n->Bnm o k 900 ar.binds->SndA o (l.map (·.1)) ar->u D [sR st,sR sc,some (.int (k:Nat)),some (.int room),sR w0,some (.int (a:Nat)),some (.int so),some (.str x),sR pa,sR pt,v1,v2,v3,v4] H')->(tSeq _ (tSeq _ u):TS) D _ H6 from ?key) _ _ ?rest
 case key =>
  intro u D tail;refine(zg rfl ⟨st,2,(zg rfl ⟨S6,by lia,by decide,fun H7 r7 k7 S7 _ _=>?_⟩)⟩);have hpa7:=k7.k _ _ npa hpa6;have hA7:=hA.keep (k7.tups S6);have kp7:=kp.trans k7;refine⟨rfl,(zg rfl ?_)⟩;refine ite2 (fun _=>?_) (fun _=>?_)
  ·refine(zg rfl ⟨.inl ⟨rfl,_,SqL.of hpa7⟩,pa,(zg rfl ⟨rfl,hpa7,?_⟩)⟩)
   have tp:Tups H7 (upd H7 pa (.lst (as.map V.ref).reverse)):=fun p xs g=>by rw[zj (yv g hpa7 (by intro e;cases e))];exact g
   exact tail _ as.reverse ar.rev (kp7.put fpa) (Sta.put S0 fpa kp7 (S7.mono (by lia))) (by rw[uX9,List.map_reverse]) ((hA7.rev).keep tp) (by rw[Uz];lia) (by rw[Arms.sz_rev];lia) (by rw[Arms.dp_rev];exact hdp) hbn.rev hsn.rev
  ·exact tail _ as ar kp7 (S7.mono (by lia)) hpa7 hA7 (by lia) (by lia) hdp hbn hsn
 case rest =>
  intro H8 as ar k8 S8 hpa8 hA8 hl8 hz8 hd8 hb8 hs8;refine(zq rfl rfl ⟨pa,(zg rfl (.inl ⟨SqL.of hpa8,fun p9 h9=>⟨sN3,fun t h10=>?_⟩⟩))⟩);refine q _ t (.case x ar) ((k8.new h9).new h10) ((S8.new h9 _).new h10 _) (.case uX9 (old h10 uX9) hl8 ((hA8.keep (.of (zo h9 _))).keep (.of (zo h10 _)))) ?_ ?_ (by rw[Bd.binds];exact hb8) (by rw[SndB];exact⟨hx,hs8⟩)
  ·rw[Bd.sz]
   lia
  ·rw[Bd.dp]
   lia
theorem scBody:FnScope ["_law_state","_law_scope","_law_k","_law_room","_law_world_here","_law_at","_law_way","_law_deed_here","_law_sort","_law_name_here","_law_rooms_here","_law_first"] lS0 (zp Wd):=.ok
theorem zaA(F:Fun K "_law_body" "_law_body" Wd f fd)(GD:Ca P w K mg base CX0 1 "_law_draw" lS5 (spDraw K))(GN':Ca P w K mg base CX0 1 "_law_name" lS14 spNm)(GK:Ca P w K mg base CX0 2 "_law_pick" lS8 (spPick K))(GR:Ca P w K mg base CX0 2 "_law_rooms" lS15 (spRooms K))(GE:Ca P w K mg base CX0 5 "_law_deed" lS10 (spDeed K))(GC:Ca P w K mg base CX0 (7+2*n) "_law_case" lS0 (spCase K n))(GB:Ca P w K mg base CX0 (6+2*n) "_law_body" lS0 (spBody K n)):FnOk P w K mg base CX0 (6+2*(n+1)) f fd lS0 (spBody K (n+1)):=by
 rw[show 6+2*(n+1)=(7+2*n)+1 by lia];refine F.by scBody (fun vs H Q E h=>?_) (fun cdv A outer s H vs Q E hr h=>?_)
 ·obtain⟨st,sc,w,k,a,B,room,l,o,rfl,_⟩:=h
  rfl
 obtain⟨st,sc,w0,k,a,B,room,l,o,rfl,ha,S0,hB,hSc,hW,hme,hln,⟨hkn,hbl⟩,q⟩:=h;have hr1:Room 1 _:=hr.mono (by lia);have hr2:Room 2 _:=hr.mono (by lia);have hr5:Room 5 _:=hr.mono (by lia);have hrB:Room (6+2*n) _:=hr.mono (by lia);refine⟨_,
  (zh (sE 6 scBody.nd (cA GD hr1 (jA2 (jv 0) zt)))
  (zh (zE (jW.pt (vI (tN (VT hr) (jv 1) (zD zL)) (wr (jW.pt (wu (tN zbu (jv 3) zt) (xM (tN zI (jv 6) zt)))))))
   (zk (zv (zB (jA2 zw (cA GK hr2 (jA3 (jv 0) (jv 1) (zn K (xX (zY K) (zQ K (jv 4)) (jv 5))))))))) zx)
  (zh (zE (jW.pt (wu (tN (Xp hr) (jv 1) (zD zL)) (wu (tN zbu (jv 3) zt) (xM (tN jH (jv 6) zt)))))
   (zh (xN (cA GE hr5 (jA4 (jv 0) (jv 1) (jv 4) (jv 5))) (zN K rfl (zu (gN 7 scBody.nd) (zu (gN 8 scBody.nd) zM))))
   (zh (sE 9 scBody.nd (cA GN' hr1 (jA2 (jv 4) (jv 2))))
   (zk (zv (zB (jA4 zw (jv 9) (jv 7) (cA GB hrB (jA6 (jv 0) (zA yz (jv 1) (zD (jA1 (zB (jA2 (jv 9) (jv 8)))))) (zA yy (jv 2) zt) (zA xo (jv 3) zt) (jv 4) (jv 5))))))))) zx)
  (zh (zE (tN jJ (jv 6) zt)
   (zk (zv (cA GC hr (jA6 (jv 0) (jv 1) (jv 2) (jv 3) (jv 4) (jv 5))))) zx)
  (zh (sE 10 scBody.nd (cA GR hr2 (jA3 (jv 0) (jv 3) zt)))
  (zh (sE 11 scBody.nd (cA GB hrB (jA6 (jv 0) (jv 1) (jv 2) (zQ K (jv 10)) (jv 4) (jv 5))))
  (zk (zv (zB (jA4 zw (cA GK hr2 (jA3 (jv 0) (jv 1) zt)) (jv 11) (cA GB hrB (jA6 (jv 0) (jv 1) (jv 2) (zQ K (jv 10)) (jv 4) (jv 5))))))))))))),?_⟩
 have sl:=zO;have LM:LIM=4611686018427387904:=rfl;have cb:CB (n+1)=3*CB n+300:=rfl;have sz:SZ (n+1)=3*SZ n+40:=rfl;rw[cb]at hB q;rw[sz]at q;obtain⟨⟨ts,hsc,hT⟩,scn,scs⟩:=id hSc;have htl:=hT.len;have h0:l=[]↔ts=[]:=by
  rw[<- u5,<- u5,htl]
 refine(show ∀(uG uL uR:TS)(D:Ends),D.rt=Q->(∀(D':Ends)(H':Hp)(r:Int),D'.rt=Q->l≠[]->Kp st H H'->Sta K H' st (B+1)->uG D' [sR st,sR sc,some (.int (k:Nat)),some (.int room),sR w0,some (.int (a:Nat)),some (.int r),none,none,none,none,none] H')->(∀(D':Ends)(H':Hp)(r:Int),D'.rt=Q->(l≠[]->1<=room)->Kp st H H'->Sta K H' st (B+1)->uL D' [sR st,sR sc,some (.int (k:Nat)),some (.int room),sR w0,some (.int (a:Nat)),some (.int r),none,none,none,none,none] H')->(∀(H':Hp)(r:Int),l≠[]->1<=room->Kp st H H'->Sta K H' st (B+1)->uR D [sR st,sR sc,some (.int (k:Nat)),some (.int room),sR w0,some (.int (a:Nat)),some (.int r),none,none,none,none,none] H')->(tSeq _ (tSeq (tIfS _ uG jr) (tSeq (tIfS _ uL jr) uR)):TS) D _ H from ?key) _ _ _ _ rfl ?g ?l ?r
 case key =>
  intro uG uL uR D hD hG hL hR;refine(zg rfl ⟨st,8,B,rfl,S0,by lia,by decide,fun H1 r k1 S1 r0 r1=>?_⟩);refine(zg rfl ⟨sN0,fun pe h2=>?_⟩);have k2:=k1.new (o:=.lst []) h2;have S2:=S1.new h2 (.lst []);have hsc2:=k2.k _ _ (S0.neR hsc) hsc;refine⟨_,_,_,rfl,rfl,SqL.of hsc2,SqL.of uX9,(zg rfl ?_)⟩;show if(if true=true then !(ts.map V.ref).isEmpty else(ts.map V.ref).isEmpty)=true then _ else _
  generalize upd H1 pe (.lst [])=H2 at *;have test3:∀(b:Bool),(ts.map V.ref).isEmpty=b->True:=fun _ _=>trivial;by_cases he:ts=[]
  ·have e0:(ts.map V.ref).isEmpty=true:=by rw[he];rfl
   rw[e0];refine iteF ?_;refine(zg rfl ⟨sN0,fun pe3 h3=>?_⟩);have k3:=k2.new (o:=.lst []) h3;have S3:=S2.new h3 (.lst []);refine⟨_,_,_,rfl,rfl,SqL.of (old h3 hsc2),SqL.of uX9,(zg rfl ?_)⟩;show if(if false=true then !(ts.map V.ref).isEmpty else(ts.map V.ref).isEmpty)=true then _ else _
   rw[e0];exact iteT (hL _ _ r hD (fun e=>absurd (h0.mpr he) e) k3 S3)
  ·have e0:(ts.map V.ref).isEmpty=false:=by
    cases ts with
    |nil=>exact absurd rfl he
    |cons _ _=>rfl
   have hl0:l≠[]:=fun e=>he (h0.mp e);rw[e0];refine iteT ?_;refine(zg rfl (zC rfl rfl (zg rfl ?_)));refine ite2 (fun _=>hG _ _ r hD hl0 k2 S2) (fun c=>?_);rw[decide_eq_true_eq]at c;have hroom:1<=room:=by lia
   refine(zg rfl ⟨rfl,(zg rfl ?_)⟩);refine ite2 (fun _=>hG _ _ r hD hl0 k2 S2) (fun _=>?_);refine(zg rfl ⟨sN0,fun pe3 h3=>?_⟩);have k3:=k2.new (o:=.lst []) h3;have S3:=S2.new h3 (.lst []);refine⟨_,_,_,rfl,rfl,SqL.of (old h3 hsc2),SqL.of uX9,(zg rfl ?_)⟩;show if(if false=true then !(ts.map V.ref).isEmpty else(ts.map V.ref).isEmpty)=true then _ else _
   rw[e0];refine iteF ?_;refine(zg rfl (zC rfl rfl (zg rfl ?_)));refine ite2 (fun _=>hL _ _ r hD (fun _=>hroom) k3 S3) (fun _=>?_);refine(zg rfl (zC rfl rfl (zg rfl ?_)));exact ite2 (fun _=>hL _ _ r hD (fun _=>hroom) k3 S3) (fun _=>hR _ r hl0 hroom k3 S3)
 case g =>
  intro D' H1 r hD hl0 k1 S1;obtain⟨⟨tl,dl,tt,ds,hw,htl1,hdl,hTt,hTd⟩,wok⟩:=hW.kp S0 k1;have dlen:=wok.dlen;have hdl2:=hTd.len;obtain⟨t,ht⟩:∃t,ds[a]?=some t:=⟨_,uh (by lia)⟩;obtain⟨z,ss,g,sq,e1,e2,e3⟩:=hTd.get ht;have htr:(ds.map V.ref)[a]?=some (.ref t):=by rw[ug,ht];rfl
  refine(zq rfl rfl (zg rfl (ixL hw aI3 (zg rfl ⟨dl,_,_,_,rfl,rfl,SqL.of hdl,yB htr,ixT e2 aI2 ⟨st,sc,g,_,l,rfl,S1,by lia,hSc.kp S0 k1,hl0,fun H2 x k2 S2 hx=>⟨sN2,fun t1 h3=>?_⟩⟩⟩))));rw[hD];exact q _ t1 (.give x) ((k1.trans k2).new h3) ((S2.mono (by lia)).new h3 _) (.give uX9) (by rw[Bd.sz];lia) (by rw[Bd.dp];lia) (by rw[Bd.binds];exact Bnm.nil) (by rw[SndB];exact hx)
 case l =>
  intro D' H1 r hD hroom k1 S1;refine(zq rfl rfl (zq rfl rfl ⟨st,sc,w0,_,l,o,a,rfl,ha,S1,by lia,hSc.kp S0 k1,hW.kp S0 k1,fun H2 p p' d g k2 S2 hp hd g0 g1 hcal hu=>?_⟩));refine⟨_,_,rfl,SqT.of hp,rfl,_,_,rfl,_,_,rfl,rfl,?_⟩;have k12:=k1.trans k2;obtain⟨⟨tl,dl,tt,ds,hw,htl1,hdl,hTt,hTd⟩,wok⟩:=hW.kp S0 k12;refine(zq rfl rfl ⟨w0,o.z,o.b,_,k,rfl,hw,wok.z,?_⟩);generalize hy:nm o.z o.b k=y;refine(zq rfl rfl (zq rfl rfl (zq rfl rfl ⟨sN2,fun t1 h3=>⟨sN1,fun pl h4=>?_⟩⟩)));have k3:=k12.new (o:=.tup [.str y,.int g]) h3;have k4:=k3.new (o:=.lst [.ref t1]) h4;refine⟨sc,pl,(zC rfl rfl ⟨k4.k _ _ (S0.neR hsc) hsc,uX9,by rw[ua];show _+1<=_;lia,fun pm h5=>?_⟩)⟩;have em:ts.map V.ref++[V.ref t1]=(ts++[t1]).map V.ref:=by rw[ut];rfl
  rw[em];have k5:=k4.new (o:=.lst ((ts++[t1]).map V.ref)) h5;have S5:=((S2.new h3 (.tup [.str y,.int g])).new h4 (.lst [.ref t1])).new h5 (.lst ((ts++[t1]).map V.ref));have hd5:=(((hd.keep (.of (zo h3 (.tup [.str y,.int g])))).keep (.of (zo h4 (.lst [.ref t1])))).keep (.of (zo h5 (.lst ((ts++[t1]).map V.ref)))));have ht1:=old (o:=.lst ((ts++[t1]).map V.ref)) h5 (old (o:=.lst [.ref t1]) h4 (uX9 (H:=H2) (a:=t1) (o:=.tup [.str y,.int g])));have hpm:=uX9 (H:=upd (upd H2 t1 (.tup [.str y,.int g])) pl (.lst [.ref t1])) (a:=pm) (o:=.lst ((ts++[t1]).map V.ref));generalize upd (upd (upd H2 t1 (.tup [.str y,.int g])) pl (.lst [.ref t1])) pm (.lst ((ts++[t1]).map V.ref))=H5 at *;have sc5:Sc H5 (l++[(y,g)]) pm:=by
   refine⟨⟨ts++[t1],hpm,(hT.keep (k5.tups S0)).app (.cons ht1 .nil)⟩,?_,fun x hx=>?_⟩
   ·rw[uf,uO]
    lia
   ·rcases uy.mp hx with hx|hx
    ·exact scs x hx
    ·rw[uo.mp hx]
     exact⟨g0,g1⟩
  refine(zg rfl (zC rfl rfl (zg rfl (zC rfl rfl (zq rfl rfl ⟨st,pm,w0,k+1,a,_,room-1,l++[(y,g)],o,rfl,ha,S5,by lia,sc5,hW.kp S0 k5,?_,?_,⟨by lia,by rw[ut];exact zcZ hbl hy⟩,fun H6 pb b k6 S6 hb hbz hbd hbb hsb=>⟨sN4,fun t2 h7=>?_⟩⟩)))))
  ·rw[if_neg (by simp)]
   by_cases e:l=[]
   ·rw[if_pos e]at hme
    lia
   ·rw[if_neg e]at hme
    have:=hroom e
    lia
  ·rw[uf,uO]
   lia
  rw[hD];exact q _ t2 (.lt y d b) ((k5.trans k6).new h7) ((S6.mono (by lia)).new h7 _) (.lt uX9 ((hd5.keep (k6.tups S5)).keep (.of (zo h7 _))) (hb.keep (.of (zo h7 _)))) (by rw[Bd.sz];lia) (by rw[Bd.dp];lia) (by rw[Bd.binds];exact fun x hx=>(uk.mp hx).elim (fun e=>⟨k,uj _,by lia,by rw[e,hy]⟩) (hbb.mono (Nat.le_succ _) x)) (by rw[SndB];rw[ut]at hsb;exact⟨⟨hu,zax (by lia) hbl hy,hcal⟩,hsb⟩)
 case r =>
  intro H1 r hl0 hroom k1 S1;rw[if_neg hl0]at hme;refine(zg rfl (zC rfl rfl (zg rfl ?_)));refine ite2 (fun _=>?_) (fun _=>?_)
  ·refine(zq rfl rfl (zq rfl rfl (zq rfl rfl ⟨st,sc,w0,k,a,_,room,l,o,rfl,ha,S1,by lia,hSc.kp S0 k1,hl0,hW.kp S0 k1,hroom,by lia,by lia,⟨by lia,hbl⟩,fun H2 p b k2 S2 hb hbz hbd hbb hsb=>?_⟩)))
   exact q _ p b (k1.trans k2) (S2.mono (by lia)) hb (by lia) hbd hbb hsb
  refine(zq rfl rfl ⟨st,room,2,(zg rfl ⟨hroom,by decide,by decide,S1,by lia,fun H2 pr rs k2 S2 f2 hpr hrl hrs=>?_⟩)⟩);have k12:=k1.trans k2;obtain⟨r1,r2,rfl⟩:∃r1 r2,rs=[r1,r2]:=by
   match rs,hrl with
   |[x,y],_=>exact⟨x,y,rfl⟩
  have hr1':=hrs r1 (by simp);have hr2':=hrs r2 (by simp);refine(zq rfl rfl (zq rfl rfl (ixL hpr aI0 (zq rfl rfl ⟨st,sc,w0,k,a,_,r1,l,o,rfl,ha,S2,by lia,hSc.kp S0 k12,hW.kp S0 k12,?_,by lia,⟨by lia,hbl⟩,fun H3 p1 b1 k3 S3 hb1 hz1 hd1 hn1 hs1=>?_⟩))))
  ·rw[if_neg hl0]
   lia
  have k13:=k12.trans k3;have hpr3:=k3.k _ _ (S2.neI hpr) hpr;refine(zq rfl rfl ⟨st,sc,0,_,l,rfl,S3,by lia,hSc.kp S0 k13,hl0,fun H4 x k4 S4 hx=>?_⟩);have k14:=k13.trans k4;refine(zq rfl rfl (zq rfl rfl (zg rfl (ixL (k4.k _ _ (S3.neI hpr3) hpr3) aI1 (zq rfl rfl ⟨st,sc,w0,k,a,_,r2,l,o,rfl,ha,S4,by lia,hSc.kp S0 k14,hW.kp S0 k14,?_,by lia,⟨by lia,hbl⟩,fun H5 p2 b2 k5 S5 hb2 hz2 hd2 hn2 hs2=>⟨sN4,fun t2 h7=>?_⟩⟩)))))
  ·rw[if_neg hl0]
   lia
  exact q _ t2 (.iff x b1 b2) ((k14.trans k5).new h7) ((S5.mono (by lia)).new h7 _) (.iff uX9 (((hb1.keep (k4.tups S3)).keep (k5.tups S4)).keep (.of (zo h7 _))) (hb2.keep (.of (zo h7 _)))) (by rw[Bd.sz];lia) (by rw[Bd.dp];lia) (by rw[Bd.binds];exact hn1.app hn2) (by rw[SndB];exact⟨hx,hs1,hs2⟩)
structure Df where
 z:Str
 ns:lS
 b:Bd
structure IsF(H:Hp)(d:Df)(p:Addr):Prop where
 ex:∃q pb,H p=some (.tup [.str d.z,.ref q,.ref pb])/\H q=some (.tup (d.ns.map V.str))/\IsB H d.b pb
theorem IsF.keep{d:Df}(h:IsF H d p)(t:Tups H H'):IsF H' d p:=by obtain⟨q,pb,h1,h2,h3⟩:=h.ex;exact⟨q,pb,t _ _ h1,t _ _ h2,h3.keep t⟩
inductive IsFs(H:Hp):List Df->List Addr->Prop
 |nil:IsFs H [] []
 |cons {d:Df} {p:Addr} {ds:List Df} {ps:List Addr}:IsF H d p->IsFs H ds ps->IsFs H (d::ds) (p::ps)
theorem IsFs.keep{d:List Df}{p:List Addr}(h:IsFs H d p)(t:Tups H H'):IsFs H' d p:=by
 induction h with
 |nil=>exact .nil
 |cons a _ ih=>exact .cons (a.keep t) ih
theorem IsFs.app{a b:List Df}{p:List Addr}(h:IsFs H a p)(g:IsFs H b q):IsFs H (a++b) (p++q):=by
 induction h with
 |nil=>exact g
 |cons x _ ih=>exact .cons x ih
theorem IsFs.len{l:List Df}(h:IsFs H l ts):l.length=ts.length:=by
 induction h with
 |nil=>rfl
 |cons _ _ ih=>rw[ui,ui,ih]
theorem IsFs.get{H:Hp}:∀{l:List Df}{ts:List Addr}{i:Nat}{t:Addr},IsFs H l ts->ts[i]?=some t->∃d,l[i]?=some d/\IsF H d t
 |_,_,_,_,.nil,e=>by simp at e
 |_,_,0,_,.cons a _,e=>by
  simp at e
  subst e;exact(zg rfl (a))
 |_,_,i+1,_,.cons _ b,e=>by
  obtain⟨d,h1,h2⟩:=IsFs.get (i:=i) b (by simpa using e);exact⟨d,by simpa using h1,h2⟩
def FOk(n:Nat)(d:Df):Prop:=d.ns.length<=3/\d.b.sz<=SZ n/\d.b.dp<=n
structure FNm(o:Wo)(d:Df):Prop where
 n:d.ns=(uK d.ns.length).map fun i=>nm o.z o.b i
 b:Bnm o d.ns.length 900 d.b.binds
 sn:SndB o d.ns d.b
 s:∃s∈o.defs,s.1=d.z/\s.2.1.length=d.ns.length
inductive spDef(K:ub)(n:Nat)(vs:List V)(H:Hp)(Q:VK)(e_3:XK):Prop
 |mk (st:Addr) (w:Addr) (a:Nat) (B:Nat) (room:Int):(∃o:Wo,vs=[.ref st,.ref w,.int (a:Nat),.int room]/\a < 3/\Sta K H st B/\B+CB n < LIM/\IsW H o w/\room.toNat+2<=n/\10*n<=800/\∀(H':Hp)(p:Addr)(d:Df),Kp st H H'->Sta K H' st (B+CB n)->IsF H' d p->FOk n d/\FNm o d->d.z=nm o.z o.b (2-a)->Q (.ref p) H')->spDef K n vs H Q e_3
def kd(o:Wo):List (Str×Int):=o.tags.map fun t=>(t.1,((t.2.1.length:Nat):Int))
inductive spKinds(vs:List V)(H:Hp)(Q:VK)(e_3:XK):Prop
 |mk (w:Addr):(∃o:Wo,vs=[.ref w]/\IsW H o w/\∀(H':Hp)(p p1 p2:Addr)(t1 t2:List Addr),Same H H'->H' p=some (.tup [.ref p1,.ref p2])->H' p1=some (.tup (t1.map V.ref))->H' p2=some (.tup (t2.map V.ref))->Tps H' ((kd o).take 3) t1->Tps H' ((kd o).drop 3) t2->Q (.ref p) H')->spKinds vs H Q e_3
inductive spProgram(K:ub)(n:Nat)(vs:List V)(H:Hp)(Q:VK)(e_3:XK):Prop
 |mk (st:Addr) (w:Addr) (B:Nat) (room:Int):(∃o:Wo,vs=[.ref st,.ref w,.int room]/\Sta K H st B/\B+3*CB n < LIM/\IsW H o w/\room.toNat+2<=n/\10*n<=800/\∀(H':Hp)(p pk pd p1 p2:Addr)(t1 t2 ds:List Addr)(dfs:List Df),Kp st H H'->Sta K H' st (B+3*CB n)->H' p=some (.tup [.ref pk,.ref pd])->H' pk=some (.tup [.ref p1,.ref p2])->H' p1=some (.tup (t1.map V.ref))->H' p2=some (.tup (t2.map V.ref))->Tps H' ((kd o).take 3) t1->Tps H' ((kd o).drop 3) t2->H' pd=some (.tup (ds.map V.ref))->IsFs H' dfs ds->ds.length=3->(∀d∈dfs,FOk n d/\FNm o d)->dfs.map (·.z)=(uK 3).map (fun k=>nm o.z o.b (2-k))->Q (.ref p) H')->spProgram K n vs H Q e_3
theorem Tps.take{l:List (Str×Int)}(h:Tps H l ts)(n:Nat):Tps H (l.take n) (ts.take n):=by
 induction h generalizing n with
 |nil=>rw[List.take_nil,List.take_nil];exact .nil
 |cons a _ ih =>
  cases n with
  |zero=>exact .nil
  |succ n=>rw[List.take_succ_cons,List.take_succ_cons];exact .cons a (ih n)
theorem Tps.drop{l:List (Str×Int)}(h:Tps H l ts)(n:Nat):Tps H (l.drop n) (ts.drop n):=by
 induction h generalizing n with
 |nil=>rw[List.drop_nil,List.drop_nil];exact .nil
 |cons a b ih =>
  cases n with
  |zero=>exact .cons a b
  |succ n=>rw[List.drop_succ_cons,List.drop_succ_cons];exact ih n
theorem YA{α:Type}{f:α->V}{s:List α}{m:Int}(h:0<=m):cutV (s.map f) (some m) none=(s.drop m.toNat).map f:=by
 unfold cutV;have c2:HT.sIx (s.map f).length (s.map f).length none=(s.map f).length:=rfl;have c1:HT.sIx (s.map f).length 0 (some m)=min m.toNat (s.map f).length:=by
  show(if m < 0 then(m+((s.map f).length:Nat)).toNat else min m.toNat (s.map f).length)=_;rw[if_neg (by lia)]
 rw[c1,c2,List.map_drop];rcases Nat.le_total m.toNat (s.map f).length with c|c
 ·rw[Nat.min_eq_left c]
  exact ur (by simp)
 ·rw[Nat.min_eq_right c,List.drop_of_length_le (uj _),List.drop_of_length_le c]
  exact List.take_nil
theorem JC(F:Fun K "_law_body" "_law_body" Wd f fd):FnOk P w K mg base CX0 (6+2*0) f fd lS0 (spBody K 0):=by
 refine F.by scBody (fun vs H Q E h=>?_) (fun cdv A outer s H vs Q E hr h=>?_)
 ·obtain⟨st,sc,w,k,a,B,room,l,o,rfl,_⟩:=h
  rfl
 ·obtain⟨st,sc,w,k,a,B,room,l,o,rfl,_,_,_,_,_,hme,_⟩:=h
  lia
theorem scDef:FnScope ["_law_state","_law_world_here","_law_at","_law_room","_law_name_here","_law_sorts_here","_law_gives","_law_params"] lS12 (zp sDef):=.ok
theorem zd1:(["_law_state","_law_world_here","_law_at","_law_room","_law_name_here","_law_sorts_here","_law_gives","_law_params","_law_k"]:lS).Nodup:=by decide +kernel
theorem zc1(F:Fun K "_law_def" "_law_def" sDef f fd)(GN':Ca P w K mg base CX0 1 "_law_name" lS14 spNm)(GB:Ca P w K mg base CX0 (6+2*n) "_law_body" lS0 (spBody K n))(m_len:mg "len"=none)(m_range:mg "range"=none)(m_zip:mg "zip"=none)(m_list:mg "list"=none)(m_tuple:mg "tuple"=none):FnOk P w K mg base CX0 (7+2*n) f fd lS12 (spDef K n):=by
 rw[show 7+2*n=(6+2*n)+1 by lia];refine F.by scDef (fun vs H Q E h=>?_) (fun cdv A outer s H vs Q E hr h=>?_)
 ·obtain⟨st,w,a,B,room,o,rfl,_⟩:=h
  rfl
 obtain⟨st,w0,a,B,room,o,rfl,ha,S0,hB,hW,hroom,hn,q⟩:=h;have hr1:Room 1 _:=hr.mono (by lia);refine⟨_,
  (zh (xN (xX (zY K) (zQ K (jv 1)) (jv 2)) (zN K rfl (zu (gN 4 scDef.nd) (zu (gN 5 scDef.nd) (zu (gN 6 scDef.nd) zM)))))
  (zh (yx ["_law_k"] (i:=7) scDef.nd rfl (Or.inl rfl) rfl (yC rfl m_range (jA1 (yu (zF K) rfl m_len Ud (jA1 (jv 5))))) (fun _ _ _ _ _=>(gN 8 zd1)) (fun _ _ _ _ _=>yn) (fun _ _ _ _ _=>(cA GN' hr1 (jA2 (jv 1) (jv 8)))))
  (zk (zv (zB (jA3 (jv 4) (zS (zH K) rfl m_tuple uN (jA1 (jv 7))) (cA GB hr (jA6 (jv 0) (X6 rfl rfl m_list rfl m_zip (jA2 (jv 7) (jv 5))) (yu (zF K) rfl m_len Ud (jA1 (jv 5))) (jv 3) (jv 1) (jv 2))))))))),?_⟩
 have sl:=zO;have LM:LIM=4611686018427387904:=rfl;obtain⟨⟨tl,dl,tt,ds,hw,htl1,hdl,hTt,hTd⟩,wok⟩:=id hW;have dlen:=wok.dlen;have hdl2:=hTd.len;obtain⟨t,ht⟩:∃t,ds[a]?=some t:=⟨_,uh (by lia)⟩;obtain⟨z,ss,g,sq,e1,e2,e3⟩:=hTd.get ht;have wd:ss.length<=3/\So ss/\0<=g/\g<=2:=wok.ds _ (uw e1);have htr:(ds.map V.ref)[a]?=some (.ref t):=by rw[ug,ht];rfl
 refine(zg rfl (ixL hw aI3 (zg rfl ⟨dl,_,_,_,rfl,rfl,SqL.of hdl,yB htr,_,_,rfl,SqT.of e2,rfl,_,_,rfl,_,_,rfl,_,_,rfl,rfl,?_⟩)));refine(zg rfl ⟨_,_,rfl,.inl (SqL.of e3),(zg rfl ⟨by rw[ua];lia,by rw[ua];lia,xf (n:=(ss.map V.int).length) (fun j τ ys H'=>H=H'/\(∃v,τ=[sR st,sR w0,some (.int (a:Nat)),some (.int room),some (.str z),sR sq,some (.int g),none,v])/\ys=((uK j).map fun i=>nm o.z o.b i).map V.str) ⟨rfl,⟨none,rfl⟩,rfl⟩ ?_ ?_⟩)⟩)
 ·rintro j τ ys H7 hj ⟨rfl,⟨v,rfl⟩,rfl⟩
  rw[ua]at hj;refine(zq rfl rfl ⟨w0,o.z,o.b,_,j,(by show[V.ref w0,V.int (0+(j:Nat))]=_;rw[Int.zero_add]),hw,wok.z,by rw[ua,ua,UT];lia,rfl,⟨_,rfl⟩,?_⟩);rw[List.range_succ,ut,ut]
  rfl
 rintro τ ys H7 ⟨rfl,_,rfl⟩ pn hpn;rw[ua];have nl:((uK ss.length).map fun i=>nm o.z o.b i).length=ss.length:=by rw[ua,UT]
 generalize eNS:(uK ss.length).map (fun i=>nm o.z o.b i)=NS at *;refine(zq rfl rfl ⟨pn,(zg rfl (.inl ⟨SqL.of uX9,fun pu hpu=>?_⟩))⟩);have s2:Same H (upd (upd H pn (.lst (NS.map V.str))) pu (.tup (NS.map V.str))):=(zo hpn _).new hpu;have hpn2:=old (o:=.tup (NS.map V.str)) hpu (uX9 (H:=H) (a:=pn) (o:=.lst (NS.map V.str)));have hpu2:=uX9 (H:=upd H pn (.lst (NS.map V.str))) (a:=pu) (o:=.tup (NS.map V.str));generalize upd (upd H pn (.lst (NS.map V.str))) pu (.tup (NS.map V.str))=H2 at *;refine(zq rfl rfl (zg rfl ⟨pn,sq,_,_,rfl,.inl (SqL.of hpn2),.inl (SqL.of (s2 _ _ e3)),fun H3 pz zs s3 f3 hpz hzl _ _ hpair=>?_⟩));have tz:=ZC hzl hpair;have s13:=s2.trans s3;have sc3:Sc H3 (NS.zip ss) pz:=by
  refine⟨⟨zs,hpz,tz⟩,?_,fun p hp=>?_⟩
  ·rw[Ue]
   lia
  ·have:=wd.2.1 p.2 (Uv hp).2
   lia
 refine(zg rfl ⟨_,_,rfl,.inl (SqL.of (s13 _ _ e3)),(zq rfl rfl (zg rfl ⟨st,pz,w0,(ss.map V.int).length,a,B,room,NS.zip ss,o,rfl,ha,S0.same s13,hB,sc3,hW.same s13,?_,?_,⟨by rw[ua];lia,(by rw[ua,List.map_fst_zip (by lia)];intro x hx;rw[<- eNS]at hx;obtain⟨j,hj,rfl⟩:=uu.mp hx;exact⟨j,uM _,Uu.mp hj,rfl⟩)⟩,fun H4 pb b k4 S4 hb hbz hbd hbb hsb=>⟨sN3,fun t4 h5=>?_⟩⟩))⟩)
 ·split<;>lia
 ·rw[Ue]
  lia
 have ez:z=nm o.z o.b (2-a):=by
  have h1:(o.defs.map (·.1))[a]?=some z:=by rw[ug,e1];rfl
  rw[wok.dn,ug,tM ha]at h1;exact(uZ.inj h1).symm
 refine q _ t4 ⟨z,NS,b⟩ (((Kp.of s13).trans k4).new h5) (S4.new h5 _) ⟨pu,pb,uX9,old h5 (k4.tups (S0.same s13) _ _ (s3 _ _ hpu2)),hb.keep (.of (zo h5 _))⟩ ⟨⟨by show NS.length<=3;lia,hbz,hbd⟩,⟨by show NS=(uK NS.length).map _;rw[nl];exact eNS.symm,by show Bnm o NS.length 900 b.binds;rw[ua]at hbb;rw[nl];exact hbb,(by show SndB o NS b;rw[List.map_fst_zip (by lia)]at hsb;exact hsb),⟨_,uw e1,rfl,nl.symm⟩⟩⟩ ez
theorem scKinds:FnScope ["_law_world_here","_law_some"] ["_law_world_here"] (zp Xx):=.ok
theorem ZD:(["_law_world_here","_law_some","_law_tag","_law_sorts_here","_law_kind"]:lS).Nodup:=by decide +kernel
theorem JD(F:Fun K "_law_kinds" "_law_kinds" Xx f fd)(m_len:mg "len"=none)(m_tuple:mg "tuple"=none):FnOk P w K mg base CX0 1 f fd ["_law_world_here"] spKinds:=by
 refine F.by scKinds (fun vs H Q E h=>?_) (fun cdv A outer s H vs Q E hr h=>?_)
 ·obtain⟨w,o,rfl,_⟩:=h
  rfl
 obtain⟨w0,o,rfl,hW,q⟩:=h;refine⟨_,
  (zh (yx ["_law_tag","_law_sorts_here","_law_kind"] (i:=1) scKinds.nd rfl (Or.inl rfl) rfl (zR K (zQ K (jv 0))) (fun _ _ _ _ _=>(zN K (n:=3) rfl (zu (gN 2 ZD) (zu (gN 3 ZD) (zu (gN 4 ZD) zM))))) (fun _ _ _ _ _=>yn) (fun _ _ _ _ _=>(zB (jA2 (jv 2) (yu (zF K) rfl m_len Ud (jA1 (jv 3)))))))
  (zk (zv (zB (jA2 (zS (zH K) rfl m_tuple uN (jA1 (yL (wB K) (jv 1) yW (yX zt)))) (zS (zH K) rfl m_tuple uN (jA1 (yL (wB K) (jv 1) (yX zt) yW)))))))),?_⟩
 have sl:=zO;obtain⟨⟨tl,dl,tt,ds,hw,htl1,hdl,hTt,hTd⟩,wok⟩:=id hW;have tlen:=wok.tlen;have htt:=hTt.len;refine(zg rfl (ixL hw aI2 ⟨tl,rfl,⟨_,SqL.of htl1⟩,ym (xs:=tt.map V.ref) (fun j τ ys H'=>Same H H'/\(∃u v x,τ=[sR w0,none,u,v,x])/\∃ps:List Addr,ys=ps.map V.ref/\Tps H' ((kd o).take j) ps) ⟨Same.refl _,⟨none,none,none,rfl⟩,[],rfl,.nil⟩ (fun j τ ys H' _ h=>SqL.of (h.1 _ _ htl1)) ?_ ?_⟩))
 ·rintro j v τ ys H1 hv ⟨s1,⟨u,v',x,rfl⟩,ps,rfl,hp⟩
  obtain⟨t,ht,rfl⟩:=L2.gM hv;obtain⟨z,ss,g,sq,e1,e2,e3⟩:=hTt.get ht;have hj:j < o.tags.length:=(ud.mp e1).1;have hpl:=hp.len;rw[uq]at hpl;refine⟨_,_,rfl,SqT.of (s1 _ _ e2),rfl,_,_,rfl,_,_,rfl,_,_,rfl,rfl,(zq rfl rfl ⟨_,_,rfl,.inl (SqL.of (s1 _ _ e3)),sN2,fun t1 h2=>⟨?_,s1.new h2,⟨_,_,_,rfl⟩,ps++[t1],by simp,?_⟩⟩)⟩
  ·rw[ua]
   lia
  ·have ek:(kd o)[j]?=some (z,((ss.length:Nat):Int)):=by
    unfold kd;rw[ug,e1]
    rfl
   rw[uD,ek];refine(hp.keep (.of (zo h2 _))).app (.cons ?_ .nil);rw[uX9,ua]
 rintro τ ys H1 ⟨s1,_,ps,rfl,hp⟩ p1 h1;have kl:(kd o).length=4:=by unfold kd;rw[ua];exact tlen
 rw[ua,<- htt,ur (by lia)]at hp;refine(zq rfl rfl ⟨_,_,rfl,SqL.of uX9,fun pa ha=>⟨pa,(zg rfl (.inl ⟨SqL.of uX9,fun pb hb=>?_⟩))⟩⟩);refine(zq rfl rfl ⟨_,_,rfl,SqL.of (old hb (old ha uX9)),fun pc hc=>⟨pc,(zg rfl (.inl ⟨SqL.of uX9,fun pe he=>⟨sN2,fun pf hf=>?_⟩⟩))⟩⟩);rw[Yy (by decide),YA (by decide)]at *;have s2:Same H1 _:=(((((zo h1 (.lst (ps.map V.ref))).new (o:=.lst ((ps.take 3).map V.ref)) ha).new (o:=.tup ((ps.take 3).map V.ref)) hb).new (o:=.lst ((ps.drop 3).map V.ref)) hc).new (o:=.tup ((ps.drop 3).map V.ref)) he).new (o:=.tup [.ref pb,.ref pe]) hf;exact q _ pf pb pe (ps.take 3) (ps.drop 3) (s1.trans s2) uX9 (old hf (old he (old hc uX9))) (old hf uX9) ((hp.keep (.of s2)).take 3) ((hp.keep (.of s2)).drop 3)
theorem W3:FnScope lS11 lS11 (zp vS):=.ok
theorem W4:(["_law_state","_law_world_here","_law_room","_law_at"]:lS).Nodup:=by decide +kernel
theorem XH(F:Fun K "_law_program" "_law_program" vS f fd)(GKs:Ca P w K mg base CX0 1 "_law_kinds" ["_law_world_here"] spKinds)(GF:Ca P w K mg base CX0 (7+2*n) "_law_def" lS12 (spDef K n))(m_range:mg "range"=none)(m_tuple:mg "tuple"=none):FnOk P w K mg base CX0 (8+2*n) f fd lS11 (spProgram K n):=by
 rw[show 8+2*n=(7+2*n)+1 by lia];refine F.by W3 (fun vs H Q E h=>?_) (fun cdv A outer s H vs Q E hr h=>?_)
 ·obtain⟨st,w,B,room,o,rfl,_⟩:=h
  rfl
 obtain⟨st,w0,B,room,o,rfl,S0,hB,hW,hroom,hn,q⟩:=h;have hr1:Room 1 _:=hr.mono (by lia);refine⟨_,
  (zk (zv (zB (jA2 (cA GKs hr1 (jA1 (jv 1))) (zS (zH K) rfl m_tuple uN (jA1 (yf ["_law_at"] rfl (yC rfl m_range (jA1 zt)) (fun _ _ _ _ _=>(gN 3 W4)) (fun _ _ _ _ _=>yn) (fun _ _ _ _ _=>(cA GF hr (jA4 (jv 0) (jv 1) (jv 3) (jv 2))))))))))),?_⟩
 have sl:=zO;have LM:LIM=4611686018427387904:=rfl;refine(zg rfl ⟨w0,o,rfl,hW,fun H1 pk p1 p2 t1 t2 s1 hpk hp1 hp2 hk1 hk2=>?_⟩);refine(zg rfl ⟨by decide,by decide,xf (n:=3) (fun i τ ys H'=>Kp st H1 H'/\Sta K H' st (B+i*CB n)/\(∃x,τ=[sR st,sR w0,some (.int room),x])/\∃(ps:List Addr)(dfs:List Df),ys=ps.map V.ref/\ps.length=i/\IsFs H' dfs ps/\(∀d∈dfs,FOk n d/\FNm o d)/\dfs.map (·.z)=(uK i).map (fun k=>nm o.z o.b (2-k))) ⟨Kp.refl,(S0.same s1).mono (by lia),⟨none,rfl⟩,[],[],rfl,rfl,.nil,(fun d hd=>by cases hd),rfl⟩ ?_ ?_⟩)
 ·rintro i τ ys H2 hi ⟨k2,S2,⟨x,rfl⟩,ps,dfs,rfl,hl,hF,hok,hnm⟩
  have hb:i*CB n+CB n<=3*CB n:=by
   have:=U0 (CB n) (show i+1<=3 by lia)
   rw[tw]at this;lia
  refine(zq rfl rfl (zq rfl rfl ⟨st,w0,i,_,room,o,(by show[V.ref st,V.ref w0,V.int (0+(i:Nat)),V.int room]=_;rw[Int.zero_add]),hi,S2,by lia,(hW.same s1).kp (S0.same s1) k2,hroom,hn,fun H3 p d k3 S3 hd hdk hdz=>⟨by rw[ua];lia,k2.trans k3,S3.mono (by rw[tw];lia),⟨_,rfl⟩,ps++[p],dfs++[d],by simp,by simp[hl],(hF.keep (k3.tups S2)).app (.cons hd .nil),(fun e he=>?_),by rw[List.range_succ,ut,ut,hnm];show _++[d.z]=_++[_];rw[hdz]⟩⟩));rcases uy.mp he with he|he
  ·exact hok e he
  ·rw[uo.mp he]
   exact hdk
 rintro τ ys H2 ⟨k2,S2,_,ps,dfs,rfl,hl,hF,hok,hnm⟩ p3 h3;refine⟨p3,(zg rfl (.inl ⟨SqL.of uX9,fun p4 h4=>⟨sN2,fun p5 h5=>?_⟩⟩))⟩;have s25:Same H2 _:=((zo h3 (.lst (ps.map V.ref))).new (o:=.tup (ps.map V.ref)) h4).new (o:=.tup [.ref pk,.ref p4]) h5;have tp:Tups H1 _:=(k2.tups (S0.same s1)).trans (.of s25);exact q _ p5 pk p4 p1 p2 t1 t2 ps dfs (((Kp.of s1).trans k2).trans (.of s25)) (S2.same s25) uX9 (tp _ _ hpk) (tp _ _ hp1) (tp _ _ hp2) (hk1.keep tp) (hk2.keep tp) (old h5 uX9) (hF.keep (.of s25)) hl hok hnm
end
end GN
variable{dfs:List GN.Df}
namespace L2
open PySem PySem.Spec PyProof.Rows
theorem YB:∀{xs:List V}{us:List Value},xs.length=us.length->(∀(j:Nat) x u,xs[j]?=some x->us[j]?=some u->RelV x u)->Vals xs us
 |[],[],_,_=>.nil
 |[],_::_,h,_=>by simp at h
 |_::_,[],h,_=>by simp at h
 |x::xs,u::us,h,g=>.cons (g 0 x u rfl rfl) (YB (by simpa using h) fun j a b h1 h2=>g (j+1) a b (by simpa using h1) (by simpa using h2))
def JE:List V->Hp->VK->Prop:=fun xs H Q=>∃d kvs,xs=[.ref d]/\H d=some (.dK kvs)/\∀l,H l=none->Q (.ref l) (upd H l (.lst (kvs.map fun kv=>kV kv.1)))
theorem vX(hc:X.calm=true):xH X (.type "list") JE:=by
 intro pins s σ H xs us Q I r h;obtain⟨d,kvs,rfl,hd,q⟩:=h;obtain⟨u,rfl,rx⟩:=jt r;cases rx;obtain⟨z,hs,ws,rel,dd⟩:=vP I.hok hd;obtain⟨ep,da⟩:=dd.dictAt;have wl:=rel.length;refine PySem.W.kdl_call (PySem.W.kdl_dict (knd:=zU X.prog X.w) (kvs:=ws) (ep:=ep) hs) (I.ok.hd hc) da (by lia) fun h' tk acc c hk hS hacc=>?_;obtain⟨a1,a2⟩:=hacc;refine⟨.ref s.heap.objs.size,_,I.laid (t':=tk) hk (uj _) (show ObjOk X.prog X.w _ h' _ (.lst (kvs.map fun kv=>kV kv.1))from⟨by rw[ua];exact z,acc.toList,c,?_,by rw[Array.toArray_toList];exact hS⟩),rfl,q _ (I.hok.fresh (uj _))⟩;have al:acc.toList.length=acc.size:=Array.length_toList;refine YB (by rw[ua,al];lia) fun j x v h1 h2=>?_;obtain⟨k,y,e1,e2⟩:=a2 j v (by rw[<- Array.getElem?_toList];exact h2);obtain⟨y',e3,_⟩:=rel.get e1;rw[ug,e3]at h1;cases h1;exact zbE e2
theorem ZE(hc:X.calm=true):jCa X (.type "list") JE:=⟨vX hc⟩
end L2
namespace GN
open PySem L2 K11
variable{p:List Addr}
mutual
theorem Bd.binds_len:∀b:Bd,b.binds.length<=b.sz
 |.give _=>by unfold Bd.binds Bd.sz;decide
 |.lt x d b=>by unfold Bd.binds Bd.sz;have:=Bd.binds_len b;rw[ui];lia
 |.iff x a b=>by unfold Bd.binds Bd.sz;have:=Bd.binds_len a;have:=Bd.binds_len b;rw[uf];lia
 |.case x as=>by unfold Bd.binds Bd.sz;have:=Arms.binds_len as;lia
theorem Arms.binds_len:∀a:Arms,a.binds.length<=a.sz
 |.nil=>by unfold Arms.binds Arms.sz;decide
 |.cons t ns b r=>by unfold Arms.binds Arms.sz;have:=Bd.binds_len b;have:=Arms.binds_len r;rw[uf,uf];lia
end
def once(acc:lS):lS->lS
 |[]=>acc
 |x::r=>once (if x∈acc then acc else acc++[x]) r
theorem vY:∀(a b acc:lS),once acc (a++b)=once (once acc a) b
 |[],b,acc=>rfl
 |x::a,b,acc=>by
  show once (if x∈acc then acc else acc++[x]) (a++b)=once (once (if x∈acc then acc else acc++[x]) a) b;exact vY a b _
theorem W5{l:lS}{acc:lS}(h:l[i]?=some x):once acc (l.take (i+1))=if x∈once acc (l.take i)then once acc (l.take i)else once acc (l.take i)++[x]:=by
 rw[uD,h,vY]
 rfl
theorem vZ:∀(l acc:lS),(once acc l).length<=acc.length+l.length
 |[],acc=>uj _
 |x::r,acc=>by
  unfold once
  have:=vZ r (if x∈acc then acc else acc++[x])
  rw[ui];split at this
  ·split
   ·lia
   ·contradiction
  ·split
   ·contradiction
   ·rw[uf,uO]at this
    lia
abbrev Wy:=List (lS×Bd)
inductive IsY(H:Hp):Wy->List Addr->Prop
 |nil:IsY H [] []
 |cons {ns:lS} {b:Bd} {p q r:Addr} {l:Wy} {ps:List Addr}:H p=some (.tup [.ref q,.ref r])->H q=some (.tup (ns.map V.str))->IsB H b r->IsY H l ps->IsY H ((ns,b)::l) (p::ps)
theorem IsY.keep{l:Wy}(h:IsY H l p)(t:Tups H H'):IsY H' l p:=by
 induction h with
 |nil=>exact .nil
 |cons a b c _ ih=>exact .cons (t _ _ a) (t _ _ b) (c.keep t) ih
theorem IsY.app{a b:Wy}(h:IsY H a p)(g:IsY H b q):IsY H (a++b) (p++q):=by
 induction h with
 |nil=>exact g
 |cons x y z _ ih=>exact .cons x y z ih
theorem IsY.len{l:Wy}(h:IsY H l p):l.length=p.length:=by
 induction h with
 |nil=>rfl
 |cons _ _ _ _ ih=>rw[ui,ui,ih]
def Arms.ways:Arms->Wy
 |.nil=>[]
 |.cons _ ns b r=>(ns,b)::r.ways
def Bd.ways:Bd->Wy
 |.give _=>[]
 |.lt x _ b=>[([x],b)]
 |.iff _ a b=>[([],a),([],b)]
 |.case _ as=>as.ways
def pend(l:Wy):lS:=l.flatMap fun p=>p.1++p.2.binds
theorem Arms.pend:∀as:Arms,GN.pend as.ways=as.binds
 |.nil=>by unfold Arms.ways Arms.binds;rfl
 |.cons t ns b r=>by
  unfold Arms.ways Arms.binds GN.pend;rw[List.flatMap_cons]
  have:=Arms.pend r
  unfold GN.pend at this;rw[this,UA]
theorem Bd.pend(b:Bd):GN.pend b.ways=b.binds:=by
 cases b with
 |give x=>unfold Bd.ways Bd.binds;rfl
 |lt x d b=>unfold Bd.ways Bd.binds GN.pend;simp
 |iff x a b=>unfold Bd.ways Bd.binds GN.pend;simp
 |case x as=>unfold Bd.ways Bd.binds;exact Arms.pend as
def wsz(l:Wy):Nat:=(l.map fun p=>p.2.sz).sum
theorem Arms.wsz:∀as:Arms,GN.wsz as.ways<=as.sz
 |.nil=>by unfold Arms.ways Arms.sz GN.wsz;decide
 |.cons t ns b r=>by
  unfold Arms.ways Arms.sz GN.wsz
  have:=Arms.wsz r
  unfold GN.wsz at this;rw[uC,Uy];show b.sz+_<=_;lia
theorem Bd.wsz(b:Bd):GN.wsz b.ways < b.sz:=by
 cases b with
 |give x=>rw[Bd.sz];show(0:Nat) < 1;decide
 |lt x d b=>rw[Bd.sz];show b.sz+0 < b.sz+1;lia
 |iff x a b=>rw[Bd.sz];show a.sz+(b.sz+0) < a.sz+b.sz+1;lia
 |case x as=>rw[Bd.sz];have:=Arms.wsz as;show GN.wsz as.ways < as.sz+1;lia
theorem vt(a b:Wy):wsz (a++b)=wsz a+wsz b:=by unfold wsz;rw[ut,List.sum_append]
theorem YC(a b:Wy):pend (a++b)=pend a++pend b:=by unfold pend;rw[List.flatMap_append]
theorem IsA.get{H:Hp}:∀{as:Arms}{ps:List Addr}{i:Nat}{p:Addr},IsA H as ps->ps[i]?=some p->∃t q r ns b,as.ways[i]?=some (ns,b)/\H p=some (.tup [.str t,.ref q,.ref r])/\H q=some (.tup (ns.map V.str))/\IsB H b r
 |_,_,_,_,.nil,e=>by simp at e
 |_,_,0,_,.cons a b c _,e=>by
  simp at e
  subst e;exact⟨_,_,_,_,_,by unfold Arms.ways;rfl,a,b,c⟩
 |_,_,i+1,_,.cons _ _ _ d,e=>by
  obtain⟨t,q,r,ns,b,h1,h2⟩:=IsA.get (i:=i) d (by simpa using e);exact⟨t,q,r,ns,b,by unfold Arms.ways;simpa using h1,h2⟩
theorem IsA.len{H:Hp}:∀{as:Arms}{ps:List Addr},IsA H as ps->as.ways.length=ps.length
 |_,_,.nil=>by unfold Arms.ways;rfl
 |_,_,.cons _ _ _ d=>by unfold Arms.ways;rw[ui,ui,IsA.len d]
theorem Wg:∀a:Arms,a.ways.length<=a.sz
 |.nil=>by unfold Arms.ways Arms.sz;decide
 |.cons t ns b r=>by
  unfold Arms.ways Arms.sz
  have:=Wg r
  rw[ui];lia
inductive spWays(vs:List V)(H:Hp)(Q:VK)(e_3:XK):Prop
 |mk (p:Addr):(∃b:Bd,vs=[.ref p]/\IsB H b p/\b.sz<=1000000/\∀(H':Hp)(r:Addr)(ps:List Addr),Same H H'->H r=none->H' r=some (.lst (ps.map V.ref))->IsY H' b.ways ps->Q (.ref r) H')->spWays vs H Q e_3
theorem zc2:FnScope ["body"] ["body"] (zp Jk):=.ok
theorem zc3:(["body","arm"]:lS).Nodup:=by decide +kernel
theorem zaB(F:Fun K "ways_on" "ways_on" Jk f fd):FnOk P w K mg base CX0 1 f fd ["body"] spWays:=by
 refine F.by zc2 (fun vs H Q E h=>?_) (fun cdv A outer s H vs Q E hr h=>?_)
 ·obtain⟨p,b,rfl,_⟩:=h
  rfl
 obtain⟨p,b,rfl,hb,hz,q⟩:=h;refine⟨_,
  (zh (zE (tN zI (zn K (jv 0)) zw)
   (zk (zv (zD zL))) zx)
  (zh (zE (tN zI (zn K (jv 0)) zw)
   (zk (zv (zD (jA2 (zB (jA2 (zB zL) (zn K (jv 0)))) (zB (jA2 (zB zL) (zn K (jv 0)))))))) zx)
  (zh (zE (tN zI (zn K (jv 0)) zw)
   (zk (zv (yf ["arm"] rfl (yH K (zn K (jv 0))) (fun _ _ _ _ _=>(gN 1 zc3)) (fun _ _ _ _ _=>yn) (fun _ _ _ _ _=>(zB (jA2 (zn K (jv 1)) (xX (wA K) (jv 1) (wg zt)))))))) zx)
  (zh (zE (Zn K (zn K (jv 0)) (zB (jA2 zw zw)))
   (zk (zv (zD (jA1 (zB (jA2 (zB (jA1 (zn K (jv 0)))) (xX (wA K) (jv 0) (wg zt)))))))) zx)
  (zk (zv (zD (jA1 (zB (jA2 (zB zL) (xX (wA K) (jv 0) (wg zt)))))))))))),?_⟩
 have sl:=zO;cases hb with
 |@give x _ hp =>
  refine(zg rfl ⟨p,_,_,_,rfl,rfl,SqT.of hp,aI0,rfl,(zg rfl ?_)⟩);refine ite2 (fun _=>?_) aB;refine⟨sN0,fun r hr=>q _ r [] (zo hr _) hr uX9 ?_⟩;unfold Bd.ways;exact .nil
 |@iff x a b _ p1 p2 hp ha hb =>
  refine(zg rfl ⟨p,_,_,_,rfl,rfl,SqT.of hp,aI0,rfl,(zg rfl ?_)⟩);refine ite2 aB (fun _=>?_);refine(zg rfl ⟨p,_,_,_,rfl,rfl,SqT.of hp,aI0,rfl,(zg rfl ?_)⟩);refine ite2 (fun _=>?_) aB;refine⟨sN0,fun t1 h1=>(zg rfl ⟨p,_,_,_,rfl,rfl,SqT.of (old h1 hp),aI2,sN2,fun t2 h2=>⟨sN0,fun t3 h3=>(zg rfl ⟨p,_,_,_,rfl,rfl,SqT.of (old h3 (old h2 (old h1 hp))),aI3,sN2,fun t4 h4=>⟨sN2,fun t5 h5=>?_⟩⟩)⟩⟩)⟩;have s4:Same H _:=(((zo h1 (.tup [])).new (o:=.tup [.ref t1,.ref p1]) h2).new (o:=.tup []) h3).new (o:=.tup [.ref t3,.ref p2]) h4;have s5:=s4.new (o:=.lst [.ref t2,.ref t4]) h5;refine q _ t5 [t2,t4] s5 (s4.free h5) uX9 ?_;unfold Bd.ways;exact .cons (old h5 (old h4 (old h3 uX9))) (old h5 (old h4 (old h3 (old h2 uX9)))) (ha.keep (.of s5)) (.cons (old h5 uX9) (old h5 (old h4 uX9)) (hb.keep (.of s5)) .nil)
 |@case x as ps _ p1 hp hp1 hl0 hA =>
  refine(zg rfl ⟨p,_,_,_,rfl,rfl,SqT.of hp,aI0,rfl,(zg rfl ?_)⟩);refine ite2 aB (fun _=>?_);refine(zg rfl ⟨p,_,_,_,rfl,rfl,SqT.of hp,aI0,rfl,(zg rfl ?_)⟩);refine ite2 aB (fun _=>?_);refine(zg rfl ⟨p,_,_,_,rfl,rfl,SqT.of hp,aI0,rfl,(zg rfl ?_)⟩);refine ite2 (fun _=>?_) aB;have hl:=hA.len;have hsz:as.ways.length<=1000000:=by
   have e:∀a:Arms,a.ways.length<=a.sz:=by
    intro a;exact Wg a
   have:=e as
   rw[Bd.sz]at hz;lia
  refine(zg rfl ⟨p,_,_,_,rfl,rfl,SqT.of hp,aI2,p1,rfl,⟨_,SqT.of hp1⟩,Zl (xs:=ps.map V.ref) (fun j τ ys H'=>Same H H'/\(∃v,τ=[sR p,v])/\∃rs:List Addr,ys=rs.map V.ref/\IsY H' (as.ways.take j) rs) ⟨Same.refl _,⟨none,rfl⟩,[],rfl,.nil⟩ (fun j τ ys H' _ h=>SqT.of (h.1 _ _ hp1)) ?_ ?_⟩)
  ·rintro j v τ ys H1 hv ⟨s1,⟨v',rfl⟩,rs,rfl,hy⟩
   obtain⟨pa,hpa,rfl⟩:=L2.gM hv;obtain⟨t,q1,r1,ns,b,e1,e2,e3,e4⟩:=hA.get hpa;have hj:j < as.ways.length:=(ud.mp e1).1;have hyl:=hy.len;rw[uq]at hyl;refine(zg rfl ⟨pa,_,_,_,rfl,rfl,SqT.of (s1 _ _ e2),aI1,(zq rfl rfl ⟨pa,_,_,_,rfl,rfl,SqT.of (s1 _ _ e2),rfl,sN2,fun t1 h1=>⟨by rw[ua];lia,s1.new h1,⟨_,rfl⟩,rs++[t1],by simp,?_⟩⟩)⟩);rw[uD,e1];exact(hy.keep (.of (zo h1 _))).app (.cons uX9 (old h1 (s1 _ _ e3)) (e4.keep (.of (s1.new h1))) .nil)
  ·rintro τ ys H1 ⟨s1,_,rs,rfl,hy⟩ r hr
   rw[ua,<- hl,ur (uj _)]at hy;refine q _ r rs (s1.new hr) (s1.free hr) uX9 ?_;unfold Bd.ways;exact hy.keep (.of (zo hr _))
 |@lt x d b _ p1 p2 hp hd hb =>
  refine(zg rfl ⟨p,_,_,_,rfl,rfl,SqT.of hp,aI0,rfl,(zg rfl ?_)⟩);refine ite2 aB (fun _=>?_);refine(zg rfl ⟨p,_,_,_,rfl,rfl,SqT.of hp,aI0,rfl,(zg rfl ?_)⟩);refine ite2 aB (fun _=>?_);refine(zg rfl ⟨p,_,_,_,rfl,rfl,SqT.of hp,aI0,rfl,(zg rfl ?_)⟩);refine ite2 aB (fun _=>?_);refine(zg rfl ⟨p,_,_,_,rfl,rfl,SqT.of hp,aI0,sN2,fun t0 h0=>?_⟩);refine⟨t0,(zg rfl ⟨.inr (SqT.of uX9),rfl,rfl,(zg rfl ?_)⟩)⟩;refine ite2 (fun _=>?_) (fun c=>absurd (show(if false=true then !inV (V.str "let") [V.str "let",V.str "hold"]else inV (V.str "let") [V.str "let",V.str "hold"])=true by decide) c);have hp0:=old (o:=.tup [.str "let",.str "hold"]) h0 hp;refine(zg rfl ⟨p,_,_,_,rfl,rfl,SqT.of hp0,aI1,sN1,fun t1 h1=>(zq rfl rfl ⟨p,_,_,_,rfl,rfl,SqT.of (old h1 hp0),rfl,sN2,fun t2 h2=>⟨sN1,fun t3 h3=>?_⟩⟩)⟩);have s2:Same H _:=((zo h0 (.tup [.str "let",.str "hold"])).new (o:=.tup [.str x]) h1).new (o:=.tup [.ref t1,.ref p2]) h2;have s3:=s2.new (o:=.lst [.ref t2]) h3;refine q _ t3 [t2] s3 (s2.free h3) uX9 ?_;unfold Bd.ways;exact .cons (old h3 uX9) (old h3 (old h2 uX9)) (hb.keep (.of s3)) .nil
def dif(m n:Nat):Nat:=m-(m &&& n)
theorem and2(m n:Nat):(m &&& n) / 2=m / 2 &&& n / 2/\(m &&& n) % 2=m % 2*(n % 2):=by
 refine⟨Nat.and_div_two,?_⟩;rw[Nat.and_mod_two_pow (n:=1)];rcases(show m % 2=0\/m % 2=1 by lia)with e|e<;>rcases(show n % 2=0\/n % 2=1 by lia)with g|g<;>(show m % 2 &&& n % 2=_)<;>rw[e,g]<;>decide
theorem wK:∀(i m n:Nat),(dif m n).testBit i=(m.testBit i && !n.testBit i)
 |0,m,n=>by
  have h:=and2 m n;have hle:(m &&& n)<=m:=Nat.and_le_left;unfold dif;rw[Nat.testBit_zero,Nat.testBit_zero,Nat.testBit_zero];rcases(show m % 2=0\/m % 2=1 by lia)with e|e<;>rcases(show n % 2=0\/n % 2=1 by lia)with g|g<;>rw[e,g]at h<;>simp[e,g]<;>lia
 |i+1,m,n=>by
  have h:=and2 m n;have hle:(m &&& n)<=m:=Nat.and_le_left;have hle2:(m / 2 &&& n / 2)<=m / 2:=Nat.and_le_left;rw[tH,tH,tH,<- wK i (m / 2) (n / 2)]
  congr 1
  unfold dif;rcases(show m % 2=0\/m % 2=1 by lia)with e|e<;>rcases(show n % 2=0\/n % 2=1 by lia)with g|g<;>rw[e,g]at h<;>lia
theorem ZG(m n:Nat):Builtin.bitOr (m:Int) (n:Int)=((m ||| n:Nat):Int):=by
 unfold Builtin.bitOr;have h1:¬ 0<=Builtin.bitNot (m:Int):=by unfold Builtin.bitNot;lia
 have h2:¬ 0<=Builtin.bitNot (n:Int):=by unfold Builtin.bitNot;lia
 have e:∀x:Int,Builtin.bitNot (Builtin.bitNot x)=x:=fun x=>by unfold Builtin.bitNot;lia
 rw[PyProof.Rows.bitAnd_nn h1 h2,e,e,e]
 rfl
theorem JF(m n:Nat):Builtin.bitAnd (m:Int) (Builtin.bitNot (n:Int))=((dif m n:Nat):Int):=by
 rw[PyProof.Rows.bitAnd_not,PyProof.Rows.bitAnd_pp (tS m) (tS n)];have hle:(m &&& n)<=m:=Nat.and_le_left;unfold dif;rw[US,US];lia
def bitN:lS->Str->Nat
 |[],_=>0
 |y::r,x=>if y=x then 1 else 2*bitN r x
theorem YD{x:Str}:∀{ns:lS},x∉ns->bitN ns x=0
 |[],_=>rfl
 |y::r,h=>by
  unfold bitN;rw[if_neg (fun e:y=x=>h (e ▸ Uk)),YD (fun z=>h (.tail _ z))]
theorem zaC:∀i:Nat,(1:Nat).testBit i=decide (i=0)
 |0=>rfl
 |i+1=>by
  rw[tH];simp
theorem zaD(m i:Nat):(2*m).testBit (i+1)=m.testBit i:=by
 rw[tH]
 congr 1
 lia
theorem JG(m:Nat):(2*m).testBit 0=false:=by
 rw[Nat.testBit_zero];simp
theorem wL{x:Str}:∀{ns:lS}{i:Nat},ns.Nodup->(bitN ns x).testBit i=decide (ns[i]?=some x)
 |[],i,_=>by unfold bitN;simp
 |y::r,i,nd=>by
  obtain⟨h1,h2⟩:=uX.mp nd;unfold bitN;by_cases e:y=x
  ·rw[if_pos e,zaC]
   cases i with
   |zero=>simp[e]
   |succ i =>
    simp
    intro z;exact h1 (e ▸ uw z)
  ·rw[if_neg e]
   cases i with
   |zero=>rw[JG];simp[e]
   |succ i=>rw[zaD,wL h2];simp
def tog(ns xs:lS):Nat:=xs.foldl (fun f x=>f ||| bitN ns x) 0
theorem YE{ns:lS}(nd:ns.Nodup)(i:Nat):∀(xs:lS)(f:Nat),(xs.foldl (fun f x=>f ||| bitN ns x) f).testBit i=(f.testBit i || decide (∃x∈xs,ns[i]?=some x))
 |[],f=>by simp
 |x::r,f=>by
  rw[UI,YE nd i r,UR,wL nd,Bool.or_assoc]
  congr 1
  rw[<- Bool.decide_or]
  congr 1
  simp
theorem xB(nd:ns.Nodup)(i:Nat)(xs:lS):(tog ns xs).testBit i=decide (∃x∈xs,ns[i]?=some x):=by
 unfold tog;rw[YE nd];simp
def yE:lS->Nat->List (Key×V)
 |[],_=>[]
 |x::r,b=>(.inr x,.int (b:Nat))::yE r (b+b)
theorem xZ{x:Str}:∀{ns:lS}{b:Nat},valV (yE ns b) (.inr x)=if x∈ns then some (.int ((b*bitN ns x:Nat):Int))else none
 |[],b=>rfl
 |y::r,b=>by
  unfold yE bitN;by_cases e:y=x
  ·rw[yo (by rw[e]),if_pos (by rw[e];exact .head _),if_pos e,Nat.mul_one]
  ·rw[yp (fun z=>e (Sum.inr.inj z)),xZ,if_neg e]
   have e':¬ x=y:=fun z=>e z.symm;by_cases c:x∈r
   ·rw[if_pos c,if_pos (.tail _ c)]
    congr 3
    rw[tw,Nat.mul_left_comm,Nat.two_mul]
   ·rw[if_neg c,if_neg (by simp[e',c])]
theorem jP:∀(a:lS)(x:Str)(b:Nat),yE (a++[x]) b=yE a b++[(.inr x,.int ((b*2 ^ a.length:Nat):Int))]
 |[],x,b=>by show[_]=[_];rw[List.length_nil,Nat.pow_zero,Nat.mul_one]
 |y::a,x,b=>by
  show _::yE (a++[x]) (b+b)=_::(yE a (b+b)++_);rw[jP a x (b+b),ui,Nat.pow_succ,show(b+b)*2 ^ a.length=b*(2 ^ a.length*2) by rw[<- Nat.two_mul,Nat.mul_comm 2 b,Nat.mul_assoc,Nat.mul_comm 2]]
theorem jQ:∀(a:lS)(b:Nat),(yE a b).length=a.length
 |[],_=>rfl
 |_::a,b=>by show(yE a (b+b)).length+1=_;rw[jQ a];rfl
def Bd.used:Bd->lS
 |.give x=>[x]
 |.lt _ d _=>d.uses
 |.iff x _ _=>[x]
 |.case x _=>[x]
mutual
def Bd.mk(ns:lS):Bd->Nat
 |.give x=>0 ||| tog ns [x]
 |.lt x d b=>(0 ||| dif (b.mk ns) (tog ns [x])) ||| tog ns d.uses
 |.iff x a b=>((0 ||| dif (a.mk ns) (tog ns [])) ||| dif (b.mk ns) (tog ns [])) ||| tog ns [x]
 |.case x as=>Arms.mk ns as 0 ||| tog ns [x]
def Arms.mk(ns:lS):Arms->Nat->Nat
 |.nil,f=>f
 |.cons _ xs b r,f=>Arms.mk ns r (f ||| dif (b.mk ns) (tog ns xs))
end
def accW(ns:lS)(l:Wy)(f:Nat):Nat:=l.foldl (fun f w=>f ||| dif (w.2.mk ns) (tog ns w.1)) f
theorem Arms.mk_ways(ns:lS):∀(as:Arms)(f:Nat),Arms.mk ns as f=accW ns as.ways f
 |.nil,f=>by unfold Arms.mk Arms.ways accW;rfl
 |.cons t xs b r,f=>by
  unfold Arms.mk Arms.ways accW;rw[UI];exact Arms.mk_ways ns r _
theorem Bd.mk_ways(ns:lS)(b:Bd):b.mk ns=accW ns b.ways 0 ||| tog ns b.used:=by
 cases b with
 |give x=>unfold Bd.mk Bd.ways Bd.used accW;rfl
 |lt x d b=>rw[Bd.mk];rfl
 |iff x a b=>rw[Bd.mk];rfl
 |case x as=>rw[Bd.mk,Arms.mk_ways];rfl
mutual
def Bd.fr(x:Str):Bd->Prop
 |.give y=>x=y
 |.lt y d b=>(b.fr x/\x≠y)\/x∈d.uses
 |.iff y a b=>(a.fr x\/b.fr x)\/x=y
 |.case y as=>as.fr x\/x=y
def Arms.fr(x:Str):Arms->Prop
 |.nil=>False
 |.cons _ xs b r=>(b.fr x/\x∉xs)\/r.fr x
end
section
variable(nd:ns.Nodup)(i:Nat)
include nd
mutual
theorem Bd.mk_bit:∀b:Bd,((b.mk ns).testBit i=true)↔∃x,ns[i]?=some x/\b.fr x
 |.give y=>by
  rw[Bd.mk,UR,xB nd];simp[Bd.fr]
 |.lt y d b=>by
  have ih:=Bd.mk_bit b;rw[Bd.mk,UR,UR,xB nd,wK,xB nd];simp only[tI,tQ,U6,uJ,Bool.not_eq_true',decide_eq_true_eq,decide_eq_false_iff_not,ih,uo,Bd.fr]
  constructor
  ·rintro(⟨⟨x,h1,h2⟩,h3⟩|⟨x,h1,h2⟩)
   ·exact⟨x,h1,.inl ⟨h2,fun e=>h3 ⟨y,rfl,by rw[h1,e]⟩⟩⟩
   ·exact⟨x,h2,.inr h1⟩
  ·rintro⟨x,h1,⟨h2,h3⟩|h2⟩
   ·refine .inl ⟨⟨x,h1,h2⟩,?_⟩
    rintro⟨z,rfl,h4⟩;rw[h1]at h4;exact h3 (uZ.inj h4)
   ·exact .inr ⟨x,h2,h1⟩
 |.iff y a b=>by
  have ia:=Bd.mk_bit a;have ib:=Bd.mk_bit b;rw[Bd.mk,UR,UR,UR,xB nd,wK,wK,xB nd];simp only[tI,tQ,U6,uJ,Bool.not_eq_true',decide_eq_true_eq,decide_eq_false_iff_not,ia,ib,uo,Up,false_and,exists_false,not_false_eq_true,and_true,Bd.fr]
  constructor
  ·rintro((⟨x,h1,h2⟩|⟨x,h1,h2⟩)|⟨x,rfl,h2⟩)
   ·exact⟨x,h1,.inl (.inl h2)⟩
   ·exact⟨x,h1,.inl (.inr h2)⟩
   ·exact⟨x,h2,.inr rfl⟩
  ·rintro⟨x,h1,(h2|h2)|h2⟩
   ·exact .inl (.inl ⟨x,h1,h2⟩)
   ·exact .inl (.inr ⟨x,h1,h2⟩)
   ·exact .inr ⟨x,h2,h1⟩
 |.case y as=>by
  have ia:=Arms.mk_bit as 0;rw[Bd.mk,UR,xB nd];simp only[U6,ia,tI,Bool.false_eq_true,false_or,decide_eq_true_eq,uo,Bd.fr]
  constructor
  ·rintro(⟨x,h1,h2⟩|⟨x,rfl,h2⟩)
   ·exact⟨x,h1,.inl h2⟩
   ·exact⟨x,h2,.inr rfl⟩
  ·rintro⟨x,h1,h2|h2⟩
   ·exact .inl ⟨x,h1,h2⟩
   ·exact .inr ⟨x,h2,h1⟩
theorem Arms.mk_bit:∀(as:Arms)(f:Nat),((Arms.mk ns as f).testBit i=true)↔(f.testBit i=true\/∃x,ns[i]?=some x/\as.fr x)
 |.nil,f=>by unfold Arms.mk Arms.fr;simp
 |.cons t xs b r,f=>by
  have ib:=Bd.mk_bit b;rw[Arms.mk,Arms.mk_bit r,UR,wK,xB nd];simp only[U6,uJ,Bool.not_eq_true',decide_eq_false_iff_not,ib,Arms.fr]
  constructor
  ·rintro((h|⟨⟨x,h1,h2⟩,h3⟩)|⟨x,h1,h2⟩)
   ·exact .inl h
   ·exact .inr ⟨x,h1,.inl ⟨h2,fun e=>h3 ⟨x,e,h1⟩⟩⟩
   ·exact .inr ⟨x,h1,.inr h2⟩
  ·rintro(h|⟨x,h1,⟨h2,h3⟩|h2⟩)
   ·exact .inl (.inl h)
   ·refine .inl (.inr ⟨⟨x,h1,h2⟩,?_⟩)
    rintro⟨z,h4,h5⟩;rw[h1]at h5;cases h5;exact h3 h4
   ·exact .inr ⟨x,h1,h2⟩
end
end
theorem Bd.sz_pos'(b:Bd):1<=b.sz:=by
 cases b<;>rw[Bd.sz]<;>lia
theorem YF:∀l:Wy,l.length<=wsz l
 |[]=>uM _
 |p::l=>by
  have h1:=Bd.sz_pos' p.2;have h2:=YF l;unfold wsz at h2 ⊢;rw[uC,Uy,ui];lia
end GN
namespace GN
open PySem L2
inductive All2{α β:Type}(F:α->β->Prop):List α->List β->Prop
 |nil:All2 F [] []
 |cons {a b l m}:F a b->All2 F l m->All2 F (a::l) (b::m)
section
variable{α β:Type}{F G:α->β->Prop}{l:List α}{m:List β}
theorem All2.imp(h:All2 F l m)(f:∀a b,F a b->G a b):All2 G l m:=by
 induction h with
 |nil=>exact .nil
 |cons a _ ih=>exact .cons (f _ _ a) ih
theorem All2.len(h:All2 F l m):l.length=m.length:=by
 induction h with
 |nil=>rfl
 |cons _ _ ih=>rw[ui,ui,ih]
theorem All2.app{l':List α}{m':List β}(h:All2 F l m)(g:All2 F l' m'):All2 F (l++l') (m++m'):=by
 induction h with
 |nil=>exact g
 |cons a _ ih=>exact .cons a ih
theorem All2.get(h:All2 F l m):∀{i:Nat}{b:β},m[i]?=some b->∃a,l[i]?=some a/\F a b:=by
 induction h with
 |nil=>intro i b e;simp at e
 |cons a _ ih =>
  intro i b e;cases i with
  |zero=>simp at e;subst e;exact(zg rfl (a))
  |succ i=>simp at e;obtain⟨x,h1,h2⟩:=ih e;exact⟨x,by simpa using h1,h2⟩
end
theorem iteN{b:Bool}{A B:Prop}(e:b=false)(h:B):if b=true then A else B:=by rw[if_neg (by rw[e];decide)];exact h
def KM(M:Addr->Prop)(H H':Hp):Prop:=∀b u,¬ M b->H b=some u->H' b=some u
def Kz(M R:Addr->Prop)(H H':Hp):Prop:=∀b u,H b=some u->¬ M b->(∀xs,u=.lst xs->R b)->H' b=some u
def KO(M:Addr->Prop)(H H':Hp):Prop:=∀b u,H b=some u->(∀xs,u=.lst xs->M b)->H' b=some u
theorem KM.refl{M:Addr->Prop}:KM M H H:=fun _ _ _ h=>h
theorem KM.trans{M:Addr->Prop}(a:KM M H H1)(b:KM M H1 H2):KM M H H2:=fun c u n h=>b c u n (a c u n h)
theorem KM.of{M:Addr->Prop}(a:Same H H1):KM M H H1:=fun c u _ h=>a c u h
theorem KM.free{M:Addr->Prop}(a:KM M H H1)(n:¬ M b)(h:H1 b=none):H b=none:=by
 cases e:H b with
 |none=>rfl
 |some u=>rw[a b u n e]at h;cases h
theorem KM.put{M:Addr->Prop}{o:HO}(a:KM M H H1)(h:H p=none):KM M H (upd H1 p o):=fun b u n e=>by rw[zj (zi e h)];exact a b u n e
def CanC(P:Program)(w:World)(K:ub)(mg:Str->Option Value)(base:Heap)(k:Nat)(H:Hp)(f:Addr)(vs:List V)(Q:VK)(E:XK):Prop :=
 ∃fd ps sp,FnOk P w K mg base CX0 k f fd ps sp/\Binds K fd ps []/\sp vs H Q E/\(H f=some (FunO f fd)\/u4 K (.ref f)=true)
def Chn{T S:Type}(pre post:T->S):S->List T->S->Prop
 |s,[],s'=>s=s'
 |s,t::ts,s'=>pre t=s/\Chn pre post (post t) ts s'
set_option genInjectivity false in
structure WoD(P:Program)(w:World)(K:ub)(mg:Str->Option Value)(base:Heap)(k:Nat) where
 Tk:Type
 M:Addr->Prop
 fb:Addr
 wt:Tk->Nat
 kids:Tk->List Tk
 wk:∀t,((kids t).map wt).sum+2<=wt t
 IT:Hp->(Addr->Prop)->Tk->V->Prop
 IR:Hp->(Addr->Prop)->Tk->V->Prop
 IF:Hp->(Addr->Prop)->Tk->V->Prop
 S:Type
 pre:Tk->S
 mid:Tk->S
 post:Tk->S
 chn:∀t,Chn pre post (mid t) (kids t) (post t)
 Ok:S->Hp->Prop
 itk:∀{H H' R R' t v s},IT H R t v->Ok s H->Kz M R H H'->(∀b,R b->R' b)->IT H' R' t v
 irk:∀{H H' R R' t v s},IR H R t v->Ok s H->Kz M R H H'->(∀b,R b->R' b)->IR H' R' t v
 ifk:∀{H H' R R' t v s},IF H R t v->Ok s H->Kz M R H H'->(∀b,R b->R' b)->IF H' R' t v
 okk:∀{H H' s},Ok s H->KO M H H'->Ok s H'
 okM:∀{H b s},Ok s H->M b->H b≠none
 beg:∀{H R t v Q},IT H R t v->Ok (pre t) H->(∀b,R b->H b≠none)->(∀b,R b->¬ M b) ->
  (∀H' q l fl vs R',KM M H H'->Ok (mid t) H'->H' q=some (.tup [.ref l,.ref fl])->H l=none->H' l=some (.lst vs)->(∀b,R b->R' b)->(∀b,R' b->R b\/H b=none)->(∀b,R' b->H' b≠none)->R' l->All2 (IT H' R') (kids t) vs->IF H' R' t (.ref fl)->Q (.ref q) H') ->
  CanC P w K mg base k H fb [v] Q E0
 fin:∀{H R t fl rl rs Q},IF H R t (.ref fl)->Ok (post t) H->(∀b,R b->H b≠none)->(∀b,R b->¬ M b)->R rl->H rl=some (.lst rs)->All2 (IR H R) (kids t) rs ->
  (∀H' v R',KM M H H'->Ok (post t) H'->(∀b,R b->R' b)->(∀b,R' b->R b\/H b=none)->(∀b,R' b->H' b≠none)->IR H' R' t v->Q v H') ->
  CanC P w K mg base k H fl [.ref rl] Q E0
structure Bn(K:ub)(cB:Addr):Prop where
 cl:Cls K cB
 b1:NoAttr K cB "within"
 b2:NoAttr K cB "finish"
 b3:NoAttr K cB "results"
def BO(cB dx wa fl ra:Addr):HO:=.ins cB dx [("within",.ref wa),("finish",.ref fl),("results",.ref ra)]
inductive spBInit(cB:Addr)(vs:List V)(H:Hp)(Q:VK)(e_3:XK):Prop
 |mk (x:Addr) (dx:Addr) (wa:Addr):(∃fl:Addr,vs=[.ref x,.ref wa,.ref fl]/\H x=some (.ins cB dx [])/\∀H' ra,(∀b u,b≠x->H b=some u->H' b=some u)->H ra=none->H' ra=some (.lst [])->H' x=some (BO cB dx wa fl ra)->Q .non H')->spBInit cB vs H Q e_3
inductive spOnly(vs:List V)(H:Hp)(Q:VK)(e_3:XK):Prop
 |mk (p:Addr) (v:V):(∃xs:List V,vs=[.ref p]/\H p=some (.lst (v::xs))/\Q v H)->spOnly vs H Q e_3
theorem zaE:FnScope lS21 lS21 (zp Xu):=.ok
theorem JH(F:Fun K "__init__" "Begun.__init__" Xu f fd)(N:Bn K cB):FnOk P w K mg base CX0 1 f fd lS21 (spBInit cB):=by
 refine F.by zaE (fun vs H Q E h=>?_) (fun cdv A outer s H vs Q E hr h=>?_)
 ·obtain⟨x,dx,wa,fl,rfl,_⟩:=h
  rfl
 obtain⟨x,dx,wa,fl,rfl,hx,q⟩:=h;refine⟨_,(zh (xp (jv 0) (jv 1)) (zh (xp (jv 0) (jv 2)) (zk (xp (jv 0) (zD zL))))),?_⟩;refine(zq rfl rfl ⟨x,cB,dx,(zg rfl ⟨hx,N.cl,N.b1,by show 0 < 1000;decide,?_⟩)⟩);refine(zq rfl rfl ⟨x,cB,dx,(zg rfl ⟨uX9,N.cl,N.b2,by show 1 < 1000;decide,?_⟩)⟩);refine⟨sN0,fun ra hra=>?_⟩;have nx:ra≠x:=fun z=>by
  rw[z,uX9]at hra;cases hra
 have hra':H ra=none:=by
  rw[zj nx,zj nx]at hra;exact hra
 refine(zg rfl ⟨x,cB,dx,(zg rfl ⟨by rw[zj nx.symm];exact uX9,N.cl,N.b3,by show 2 < 1000;decide,?_⟩)⟩);refine q _ ra (fun b u n e=>?_) hra' (by rw[zj nx];exact uX9) uX9;rw[zj n,zj (zi e hra'),zj n,zj n];exact e
theorem zc4:FnScope ["results"] ["results"] (zp Jl):=.ok
theorem zaF(F:Fun K "only_one" "only_one" Jl f fd):FnOk P w K mg base CX0 1 f fd ["results"] spOnly:=by
 refine F.by zc4 (fun vs H Q E h=>?_) (fun cdv A outer s H vs Q E hr h=>?_)
 ·obtain⟨p,v,xs,rfl,_⟩:=h
  rfl
 obtain⟨p,v,xs,rfl,hp,q⟩:=h;exact⟨_,(zk (zv (zQ K (jv 0)))),(zg rfl (ixL hp aI0 (q)))⟩
structure En(Tk:Type) where
 bo:Addr
 dx:Addr
 wa:Addr
 ra:Addr
 fl:Addr
 tk:Option Tk
 ts:List Tk
 rs:List V
section
variable{k:Nat}(D:WoD P w K mg base k)(cB fo:Addr)(root:D.Tk)
structure EnOk(H:Hp)(R:Addr->Prop)(e:En D.Tk):Prop where
 o:H e.bo=some (BO cB e.dx e.wa e.fl e.ra)
 nb:¬ D.M e.bo
 w:∃ws,H e.wa=some (.lst ws)/\All2 (D.IT H R) e.ts ws
 Rw:R e.wa
 r:H e.ra=some (.lst e.rs)
 nr:¬ R e.ra
 nM:¬ D.M e.ra
 le:e.rs.length<=e.ts.length
 rr:All2 (D.IR H R) (e.ts.take e.rs.length) e.rs
 fin:match e.tk with
  |none=>e.fl=fo/\e.ts=[root]
  |some t=>D.IF H R t (.ref e.fl)/\e.ts=D.kids t
inductive Lnk:List (En D.Tk)->Prop
 |bot {e:En D.Tk}:e.tk=none->Lnk [e]
 |up {e e':En D.Tk} {es:List (En D.Tk)} {t:D.Tk}:Lnk (e'::es)->e.tk=some t->e'.ts[e'.rs.length]?=some t->Lnk (e::e'::es)
def mlow:List (En D.Tk)->Nat
 |[]=>0
 |e::es=>1+((e.ts.drop (e.rs.length+1)).map D.wt).sum+mlow es
def mall:List (En D.Tk)->Nat
 |[]=>0
 |e::es=>1+((e.ts.drop e.rs.length).map D.wt).sum+mlow D es
theorem YG:∀es:List (En D.Tk),es.length<=mlow D es
 |[]=>uj _
 |e::es=>by
  unfold mlow
  have:=YG es
  rw[ui];lia
theorem JI(es:List (En D.Tk)):es.length<=mall D es:=by
 cases es with
 |nil=>exact uj _
 |cons e es =>
  unfold mall
  have:=YG D es
  rw[ui];lia
theorem JJ:∀ts:List D.Tk,ts.length<=(ts.map D.wt).sum
 |[]=>uj _
 |t::ts=>by
  have:=JJ ts
  have:=D.wk t
  rw[ui,uC,Uy];lia
def eEnd(e:En D.Tk):D.S:=match e.tk with
 |none=>D.post root
 |some t=>D.post t
def StkL:D.S->List (En D.Tk)->Prop
 |_,[]=>True
 |s,e::es=>Chn D.pre D.post s (e.ts.drop (e.rs.length+1)) (eEnd D root e)/\StkL (eEnd D root e) es
def Stk:D.S->List (En D.Tk)->Prop
 |_,[]=>True
 |s,e::es=>Chn D.pre D.post s (e.ts.drop e.rs.length) (eEnd D root e)/\StkL D root (eEnd D root e) es
variable{D cB fo root}
theorem EnOk.keep{e:En D.Tk}{s:D.S}(h:EnOk D cB fo root H R e)(ok:D.Ok s H)(z:Kz D.M R H H')(rM:∀b,R b->¬ D.M b)(sub:∀b,R b->R' b)(hr:H' e.ra=some (.lst e.rs))(nr:¬ R' e.ra):EnOk D cB fo root H' R' e:=by
 obtain⟨o,nb,⟨ws,w1,w2⟩,Rw,r,nr',nM,le,rr,fin⟩:=h;refine⟨z _ _ o nb (by intro xs q;unfold BO at q;cases q),nb,⟨ws,z _ _ w1 (rM _ Rw) (fun _ _=>Rw),w2.imp fun a b q=>D.itk q ok z sub⟩,sub _ Rw,hr,nr,nM,le,rr.imp fun a b q=>D.irk q ok z sub,?_⟩;cases q:e.tk with
 |none=>rw[q]at fin;exact fin
 |some t=>rw[q]at fin;exact⟨D.ifk fin.1 ok z sub,fin.2⟩
end
inductive spWorked(P:Program)(w:World)(K:ub)(mg:Str->Option Value)(base:Heap)(k:Nat)(vs:List V)(H:Hp)(Q:VK)(e_3:XK):Prop
 |mk (D:WoD P w K mg base k) (v:V) (root:D.Tk):(∃R:Addr->Prop,vs=[v,.ref D.fb]/\D.IT H R root v/\D.Ok (D.pre root) H/\(∀b,R b->H b≠none)/\(∀b,R b->¬ D.M b)/\D.wt root<=10000000/\((∃fd,H D.fb=some (FunO D.fb fd))/\¬ D.M D.fb\/u4 K (.ref D.fb)=true)/\∀H' v' R',KM D.M H H'->D.Ok (D.post root) H'->(∀b,R' b->¬ D.M b)->D.IR H' R' root v'->Q v' H')->spWorked P w K mg base k vs H Q e_3
inductive WkV{P:Program}{w:World}{K:ub}{mg:Str->Option Value}{base:Heap}{k:Nat}(D:WoD P w K mg base k)(cB fo wl:Addr)(v:V)(root:D.Tk)(H:Hp)(m:Nat)(σ:St)(H':Hp):Prop
 |mk (es:List (En D.Tk)) (cur:D.S) (R:Addr->Prop) (y3 y4 y5 y6:Option V) (_:m=mall D es) (_:σ=[some v,some (.ref D.fb),sR wl,y3,y4,y5,y6]) (_:KM D.M H H') (_:D.Ok cur H') (_:H' wl=some (.lst (es.reverse.map fun e=>V.ref e.bo))) (_:¬ R wl) (_:(∀e∈es,EnOk D cB fo root H' R e)) (_:(∀e∈es,H e.ra=none)) (_:Lnk D es) (_:(∀b,R b->H' b≠none)) (_:(∀b,R b->¬ D.M b)) (_:(wl::es.map (·.ra)).Nodup) (_:mall D es<=D.wt root+1) (_:(∀e∈es,e.ts.length<=10000000)) (_:Stk D root cur es):WkV D cB fo wl v root H m σ H'
section
variable{fo:Addr}{fdo:FuncData}{k:Nat}
theorem scWorked:FnScope ["task","begin","waiting","last","pair","finish","result"] lS26 (zp Zp):=.ok
theorem wM{t:TA}{Q:VK}{vs:List V}(hi:σ[i]?=some (some (.ref f)))(ha:∀R:List V->Hp->Prop,R vs H->t σ H R)(h:CanC P w K mg base k H f vs Q E0):Jc P w K mg base k E0 i t σ H Q:=by
 obtain⟨fd,ps,sp,F,b,q,c⟩:=h;rcases c with c|c
 ·exact⟨f,hi,.inl ⟨⟨fd,c⟩,ha _ ⟨fd,ps,sp,F,b,c,q⟩⟩⟩
 ·exact⟨f,hi,.inr ⟨c,ha _ ⟨fd,ps,sp,F,b,q⟩⟩⟩
theorem jU(F:Fun K "worked_out" "worked_out" Zp f fd)(N:Bn K cB)(GB:Ma P w K mg base CX0 1 "Begun" cB lS21 (spBInit cB))(GO:FnOk P w K mg base CX0 1 fo fdo ["results"] spOnly)(bO:Binds K fdo ["results"] [])(kO:u4 K (.ref fo)=true)(mO:mg "only_one"=some (.ref fo))(m_len:mg "len"=none)(hk:2<=k):FnOk P w K mg base CX0 (k+1) f fd lS26 (spWorked P w K mg base k):=by
 refine F.by scWorked (fun vs H Q E h=>?_) (fun cdv A outer s H vs Q E hr h=>?_)
 ·obtain⟨D,v,root,R,rfl,_⟩:=h
  rfl
 obtain⟨D,v,root,R0,rfl,hIT,hOk,hR0,hRM0,hwt,hfb,q⟩:=h;have hr2:Room (1+1) _:=hr.mono (by lia);refine⟨_,
  (zh (sE 2 scWorked.nd (zD (jA1 (ve GB hr2 rfl yJ (jA2 (zD (jA1 (jv 0))) (Q7 (v:=.ref fo) rfl mO rfl))))))
  (zk (vK PassesOwn.never (yr xk)
   (zh (sE 3 scWorked.nd (xX (zY K) (jv 2) (wg zt)))
   (zk (zE (tN jH (yu (zF K) rfl m_len Ud (jA1 (zK K (jv 3)))) (yu (zF K) rfl m_len Ud (jA1 (zK K (jv 3)))))
    (zh (sE 4 scWorked.nd (vO hr (jv 1) yJ (jA1 (xX (zY K) (zK K (jv 3)) (yu (zF K) rfl m_len Ud (jA1 (zK K (jv 3))))))))
    (zk (yw (yP uF uS uT yi (jv 2) (jA1 (ve GB hr2 rfl yJ (jA2 (zn K (jv 4)) (zn K (jv 4)))))))))
    (zh (sE 5 scWorked.nd (zK K (jv 3)))
    (zh (sE 6 scWorked.nd (vO hr (jv 5) yJ (jA1 (zK K (jv 3)))))
    (zh (yw (Xl uF PySem.F.slot_list_pop PySem.F.type_list_pop VS (jv 2)))
    (zh (zE (tN zI (yu (zF K) rfl m_len Ud (jA1 (jv 2))) zt)
     (zk (zv (jv 6))) zx)
    (zk (yw (yP uF uS uT yi (zK K (xX (zY K) (jv 2) (wg zt))) (jA1 (jv 6))))))))))))))),?_⟩
 have sl:=zO;refine(zg rfl ⟨sN1,fun l0 hl0=>?_⟩);have s0:Same H (upd H l0 (.lst [v])):=fun b u e=>by rw[zj (zi e hl0)];exact e
 have hl0':=uX9 (H:=H) (a:=l0) (o:=.lst [v]);generalize upd H l0 (.lst [v])=H1 at *;intro x dx hx hdx nxd;refine⟨x,dx,l0,fo,rfl,uX9,fun H2 ra kp hra hra2 hx2=>⟨rfl,sN1,fun wl hwl=>?_⟩⟩;have hM:∀b,H b=none->¬ D.M b:=fun b e m=>D.okM hOk m e;have s12:Same H1 H2:=fun b u e=>kp b u (zi e hx) (by rw[zj (zi e hx),zj (zi e hdx)];exact e);have s2:Same H H2:=s0.trans s12;have s3:Same H (upd H2 wl (.lst [.ref x])):=s2.new hwl;have nra:ra≠x:=fun z=>by
  rw[z,uX9]at hra;cases hra
 have nrd:ra≠dx:=fun z=>by
  rw[z,zj nxd,uX9]at hra;cases hra
 have hra1:H1 ra=none:=by
  rw[zj nra,zj nrd]at hra;exact hra
 have hra0:H ra=none:=s0.free hra1;have hx0:H x=none:=s0.free hx;have nl0:l0≠ra:=zi hl0' hra1;have nwr:ra≠wl:=zi hra2 hwl;have nwx:x≠wl:=zi hx2 hwl;have nwl:l0≠wl:=zi (s12 _ _ hl0') hwl;have hwl0:H wl=none:=s2.free hwl;refine⟨WkV D cB fo wl v root H,
  ⟨_,[⟨x,dx,l0,ra,fo,none,[root],[]⟩],D.pre root,(fun b=>R0 b\/b=l0),none,none,none,none,rfl,rfl,.of s3,D.okk hOk (fun b u e _=>s3 b u e),uX9,?_,?_,?_,.bot rfl,?_,?_,?_,?_,?_,⟨⟨rfl,rfl⟩,trivial⟩⟩,?_⟩
 ·rintro(z|z)
  ·exact hR0 _ z hwl0
  ·exact nwl z.symm
 ·intro e he
  rw[uo.mp he];refine⟨by rw[zj nwx];exact hx2,hM _ hx0,⟨[v],by rw[zj nwl];exact s12 _ _ hl0',.cons (D.itk hIT hOk (fun b u e _ _=>s3 b u e) fun b z=>.inl z) .nil⟩,.inr rfl,by rw[zj nwr];exact hra2,?_,hM _ hra0,uM _,.nil,rfl,rfl⟩;rintro(z|z)
  ·exact hR0 _ z hra0
  ·exact nl0 z.symm
 ·intro e he
  rw[uo.mp he];exact hra0
 ·rintro b (z|z)
  ·cases e:H b with
   |none=>exact absurd e (hR0 b z)
   |some u=>rw[s3 b u e];simp
  ·rw[z,zj nwl,s12 _ _ hl0'];simp
 ·rintro b (z|z)
  ·exact hRM0 b z
  ·rw[z];exact hM _ hl0
 ·show[wl,ra].Nodup
  simp[nwr.symm]
 ·unfold mall mlow
  simp
  lia
 ·intro e he
  rw[uo.mp he];show 1<=10000000
  decide
 rintro m σ Ha ⟨es,cur,R,y3,y4,y5,y6,rfl,rfl,kHa,okA,hwlA,nRw,hes,hra,lk,hRd,hRM,nd,hms,hln,stk⟩;refine(zg rfl (iteT ⟨_,fun _ _ h=>h,?_⟩));refine cutR (fun D_ rt_ fin=>?_) (fun _ _ h=>h);have hMA:∀b,Ha b=none->¬ D.M b:=fun b e m=>D.okM okA m e;have mwl:¬ D.M wl:=hM _ hwl0;cases es with
 |nil=>cases lk
 |cons e es =>
 have he:=hes e (.head _);have eo:=he.o;obtain⟨ws,hw,hIT'⟩:=he.w;have wlen:=hIT'.len;have els:((e::es).reverse.map fun e=>V.ref e.bo)=(es.reverse.map fun e=>V.ref e.bo)++[.ref e.bo]:=by simp
 rw[els]at hwlA;have elen:=JI D (e::es);rw[ui]at elen;have dr:∀t,e.ts[e.rs.length]?=some t->e.ts.drop e.rs.length=t::e.ts.drop (e.rs.length+1):=fun t ht=>(UN (ud.mp ht).1).trans (by rw[(ud.mp ht).2]);refine(zq rfl rfl ⟨wl,_,_,_,rfl,rfl,SqL.of hwlA,vH _ _,?_⟩);refine(zg rfl ⟨e.bo,cB,e.dx,_,_,rfl,eo,N.cl,N.b3,rfl,_,_,rfl,.inl (SqL.of he.r),(zg rfl ⟨e.bo,cB,e.dx,_,_,rfl,eo,N.cl,N.b1,rfl,_,_,rfl,.inl (SqL.of hw),(zC rfl rfl (zg rfl ?_))⟩)⟩);refine ite2 (fun c=>?_) (fun c=>?_)
 ·rw[decide_eq_true_eq]at c
  have c:e.rs.length < ws.length:=by lia
  obtain⟨t,ht,hIt⟩:=hIT'.get (uh c);obtain⟨sk1,sk2⟩:=stk;rw[dr t ht]at sk1;obtain⟨spre,sk3⟩:=sk1;refine wM rfl (fun R h=>(zg rfl ⟨e.bo,cB,e.dx,_,_,rfl,eo,N.cl,N.b1,rfl,(zg rfl ⟨e.bo,cB,e.dx,_,_,rfl,eo,N.cl,N.b3,rfl,_,_,rfl,.inl (SqL.of he.r),_,_,_,_,rfl,rfl,SqL.of hw,yB (uh c),h⟩)⟩)) (D.beg hIt (show D.Ok (D.pre t) Ha by rw[spre];exact okA) hRd hRM fun Hb pq l fl vs R' kB okB hq hl hlB sub sub' dom' Rl hks hfin=>?_);refine(zg rfl ⟨.inl ⟨rfl,_,SqL.of (kB _ _ mwl hwlA)⟩,(zg rfl (ixT hq aI0 (zg rfl (ixT hq aI1 (fun x' dx' hx' hdx' nxd'=>?_)))))⟩);refine⟨x',dx',l,fl,rfl,uX9,fun Hc rb kp' hrb hrb2 hxc=>⟨rfl,?_⟩⟩;have sbc:Same Hb Hc:=fun b u e=>kp' b u (zi e hx') (by rw[zj (zi e hx'),zj (zi e hdx')];exact e);have nrx:rb≠x':=fun z=>by
   rw[z,uX9]at hrb;cases hrb
  have nrd':rb≠dx':=fun z=>by
   rw[z,zj nxd',uX9]at hrb;cases hrb
  have hrbB:Hb rb=none:=by
   rw[zj nrx,zj nrd']at hrb;exact hrb
  have okC:D.Ok (D.mid t) Hc:=D.okk okB fun b u e _=>sbc b u e;have hMB:∀b,Hb b=none->¬ D.M b:=fun b e m=>D.okM okB m e;have hwlC:Hc wl=some (.lst ((es.reverse.map fun e=>V.ref e.bo)++[.ref e.bo])):=sbc _ _ (kB _ _ mwl hwlA);refine⟨wl,(zC rfl rfl ⟨hwlC,by rw[uf,ua,Uz];show es.length+1 < _;lia,?_⟩)⟩;have nR'w:¬ R' wl:=fun z=>by
   rcases sub' _ z with z|z
   ·exact nRw z
   ·rw[hwlA]at z;cases z
  have kzA:Kz D.M R Ha (upd Hc wl (.lst ((es.reverse.map fun e=>V.ref e.bo)++[.ref e.bo]++[.ref x']))):=fun b u q1 q2 q3=>by
   rw[zj]
   ·exact sbc _ _ (kB _ _ q2 q1)
   ·intro z
    rw[z,hwlA]at q1;cases q1;rw[z]at q3;exact nRw (q3 _ rfl)
  have kzB:Kz D.M R' Hb (upd Hc wl (.lst ((es.reverse.map fun e=>V.ref e.bo)++[.ref e.bo]++[.ref x']))):=fun b u q1 q2 q3=>by
   rw[zj]
   ·exact sbc _ _ q1
   ·intro z
    rw[z,kB _ _ mwl hwlA]at q1;cases q1;rw[z]at q3;exact nR'w (q3 _ rfl)
  have nx':x'≠wl:=zi (by exact kB _ _ mwl hwlA) hx' |>.symm
  have nrb:rb≠wl:=(zi (kB _ _ mwl hwlA) hrbB).symm;have nl:l≠wl:=fun z=>nR'w (z ▸ Rl);have nolds:∀e'∈e::es,Hc e'.ra=some (.lst e'.rs)/\e'.ra≠wl/\¬ R' e'.ra:=fun e' he'=>by
   have h':=hes e' he';refine⟨sbc _ _ (kB _ _ h'.nM h'.r),fun z=>?_,fun z=>?_⟩
   ·have:=(uX.mp nd).1
    exact this (z ▸ uu.mpr ⟨e',he',rfl⟩)
   ·rcases sub' _ z with z|z
    ·exact h'.nr z
    ·rw[h'.r]at z;cases z
  refine fin _ _ ⟨_,?_,⟨x',dx',l,rb,fl,some t,D.kids t,[]⟩ :: e::es,D.mid t,R',_,_,_,_,rfl,rfl,?_,D.okk okC ?_,?_,nR'w,?_,?_,.up lk rfl ht,?_,?_,?_,?_,?_,⟨D.chn t,sk3,sk2⟩⟩
  ·show 1+(((D.kids t).drop 0).map D.wt).sum+mlow D (e::es) < 1+((e.ts.drop e.rs.length).map D.wt).sum+mlow D es
   rw[dr t ht]
   have:=D.wk t
   rw[show mlow D (e::es)=1+((e.ts.drop (e.rs.length+1)).map D.wt).sum+mlow D es from rfl];simp only[List.drop_zero,uC,Uy]
   lia
  ·exact((kHa.trans kB).trans (.of sbc)).put hwl0
  ·intro b u q1 q2
   rw[zj]
   ·exact q1
   ·intro z
    rw[z,hwlC]at q1;cases q1;rw[z]at q2;exact mwl (q2 _ rfl)
  ·rw[uX9]
   simp
  ·intro e' he'
   rcases uk.mp he' with rfl|he'
   ·exact⟨by rw[zj nx'];exact hxc,hMB _ hx',⟨vs,by rw[zj nl];exact sbc _ _ hlB,hks.imp fun a b q=>D.itk q okB kzB fun _ z=>z⟩,Rl,by rw[zj nrb];exact hrb2,fun z=>dom' _ z hrbB,hMB _ hrbB,uM _,.nil,D.ifk hfin okB kzB fun _ z=>z,rfl⟩
   ·obtain⟨n1,n2,n3⟩:=nolds e' he'
    exact(hes e' he').keep okA kzA hRM sub (by rw[zj n2];exact n1) n3
  ·intro e' he'
   rcases uk.mp he' with rfl|he'
   ·exact(kHa.trans kB).free (hMB _ hrbB) hrbB
   ·exact hra e' he'
  ·intro b z
   by_cases hb:b=wl
   ·rw[hb,uX9];simp
   ·rw[zj hb]
    cases q:Hb b with
    |none=>exact absurd q (dom' b z)
    |some u=>rw[sbc _ _ q];simp
  ·intro b z
   rcases sub' b z with z|z
   ·exact hRM b z
   ·exact hMA b z
  ·rw[uC,uX]at *
   refine⟨fun z=>?_,uX.mpr ⟨fun z=>?_,nd.2⟩⟩
   ·rcases uk.mp z with z|z
    ·exact nrb z.symm
    ·exact nd.1 z
   ·obtain⟨e',he',z⟩:=uu.mp z
    have:=kB _ _ (hes e' he').nM (hes e' he').r
    rw[z,hrbB]at this;cases this
  ·refine uI ?_ hms
   show 1+(((D.kids t).drop 0).map D.wt).sum+mlow D (e::es)<=1+((e.ts.drop e.rs.length).map D.wt).sum+mlow D es;rw[dr t ht]
   have:=D.wk t
   rw[show mlow D (e::es)=1+((e.ts.drop (e.rs.length+1)).map D.wt).sum+mlow D es from rfl];simp only[List.drop_zero,uC,Uy]
   lia
  ·intro e' he'
   rcases uk.mp he' with rfl|he'
   ·have h1:=D.wk t
    have h2:D.wt t<=mall D (e::es):=by
     show _<=1+((e.ts.drop e.rs.length).map D.wt).sum+mlow D es;rw[dr t ht,uC,Uy];lia
    have h3:=JJ D (D.kids t);show(D.kids t).length<=10000000;lia
   ·exact hln e' he'
 ·have c:¬ e.rs.length < ws.length:=fun z=>c (decide_eq_true (by lia))
  have le:=he.le;have rr:=he.rr;obtain⟨sk1,sk2⟩:=stk;rw[List.drop_eq_nil_of_le (by lia)]at sk1;have sk1:cur=eEnd D root e:=sk1;rw[ur (by lia)]at rr;refine(zg rfl ⟨e.bo,cB,e.dx,_,_,rfl,eo,N.cl,N.b2,rfl,?_⟩);have pop:∀{Hb:Hp},Hb wl=some (.lst ((es.reverse.map fun e=>V.ref e.bo)++[.ref e.bo]))->∀{Q:VK},Q (.ref e.bo) (upd Hb wl (.lst (es.reverse.map fun e=>V.ref e.bo)))->rPop (.ref wl) [] Hb Q:=fun h Q q=>⟨wl,_,.ref e.bo,rfl,rfl,h,by simp,by rw[List.dropLast_concat];exact q⟩;cases htk:e.tk with
  |none =>
   have ecur:cur=D.post root:=by rw[sk1];unfold eEnd;rw[htk]
   subst ecur;have fin:=he.fin;rw[htk]at fin;obtain⟨e1,e2⟩:=fin;have es0:es=[]:=by
    cases lk with
    |bot _=>rfl
    |up _ q _=>rw[htk]at q;cases q
   subst es0;rw[e2]at rr;have hrs:=he.r;generalize e.rs=rs at *;cases rr with
   |cons hv hn =>
   cases hn;rw[e1];refine wM rfl (fun R h=>(zg rfl ⟨e.bo,cB,e.dx,_,_,rfl,eo,N.cl,N.b3,rfl,h⟩)) ⟨fdo,_,_,GO.mono (by lia),bO,⟨e.ra,_,[],rfl,hrs,?_⟩,.inr kO⟩;refine(zg rfl ⟨.inl ⟨rfl,_,SqL.of hwlA⟩,pop hwlA ?_⟩);refine(zg rfl ⟨_,_,rfl,.inl (SqL.of uX9),rfl,(zg rfl (iteT (zg rfl ?_)))⟩);rw[rt_];refine q _ _ R (kHa.put hwl0) (D.okk okA fun b u q1 q2=>?_) hRM (D.irk hv okA (fun b u q1 q2 q3=>?_) fun _ z=>z)
   ·rw[zj]
    ·exact q1
    ·intro z
     rw[z,hwlA]at q1;cases q1;rw[z]at q2;exact mwl (q2 _ rfl)
   ·rw[zj]
    ·exact q1
    ·intro z
     rw[z,hwlA]at q1;cases q1;rw[z]at q3;exact nRw (q3 _ rfl)
  |some t =>
   have eE:eEnd D root e=D.post t:=by unfold eEnd;rw[htk]
   have ecur:cur=D.post t:=sk1.trans eE;subst ecur;rw[eE]at sk2;have fin:=he.fin;rw[htk]at fin;obtain⟨e1,e2⟩:=fin;rw[e2]at rr;cases lk with
   |bot q=>rw[htk]at q;cases q
   |@up _ e' es' t' lk' q ht' =>
   rw[htk]at q;cases q;have he':=hes e' (.tail _ (.head _));have ndA:=nd;rw[uC,uC,uX,uX,uX]at ndA;obtain⟨nd1,nd2,nd3,nd4⟩:=ndA;have nwe:e.ra≠wl:=fun z=>nd1 (z ▸ .head _);have nwe':e'.ra≠wl:=fun z=>nd1 (z ▸ .tail _ (.head _));have nee':e'.ra≠e.ra:=fun z=>nd2 (z ▸ .head _);have kzR:Kz D.M R Ha Ha:=fun b u q _ _=>q;refine wM rfl (fun R h=>(zg rfl ⟨e.bo,cB,e.dx,_,_,rfl,eo,N.cl,N.b3,rfl,h⟩)) (D.fin (R:=fun b=>R b\/b=e.ra) (D.ifk e1 okA kzR fun _ z=>.inl z) okA ?_ ?_ (.inr rfl) he.r (rr.imp fun a b q=>D.irk q okA kzR fun _ z=>.inl z) fun Hb rv R' kB okB sub sub' dom' hIR=>?_)
   ·rintro b (z|z)
    ·exact hRd b z
    ·rw[z,he.r];simp
   ·rintro b (z|z)
    ·exact hRM b z
    ·rw[z];exact he.nM
   have hwlB:=kB _ _ mwl hwlA;have heB:=kB _ _ he'.nM he'.r;have hoB:=kB _ _ he'.nb he'.o;have no':e'.bo≠wl:=yv hoB hwlB (by unfold BO;intro z;cases z);refine(zg rfl ⟨.inl ⟨rfl,_,SqL.of hwlB⟩,pop hwlB ?_⟩);have els':((e'::es').reverse.map fun e=>V.ref e.bo)=(es'.reverse.map fun e=>V.ref e.bo)++[.ref e'.bo]:=by simp
   rw[els'];refine(zg rfl ⟨_,_,rfl,.inl (SqL.of uX9),rfl,(zg rfl (iteN ?_ ?_))⟩)
   ·rw[uf]
    exact decide_eq_false (by intro z;have:=V.int.inj z;simp at this;lia)
   refine(zq rfl rfl ⟨wl,_,_,_,rfl,rfl,SqL.of uX9,vH _ _,e'.bo,cB,e'.dx,_,.ref e'.ra,rfl,by rw[zj no'];exact hoB,N.cl,N.b3,rfl,.inl ⟨rfl,_,SqL.of (by rw[zj nwe'];exact heB)⟩,(zg rfl ⟨e'.ra,(zC rfl rfl ⟨by rw[zj nwe'];exact heB,?_,?_⟩)⟩)⟩)
   ·have:=(ud.mp ht').1
    have:=hln e' (.tail _ (.head _))
    lia
   have nR'w:¬ R' wl:=fun z=>by
    rcases sub' _ z with(z|z)|z
    ·exact nRw z
    ·exact nwe z.symm
    ·rw[hwlA]at z;cases z
   have nR':∀e1∈e'::es',¬ R' e1.ra:=fun e1 h1 z=>by
    rcases sub' _ z with(z|z)|z
    ·exact(hes e1 (.tail _ h1)).nr z
    ·exact nd2 (z ▸ uu.mpr ⟨e1,h1,rfl⟩)
    ·rw[(hes e1 (.tail _ h1)).r]at z;cases z
   have kzB:Kz D.M R' Hb (upd (upd Hb wl (.lst ((es'.reverse.map fun e=>V.ref e.bo)++[.ref e'.bo]))) e'.ra (.lst (e'.rs++[rv]))):=fun b u q1 q2 q3=>by
    have n1:b≠e'.ra:=fun z=>by
     rw[z,heB]at q1;cases q1;rw[z]at q3;exact nR' e' (.head _) (q3 _ rfl)
    have n2:b≠wl:=fun z=>by
     rw[z,hwlB]at q1;cases q1;rw[z]at q3;exact nR'w (q3 _ rfl)
    rw[zj n1,zj n2];exact q1
   have kzA:Kz D.M R Ha (upd (upd Hb wl (.lst ((es'.reverse.map fun e=>V.ref e.bo)++[.ref e'.bo]))) e'.ra (.lst (e'.rs++[rv]))):=fun b u q1 q2 q3=>kzB b u (kB _ _ q2 q1) q2 fun xs z=>sub _ (.inl (q3 xs z));have subR:∀b,R b->R' b:=fun b z=>sub _ (.inl z);refine fin _ _ ⟨_,?_,{ e' with rs:=e'.rs++[rv] } :: es',D.post t,R',_,_,_,_,rfl,rfl,((kHa.trans kB).put hwl0).put (hra e' (.tail _ (.head _))),D.okk okB ?_,?_,nR'w,?_,?_,?_,?_,?_,?_,?_,?_,?_⟩
   ·show 1+((e'.ts.drop (e'.rs++[rv]).length).map D.wt).sum+mlow D es' < 1+((e.ts.drop e.rs.length).map D.wt).sum+(1+((e'.ts.drop (e'.rs.length+1)).map D.wt).sum+mlow D es')
    rw[uf,uO];lia
   ·intro b u q1 q2
    have n1:b≠e'.ra:=fun z=>by
     rw[z,heB]at q1;cases q1;rw[z]at q2;exact he'.nM (q2 _ rfl)
    have n2:b≠wl:=fun z=>by
     rw[z,hwlB]at q1;cases q1;rw[z]at q2;exact mwl (q2 _ rfl)
    rw[zj n1,zj n2];exact q1
   ·rw[zj nwe'.symm,uX9]
    simp
   ·intro e1 h1
    rcases uk.mp h1 with rfl|h1
    ·obtain⟨o,nb,⟨ws',w1,w2⟩,Rw,r,nr',nM,le',rr',fin⟩:=he'
     refine⟨kzA _ _ o nb (by intro xs q;unfold BO at q;cases q),nb,⟨ws',kzA _ _ w1 (hRM _ Rw) (fun _ _=>Rw),w2.imp fun a b q=>D.itk q okA kzA subR⟩,subR _ Rw,uX9,nR' e' (.head _),nM,?_,?_,?_⟩
     ·show(e'.rs++[rv]).length<=_
      rw[uf,uO];exact(ud.mp ht').1
     ·show All2 _ (e'.ts.take (e'.rs++[rv]).length) (e'.rs++[rv])
      rw[uf,uO,uD,ht'];exact(rr'.imp fun a b q=>D.irk q okA kzA subR).app (.cons (D.irk hIR okB kzB fun _ z=>z) .nil)
     ·show(match e'.tk with|none=>_|some t=>_)
      cases q:e'.tk with
      |none=>rw[q]at fin;exact fin
      |some t=>rw[q]at fin;exact⟨D.ifk fin.1 okA kzA subR,fin.2⟩
    ·have h1':=hes e1 (.tail _ (.tail _ h1))
     have m1:e1.ra≠e'.ra:=fun z=>nd3 (z ▸ uu.mpr ⟨e1,h1,rfl⟩);have m2:e1.ra≠wl:=fun z=>nd1 (z ▸ .tail _ (.tail _ (uu.mpr ⟨e1,h1,rfl⟩)));exact h1'.keep okA kzA hRM subR (by rw[zj m1,zj m2];exact kB _ _ h1'.nM h1'.r) (nR' e1 (.tail _ h1))
   ·intro e1 h1
    rcases uk.mp h1 with rfl|h1
    ·exact hra e' (.tail _ (.head _))
    ·exact hra e1 (.tail _ (.tail _ h1))
   ·cases lk' with
    |bot q=>exact .bot q
    |up a b c=>exact .up a b c
   ·intro b z
    have:=dom' b z
    unfold upd;split
    ·simp
    ·split
     ·simp
     ·exact this
   ·intro b z
    rcases sub' b z with(z|z)|z
    ·exact hRM b z
    ·rw[z];exact he.nM
    ·exact hMA b z
   ·exact uX.mpr ⟨fun z=>nd1 (.tail _ z),uX.mpr ⟨nd3,nd4⟩⟩
   ·refine uI ?_ hms
    show 1+((e'.ts.drop (e'.rs++[rv]).length).map D.wt).sum+mlow D es'<=1+((e.ts.drop e.rs.length).map D.wt).sum+(1+((e'.ts.drop (e'.rs.length+1)).map D.wt).sum+mlow D es');rw[uf,uO];lia
   ·intro e1 h1
    rcases uk.mp h1 with rfl|h1
    ·exact hln e' (.tail _ (.head _))
    ·exact hln e1 (.tail _ (.tail _ h1))
   ·refine⟨?_,sk2.2⟩
    show Chn D.pre D.post (D.post t) (e'.ts.drop (e'.rs++[rv]).length) _;rw[uf,uO];exact sk2.1
end
end GN
namespace HT
open PySem PySem.Spec PyProof.Rows
theorem getItem_tuple_whole{t:Addr}{Q:VSP}(ht:IsTup s.heap t items)(hs:s.heap.IsSliceOf sl vl vu .none)(pl:IsPart vl lo)(pu:IsPart vu hi)
  (hw:sIx items.size 0 lo=0/\sIx items.size items.size hi=items.size) (h:Q (.ref t) s):wpAny (model prog w) A (getItem (.ref t) (.ref sl)) Q E s:=by
 obtain⟨os,hos,hcs,hds⟩:=id hs;have hTs:s.TypeIs (.ref sl) "slice":=⟨os,hos,hcs⟩;unfold getItem
 try with_reducible refine wpAny_holding ?_
 first|refine wpAny_bind (wpAny_pure ?_)|skip
 refine wpAny_bind (wpAny_sequenceKey ht.typeIs (by decide) ?_);refine wpAny_bind (wpAny_callSpecial?_slot (name:=Str.ofString "__getitem__") ht.typeIs Uo
  (wpAny_call_entry Uo ht.typeIs entry_tuple_getitem ?_ (args_tuple_getitem _ _)))
 show wpAny _ _ (Builtin.Tuple.tupleItemsOf (.ref t) >>= _) _ _ s;refine wpAny_bind (tupleItemsOf_ ht ?_);refine wpAny_bind (wpAny_typeOf hTs ?_);rw[if_pos (by decide)];refine wpAny_bind (xq hs pl pu ?_);have hyes:(((sIx items.size 0 lo:Nat):Int) == 0 && (1:Int) == 1 && (sIx items.size items.size hi-sIx items.size 0 lo) == items.size)=true:=by
  rw[hw.1,hw.2];simp
 show wpAny _ _ (if(((sIx items.size 0 lo:Nat):Int) == 0 && (1:Int) == 1 && (sIx items.size items.size hi-sIx items.size 0 lo) == items.size)=true then _ else _) _ _ s;rw[if_pos hyes];have hx:wpAny (model prog w) A.in1 (Builtin.Tuple.tupleIsExact (.ref t)) (fun b s'=>b=true/\s'=s) (fun _ _=>False) s:=by
  unfold Builtin.Tuple.tupleIsExact;exact wpAny_bind (wpAny_typeOf ht.typeIs (wpAny_pure ⟨by decide,rfl⟩))
 refine wpAny_bind (wpAny_mono hx (fun b s' q=>?_) fun _ _ z=>z.elim);obtain⟨rfl,rfl⟩:=q;rw[if_pos rfl];exact wpAny_bind (wpAny_rule (wpAny_pure ⟨_,rfl,wpAny_pure h⟩))
end HT
namespace L2
open PySem PySem.Spec PyProof.Rows
def rSlW(K:ub):V->Option Int->Option Int->Hp->VK->Prop:=fun x lo hi H Q=>∃a xs,x=.ref a/\SqT K H a xs /\
 (cutV xs lo hi=xs->Q (.ref a) H)/\∀p,H p=none->Q (.ref p) (upd H p (.tup (cutV xs lo hi)))
theorem zaG:SlR X (rSlW X.K):=by
 intro pins s σ H x v vl vu lo hi sl Q I rx hs pl pu h;obtain⟨a,xs,rfl,hx,q1,q⟩:=h;by_cases hw:HT.sIx xs.length 0 lo=0/\HT.sIx xs.length xs.length hi=xs.length
 ·cases rx
  obtain⟨its,r,ht,hz⟩:=I.tuple hx;have hlen:its.toArray.size=xs.length:=by rw[ux];exact r.length.symm
  refine⟨"tuple",_,Uo.lookup,ht.typeIs,?_⟩;refine HT.getItem_tuple_whole ht hs pl pu (by rw[hlen];exact hw) ⟨.ref a,H,I,rfl,q1 ?_⟩;unfold cutV;rw[hw.1,hw.2];simp
 ·exact zct pins s σ H (.ref a) v vl vu lo hi sl Q I rx hs pl pu ⟨a,xs,rfl,hx,hw,q⟩
def rSlO:V->Option Int->Option Int->Hp->VK->Prop:=fun x lo hi H Q=>∃a xs,x=.ref a/\H a=some (.tup xs)/\∀p H',(∀b o,H b=some o->H' b=some o)->H' p=some (.tup (cutV xs lo hi))->Q (.ref p) H'
theorem zaH:SlR X rSlO:=by
 intro pins s σ H x v vl vu lo hi sl Q I rx hs pl pu h;obtain⟨a,xs,rfl,hx,q⟩:=h;refine zaG pins s σ H (.ref a) v vl vu lo hi sl Q I rx hs pl pu ⟨a,xs,rfl,SqT.of hx,fun e=>q a H (fun _ _ z=>z) (by rw[e];exact hx),fun p hp=>q p _ (fun b o z=>?_) uX9⟩;rw[zj (zi z hp)];exact z
theorem wO:jSl X rSlO:=⟨zaH⟩
inductive TyN(H:Hp):V->Bool->Prop where
 |int (i:Int):TyN H (.int i) false
 |str (z:Str):TyN H (.str z) false
 |bl (b:Bool):TyN H (.bl b) false
 |non:TyN H .non false
 |lst {a:Addr} {xs:List V} (e:H a=some (.lst xs)):TyN H (.ref a) true
 |tup {a:Addr} {xs:List V} (e:H a=some (.tup xs)):TyN H (.ref a) true
section
variable{k:Nat}{E:XK}{m:Str}{p:Pos}{t:TA}
theorem yZ{i:Expr}(hr:Room k X.A)(ho:jE X o td)(hi:jE X i ty)(hs:NoSl i:=by intro _ _;rfl):jE X (.Subscript o i pos) (zbC td ty):=⟨zam (zbr hr) ho.out hi.out hs⟩
theorem v5{f:Expr}{tx:TE}(hr:Room k X.A)(ho:jE X o td)(he:jE X e ty)(hf:jE X f tx)(m:M2 X o "get" apos e f cpos:=by exact⟨rfl,rfl,rfl,rfl⟩):jE X (.Call (.Attribute o "get" apos) [e,f] [] cpos) (Ji td ty tx):=⟨Jj (zbr hr) ho.out he.out hf.out m⟩
end
section
variable{Q:VK}
theorem xP{k m:Bool}{ys:List V}(hlen:xs.length=ys.length)(Pv:Nat->St->List V->Hp->Prop)(h0:Pv 0 σ [] H)(hl:∀i τ zs H,i<=xs.length->Pv i τ zs H->SqK k K H a xs/\SqK m K H b ys)
  (hs:∀i x y T τ zs H,xs[i]?=some x->ys[i]?=some y->H T=none->Pv i τ zs H->g (.ref T) τ (upd H T (.tup [x,y])) fun τ2 H2=>tt τ2 H2 fun b H3=>if b=true then te τ2 H3 fun y H4=>zs.length < sizeLine/\Pv (i+1) τ2 (zs++[y]) H4 else Pv (i+1) τ2 zs H3)
  (hd:∀τ zs H,Pv xs.length τ zs H->∀p,H p=none->Q (.ref p) (upd H p (.lst zs))):∃W,(∃m,W 0 m σ [] H)/\lcBy (Itz K k m a b) g tt te Q W:=by
 refine⟨fun i m τ zs H=>m=xs.length-i/\i<=xs.length/\Pv i τ zs H,⟨xs.length,by simp,uM _,h0⟩,?_⟩;rintro i n τ zs H ⟨rfl,hi,p⟩;obtain⟨q1,q2⟩:=hl i τ zs H hi p;by_cases hlt:i < xs.length
 ·refine .inr ⟨go2 q1 q2 (uh hlt) (uh (hlen ▸ hlt)),Pv (i+1),fun τ' zs' H' p'=>⟨xs.length-(i+1),by lia,rfl,hlt,p'⟩,fun x H' yq=>?_⟩
  obtain⟨T,x,y,rfl,hT,rfl,e1,e2⟩:=yld2 yq q1 q2;exact hs i x y T τ zs H e1 e2 hT p
 ·have e:i=xs.length:=by lia
  subst e;exact .inl ⟨zby q1 q2 (uj _),hd τ zs H p⟩
end
end L2
namespace L2
open PySem
section
variable{a:Expr}
theorem XI:jOp X (binaryOp .BitOr) (rI0 fun i j=>.int (Builtin.bitOr i j)):=⟨zdI⟩
theorem Wh:jOp X (binaryOp .BitAnd) (rI0 fun i j=>.int (Builtin.bitAnd i j)):=⟨zck⟩
theorem zc5(ha:jE X a ta):jE X (.UnaryOp .Invert a pos) (tUn (rU fun i=>.int (Builtin.bitNot i)) ta):=⟨zbk zcm ha.out⟩
end
end L2
namespace GN
open PySem L2 K11
variable{v:V}
inductive spBits(vs:List V)(H:Hp)(Q:VK)(e_3:XK):Prop
 |mk (p:Addr):(∃ns:lS,vs=[.ref p]/\H p=some (.lst (ns.map V.str))/\ns.Nodup/\ns.length<=1000/\∀(H':Hp)(d:Addr),Same H H'->H d=none->H' d=some (.dK (yE ns 1))->Q (.ref d) H')->spBits vs H Q e_3
inductive spTog(vs:List V)(H:Hp)(Q:VK)(e_3:XK):Prop
 |mk (p:Addr) (d:Addr) (xs:lS):(∃ns:lS,vs=[.ref p,.ref d]/\H p=some (.tup (xs.map V.str))/\H d=some (.dK (yE ns 1))/\Q (.int ((tog ns xs:Nat):Int)) H)->spTog vs H Q e_3
inductive spNamesOf(vs:List V)(H:Hp)(Q:VK)(e_3:XK):Prop
 |mk (p:Addr):(∃d:De,vs=[.ref p]/\IsDe H d p/\∀(H':Hp)(q:Addr),Same H H'->H' q=some (.tup (d.uses.map V.str))->Q (.ref q) H')->spNamesOf vs H Q e_3
inductive spUsed(vs:List V)(H:Hp)(Q:VK)(e_3:XK):Prop
 |mk (p:Addr):(∃b:Bd,vs=[.ref p]/\IsB H b p/\∀(H':Hp)(q:Addr),Same H H'->H' q=some (.tup (b.used.map V.str))->Q (.ref q) H')->spUsed vs H Q e_3
theorem W6{b:Nat}(h:x∉ns):putK (yE ns b) (.inr x) (.int ((b*2 ^ ns.length:Nat):Int))=yE (ns++[x]) b:=by
 unfold putK;rw[xg,xZ,if_neg h,if_neg (by simp),jP]
theorem JK{xs:lS}(h:xs[i]?=some x):tog ns (xs.take (i+1))=tog ns (xs.take i) ||| bitN ns x:=by
 unfold tog;rw[uD,h,List.foldl_append]
 rfl
section
theorem scBits:FnScope ["names","bits","bit","name"] ["names"] (zp Jm):=.ok
theorem zaI(F:Fun K "bits_of" "bits_of" Jm f fd):FnOk P w K mg base CX0 1 f fd ["names"] spBits:=by
 refine F.by scBits (fun vs H Q E h=>?_) (fun cdv A outer s H vs Q E hr h=>?_)
 ·obtain⟨p,ns,rfl,_⟩:=h
  rfl
 obtain⟨p,ns,rfl,hp,nd,hl,q⟩:=h;refine⟨_,
  (zh (sE 1 scBits.nd xh)
  (zh (sE 2 scBits.nd zt)
  (zh (yt PassesOwn.never rfl (zR K (jv 0)) (gN 3 scBits.nd)
   (zh (vm hr (jv 1) (jv 3) (jv 2)) (zk (sE 2 scBits.nd (zA yy (jv 2) (jv 2))))))
  (zk (zv (jv 1)))))),?_⟩
 have sl:=zO;intro d hd;have s1:=zo (o:=.dK []) hd;have npd:p≠d:=zi hp hd;refine(zg rfl ⟨p,rfl,⟨_,SqL.of (s1 _ _ hp)⟩,vD (xs:=ns.map V.str) (fun i σ H'=>Same H H'/\H' d=some (.dK (yE (ns.take i) 1))/\∃z,σ=[sR p,sR d,some (.int ((2 ^ i:Nat):Int)),z]) ⟨s1,uX9,none,rfl⟩ (fun i σ H' _ h=>SqL.of (h.1 _ _ hp)) ?_ ?_⟩)
 ·rintro i v σ H1 hv ⟨s2,hd2,z,rfl⟩
  obtain⟨x,hx,rfl⟩:=L2.gM hv;have hi:=(ud.mp hx).1;have hnx:x∉ns.take i:=fun hm=>by
   obtain⟨j,hj⟩:=U9.mp hm;have hj':j < i:=by
    have:=(ud.mp hj).1
    rw[uq]at this;lia
   rw[List.getElem?_take_of_lt hj']at hj
   have:=(List.getElem?_inj (ud.mp hj).1 nd).mp (hj.trans hx.symm)
   lia
  have tl:(ns.take i).length=i:=by rw[uq];lia
  have e:=W6 (b:=1) hnx;rw[tl,Nat.one_mul]at e;refine(zq rfl rfl (zg rfl ⟨d,(zg rfl ⟨DPut.k (k:=.inr x) hd2 (by rw[jQ,tl];lia),?_⟩)⟩));refine(zq rfl rfl (zC rfl rfl ⟨s2.put hd,?_,some (.str x),?_⟩))
  ·rw[uX9,e,uD,hx]
   rfl
  ·show[_,_,some (V.int (_+_)),_]=_
   rw[<- Int.natCast_add,<- Nat.two_mul,Nat.mul_comm,<- Nat.pow_succ]
 ·rintro σ H1 ⟨s2,hd2,z,rfl⟩
  rw[ua,ur (uj _)]at hd2;exact(zg rfl (q _ d s2 hd hd2))
theorem scTog:FnScope ["names","bits","found","name"] ["names","bits"] (zp sTog):=.ok
theorem zc6(F:Fun K "together" "together" sTog f fd):FnOk P w K mg base CX0 1 f fd ["names","bits"] spTog:=by
 refine F.by scTog (fun vs H Q E h=>?_) (fun cdv A outer s H vs Q E hr h=>?_)
 ·obtain⟨p,d,xs,ns,rfl,_⟩:=h
  rfl
 obtain⟨p,d,xs,ns,rfl,hp,hd,q⟩:=h;refine⟨_,
  (zh (sE 2 scTog.nd zt)
  (zh (yt PassesOwn.never rfl (yH K (jv 0)) (gN 3 scTog.nd)
   (zk (sE 2 scTog.nd (zA XI (jv 2) (v5 hr (jv 1) (jv 3) zt)))))
  (zk (zv (jv 2))))),?_⟩
 refine(zg rfl ⟨p,rfl,⟨_,SqT.of hp⟩,xi (xs:=xs.map V.str) (fun i σ H'=>H=H'/\∃z,σ=[sR p,sR d,some (.int ((tog ns (xs.take i):Nat):Int)),z]) ⟨rfl,none,rfl⟩ (fun i σ H' _ h=>SqT.of (h.1 ▸ hp)) ?_ ?_⟩)
 ·rintro i v σ H1 hv ⟨rfl,z,rfl⟩
  obtain⟨x,hx,rfl⟩:=L2.gM hv;have e:((valV (yE ns 1) (.inr x)).getD (.int 0))=.int ((bitN ns x:Nat):Int):=by
   rw[xZ];by_cases c:x∈ns
   ·rw[if_pos c,Nat.one_mul];rfl
   ·rw[if_neg c,YD c];rfl
  refine(zq rfl rfl ⟨d,rfl,.inl ⟨_,.inl hd⟩,(zg rfl ⟨_,DGet.k (k:=.inr x) hd,?_⟩)⟩);rw[e];refine(zC rfl rfl ⟨rfl,some (.str x),?_⟩);show[_,_,some (V.int (Builtin.bitOr _ _)),_]=_;rw[ZG,<- JK hx]
 ·rintro σ H1 ⟨rfl,z,rfl⟩
  rw[ua,ur (uj _)];exact(zg rfl (q))
theorem W7:FnScope ["deed"] ["deed"] (zp vR):=.ok
theorem XJ(F:Fun K "names_of" "names_of" vR f fd):FnOk P w K mg base CX0 1 f fd ["deed"] spNamesOf:=by
 refine F.by W7 (fun vs H Q E h=>?_) (fun cdv A outer s H vs Q E hr h=>?_)
 ·obtain⟨p,d,rfl,_⟩:=h
  rfl
 obtain⟨p,d,rfl,hd,q⟩:=h;refine⟨_,
  (zh (zE (tN zI (zn K (jv 0)) zw) (zk (zv (zB zL))) zx)
  (zh (zE (tN zI (zn K (jv 0)) zw) (zk (zv (yL wO (jv 0) (yX zt) yW))) zx)
  (zh (zE (tN zI (zn K (jv 0)) zw) (zk (zv (zA wx (zB (jA1 (zn K (jv 0)))) (zn K (jv 0))))) zx)
  (zk (zv (zn K (jv 0))))))),?_⟩
 have sl:=zO;cases hd with
 |num hp =>
  refine(zg rfl (ixT hp aI0 ⟨rfl,(zg rfl (ite2 (fun _=>?_) aB))⟩));exact⟨sN0,fun r hr=>q _ r (zo hr _) uX9⟩
 |@op w0 a b _ hp =>
  refine(zg rfl (ixT hp aI0 ⟨rfl,(zg rfl (ite2 aB (fun _=>?_)))⟩));refine(zg rfl (ixT hp aI0 ⟨rfl,(zg rfl (ite2 (fun _=>?_) aB))⟩));exact(zq rfl rfl ⟨p,(zg rfl ⟨hp,fun r H' s1 h1=>q H' r s1 h1⟩)⟩)
 |@app w0 g xs _ pq hw hp hq =>
  obtain⟨w1,w2,w3⟩:=hw;have n1:¬ (decide (V.str w0=V.str "num")=true):=fun c=>w1 (V.str.inj (of_decide_eq_true c));have n2:¬ (decide (V.str w0=V.str "op")=true):=fun c=>w2 (V.str.inj (of_decide_eq_true c));refine(zg rfl (ixT hp aI0 ⟨rfl,(zg rfl (ite2 (fun c=>absurd c n1) (fun _=>?_)))⟩));refine(zg rfl (ixT hp aI0 ⟨rfl,(zg rfl (ite2 (fun c=>absurd c n2) (fun _=>?_)))⟩));refine(zg rfl (ixT hp aI0 ⟨rfl,(zg rfl (ite2 (fun c=>?_) (fun c=>?_)))⟩))
  ·have e:w0="ask":=V.str.inj (of_decide_eq_true c)
   subst e;rw[zX]at q;refine(zg rfl (ixT hp aI1 ⟨sN1,fun t1 h1=>?_⟩));have s1:=zo (o:=.tup [.str g]) h1;refine(zg rfl (ixT (s1 _ _ hp) aI2 ⟨t1,pq,(zC rfl rfl ⟨SqT.of uX9,SqT.of (s1 _ _ hq),by simp,by rw[ua];show 1+xs.length<=_;lia,fun e=>?_,fun _ r hr=>?_⟩)⟩))
   ·have e:xs=[]:=List.map_eq_nil_iff.mp e
    subst e;exact q _ t1 s1 uX9
   ·exact q _ r (s1.new hr) uX9
  ·have e:w0≠"ask":=fun e=>c (decide_eq_true (by rw[e]))
   rw[zV e]at q;exact(zg rfl (ixT hp aI2 (q _ pq (Same.refl _) hq)))
theorem zc7:FnScope ["body"] ["body"] (zp wj):=.ok
theorem zaJ(F:Fun K "names_used" "names_used" wj f fd)(GN':Ca P w K mg base CX0 1 "names_of" ["deed"] spNamesOf):FnOk P w K mg base CX0 2 f fd ["body"] spUsed:=by
 refine F.by zc7 (fun vs H Q E h=>?_) (fun cdv A outer s H vs Q E hr h=>?_)
 ·obtain⟨p,b,rfl,_⟩:=h
  rfl
 obtain⟨p,b,rfl,hb,q⟩:=h;refine⟨_,
  (zh (zE (tN zI (zn K (jv 0)) zw) (zk (zv (cA GN' hr (jA1 (zn K (jv 0)))))) zx)
  (zh (zE (tN zI (zn K (jv 0)) zw) (zk (zv (zB (jA1 (zn K (jv 0)))))) zx)
  (zh (zE (Zn K (zn K (jv 0)) (zB (jA2 zw zw))) (zk (zv (zB zL))) zx)
  (zk (zv (zB (jA1 (zn K (jv 0))))))))),?_⟩
 have sl:=zO
 suffices tail:∀{t x:Str}{xs:List V},H p=some (.tup (.str t::.str x::xs))->t≠"let"->t≠"hold"->inV (.str t) [V.str "drop",V.str "loose"]=false->(∀(H':Hp)(q:Addr),Same H H'->H' q=some (.tup [.str x])->Q (.ref q) H') ->
   (tSeq _ (tSeq _ (tSeq _ _)):TS) { nx:=fun _ H'=>Q .non H',rt:=Q } [sR p] H by
  cases hb with
  |give hp=>exact tail hp (by decide) (by decide) (by decide) q
  |iff hp _ _=>exact tail hp (by decide) (by decide) (by decide) q
  |case hp _ _ _=>exact tail hp (by decide) (by decide) (by decide) q
  |@lt x d b _ p1 p2 hp hd hb =>
   refine(zg rfl (ixT hp aI0 ⟨rfl,(zg rfl (ite2 (fun _=>?_) aB))⟩));exact(zg rfl (ixT hp aI2 ⟨p1,d,rfl,hd,fun H' r s1 h1=>q H' r s1 h1⟩))
 intro t x xs hp h1 h2 h3 q;have n1:¬ (decide (V.str t=V.str "let")=true):=fun c=>h1 (V.str.inj (of_decide_eq_true c));have n2:¬ (decide (V.str t=V.str "hold")=true):=fun c=>h2 (V.str.inj (of_decide_eq_true c));refine(zg rfl (ixT hp aI0 ⟨rfl,(zg rfl (ite2 (fun c=>absurd c n1) (fun _=>?_)))⟩));refine(zg rfl (ixT hp aI0 ⟨rfl,(zg rfl (ite2 (fun c=>absurd c n2) (fun _=>?_)))⟩));refine(zg rfl (ixT hp aI0 ⟨sN2,fun t0 h0=>?_⟩));have s0:=zo (o:=.tup [.str "drop",.str "loose"]) h0;refine⟨t0,(zg rfl ⟨.inr (SqT.of uX9),rfl,rfl,(zg rfl ?_)⟩)⟩;refine ite2 (fun c=>absurd (show inV (.str t) [V.str "drop",V.str "loose"]=true from c) (by rw[h3];decide)) (fun _=>?_);exact(zg rfl (ixT (s0 _ _ hp) aI1 ⟨sN1,fun r hr=>q _ r (s0.new hr) uX9⟩))
theorem IsY.get{H:Hp}:∀{l:Wy}{ps:List Addr}{i:Nat}{p:Addr},IsY H l ps->ps[i]?=some p->∃ns b q r,l[i]?=some (ns,b)/\H p=some (.tup [.ref q,.ref r])/\H q=some (.tup (ns.map V.str))/\IsB H b r
 |_,_,_,_,.nil,e=>by simp at e
 |_,_,0,_,.cons a b c _,e=>by
  simp at e
  subst e;exact⟨_,_,_,_,rfl,a,b,c⟩
 |_,_,i+1,_,.cons _ _ _ d,e=>by
  obtain⟨ns,b,q,r,h1,h2⟩:=IsY.get (i:=i) d (by simpa using e);exact⟨ns,b,q,r,by simpa using h1,h2⟩
def Nt(H:Hp)(m:Nat)(v:V):Prop:=∃q l,v=.ref q/\H q=some (.tup [.int ((m:Nat):Int),.ref l])
theorem Nt.keep(h:Nt H m v)(t:Tups H H'):Nt H' m v:=by obtain⟨q,l,e,h⟩:=h;exact⟨q,l,e,t _ _ h⟩
def NtL(H:Hp)(R:Addr->Prop)(m:Nat)(v:V)(nv:List V):Prop:=∃q l,v=.ref q/\H q=some (.tup [.int ((m:Nat):Int),.ref l])/\R l/\H l=some (.lst nv)
mutual
def IsN(ns:lS)(H:Hp)(R:Addr->Prop):Bd->V->Prop
 |.give x,v=>NtL H R ((Bd.give x).mk ns) v []
 |.lt x d b,v=>∃w,NtL H R ((Bd.lt x d b).mk ns) v [w]/\IsN ns H R b w
 |.iff x a b,v=>∃w u,NtL H R ((Bd.iff x a b).mk ns) v [w,u]/\IsN ns H R a w/\IsN ns H R b u
 |.case x as,v=>∃ws,NtL H R ((Bd.case x as).mk ns) v ws/\IsNA ns H R as ws
def IsNA(ns:lS)(H:Hp)(R:Addr->Prop):Arms->List V->Prop
 |.nil,ws=>ws=[]
 |.cons _ _ b r,ws=>∃w ws',ws=w::ws'/\IsN ns H R b w/\IsNA ns H R r ws'
end
structure NK(H H':Hp)(R R':Addr->Prop):Prop where
 t:Tups H H'
 l:∀a xs,R a->H a=some (.lst xs)->H' a=some (.lst xs)
 s:∀a,R a->R' a
theorem NtL.keep{nv:List V}(k:NK H H' R R')(h:NtL H R m v nv):NtL H' R' m v nv:=by obtain⟨q,l,e,a,b,c⟩:=h;exact⟨q,l,e,k.t _ _ a,k.s _ b,k.l _ _ b c⟩
mutual
theorem IsN.keep{ns:lS}{H H':Hp}{R R':Addr->Prop}(k:NK H H' R R'):∀{b:Bd}{v:V},IsN ns H R b v->IsN ns H' R' b v
 |.give x,v,h=>NtL.keep k h
 |.lt x d b,v,h=>let ⟨w,a,e⟩:=h;⟨w,a.keep k,IsN.keep k e⟩
 |.iff x a b,v,h=>let ⟨w,u,a,e,g⟩:=h;⟨w,u,a.keep k,IsN.keep k e,IsN.keep k g⟩
 |.case x as,v,h=>let ⟨ws,a,e⟩:=h;⟨ws,a.keep k,IsNA.keep k e⟩
theorem IsNA.keep{ns:lS}{H H':Hp}{R R':Addr->Prop}(k:NK H H' R R'):∀{as:Arms}{ws:List V},IsNA ns H R as ws->IsNA ns H' R' as ws
 |.nil,ws,h=>h
 |.cons _ _ b r,ws,h=>let ⟨w,ws',e,g,i⟩:=h;⟨w,ws',e,IsN.keep k g,IsNA.keep k i⟩
end
def IsNs(ns:lS)(H:Hp)(R:Addr->Prop)(l:Wy)(nv:List V):Prop:=All2 (fun(w:lS×Bd) v=>IsN ns H R w.2 v) l nv
theorem IsNA.ways{ns:lS}{H:Hp}{R:Addr->Prop}:∀{as:Arms}{ws:List V},IsNA ns H R as ws↔IsNs ns H R as.ways ws
 |.nil,ws=>by
  unfold IsNA IsNs Arms.ways
  constructor
  ·rintro rfl;exact .nil
  ·intro h;cases h;rfl
 |.cons t xs b r,ws=>by
  unfold IsNA IsNs Arms.ways
  constructor
  ·rintro⟨w,ws',rfl,h1,h2⟩
   exact .cons h1 (IsNA.ways.mp h2)
  ·intro h
   cases h with
   |cons a c=>exact⟨_,_,rfl,a,IsNA.ways.mpr c⟩
theorem IsN.ways{b:Bd}:IsN ns H R b v↔∃nv,NtL H R (b.mk ns) v nv/\IsNs ns H R b.ways nv:=by
 cases b with
 |give x =>
  unfold IsN Bd.ways
  constructor
  ·intro h;exact⟨_,h,.nil⟩
  ·rintro⟨nv,h1,h2⟩;cases h2;exact h1
 |lt x d b =>
  unfold IsN Bd.ways
  constructor
  ·rintro⟨w,h1,h2⟩;exact⟨_,h1,.cons h2 .nil⟩
  ·rintro⟨nv,h1,h2⟩
   cases h2 with
   |cons a c=>cases c;exact⟨_,h1,a⟩
 |iff x a b =>
  unfold IsN Bd.ways
  constructor
  ·rintro⟨w,u,h1,h2,h3⟩;exact⟨_,h1,.cons h2 (.cons h3 .nil)⟩
  ·rintro⟨nv,h1,h2⟩
   cases h2 with
   |cons a c =>
    cases c with
    |cons d e=>cases e;exact⟨_,_,h1,a,d⟩
 |case x as =>
  unfold IsN Bd.ways
  constructor
  ·rintro⟨ws,h1,h2⟩;exact⟨ws,h1,IsNA.ways.mp h2⟩
  ·rintro⟨ws,h1,h2⟩;exact⟨ws,h1,IsNA.ways.mpr h2⟩
theorem IsN.nt{b:Bd}(h:IsN ns H R b v):Nt H (b.mk ns) v:=by obtain⟨_,⟨q,l,e,a,_⟩,_⟩:=IsN.ways.mp h;exact⟨q,l,e,a⟩
def IsN0(ns:lS)(H:Hp)(l:Wy)(nv:List V):Prop:=All2 (fun(w:lS×Bd) v=>Nt H (w.2.mk ns) v) l nv
inductive spNoteOf(vs:List V)(H:Hp)(Q:VK)(e_3:XK):Prop
 |mk (p:Addr) (wl:Addr) (nl:Addr) (d:Addr) (b:Bd) (ps:List Addr) (nv:List V):(∃ns:lS,vs=[.ref p,.ref wl,.ref nl,.ref d]/\IsB H b p/\H wl=some (.lst (ps.map V.ref))/\IsY H b.ways ps/\H nl=some (.lst nv)/\IsN0 ns H b.ways nv/\H d=some (.dK (yE ns 1))/\∀H' r,Same H H'->H' r=some (.tup [.int ((b.mk ns:Nat):Int),.ref nl])->Q (.ref r) H')->spNoteOf vs H Q e_3
theorem W8{l:Wy}{xs:lS}{b:Bd}(h:l[i]?=some (xs,b)):accW ns (l.take (i+1)) 0=accW ns (l.take i) 0 ||| dif (b.mk ns) (tog ns xs):=by
 unfold accW;rw[uD,h,List.foldl_append]
 rfl
theorem scNoteOf:FnScope ["body","ways","notes","bits","found","way","note"] lS16 (zp Zq):=.ok
theorem W9(F:Fun K "note_of" "note_of" Zq f fd)(GT:Ca P w K mg base CX0 1 "together" ["names","bits"] spTog)(GU:Ca P w K mg base CX0 2 "names_used" ["body"] spUsed)(m_zip:mg "zip"=none):FnOk P w K mg base CX0 3 f fd lS16 spNoteOf:=by
 refine F.by scNoteOf (fun vs H Q E h=>?_) (fun cdv A outer s H vs Q E hr h=>?_)
 ·obtain⟨p,wl,nl,d,b,ps,nv,ns,rfl,_⟩:=h
  rfl
 obtain⟨p,wl,nl,d,b,ps,nv,ns,rfl,hb,hw,hy,hn,hnv,hd,q⟩:=h;have hr1:Room 1 _:=hr.mono (by decide);refine⟨_,
  (zh (sE 4 scNoteOf.nd zt)
  (zh (yt PassesOwn.never rfl (yI K rfl m_zip (jA2 (jv 1) (jv 2))) (zN K rfl (zu (gN 5 scNoteOf.nd) (zu (gN 6 scNoteOf.nd) zM)))
   (zk (sE 4 scNoteOf.nd (zA XI (jv 4) (zA Wh (zn K (jv 6)) (zc5 (cA GT hr1 (jA2 (zn K (jv 5)) (jv 3)))))))))
  (zk (zv (zB (jA2 (zA XI (jv 4) (cA GT hr1 (jA2 (cA GU hr (jA1 (jv 0))) (jv 3)))) (jv 2))))))),?_⟩
 have sl:=zO;have yl:=hy.len;have nl':b.ways.length=nv.length:=All2.len hnv;refine(zq rfl rfl ⟨wl,nl,true,true,_,_,rfl,SqK.l hw,SqK.l hn,vk (xs:=ps.map V.ref) (ys:=nv) (by rw[ua];lia) (fun i σ H'=>Same H H'/\∃y z,σ=[sR p,sR wl,sR nl,sR d,some (.int ((accW ns (b.ways.take i) 0:Nat):Int)),y,z]) ⟨Same.refl _,none,none,rfl⟩ (fun i σ H' _ h=>⟨SqK.l (h.1 _ _ hw),SqK.l (h.1 _ _ hn)⟩) ?_ ?_⟩)
 ·rintro i v1 v2 T σ H1 hv1 hv2 hT ⟨s1,y,z,rfl⟩
  obtain⟨pw,hpw,rfl⟩:=L2.gM hv1;obtain⟨xs,b',q1,r1,e1,e2,e3,e4⟩:=hy.get hpw;obtain⟨w',e1',qn,ln,rfl,en⟩:=All2.get hnv hv2;rw[e1]at e1';cases e1';have s2:=s1.new (o:=.tup [.ref pw,.ref qn]) hT;refine⟨T,(zg rfl ⟨SqT.of uX9,rfl,_,_,rfl,_,_,rfl,rfl,?_⟩)⟩;refine(zq rfl rfl (ixT (s2 _ _ en) aI0 (zg rfl (ixT (s2 _ _ e2) aI0 (zg rfl ⟨q1,d,xs,ns,rfl,s2 _ _ e3,s2 _ _ hd,(zg rfl (zC rfl rfl (zC rfl rfl ⟨s2,sR pw,sR qn,?_⟩)))⟩)))));show[_,_,_,_,some (V.int (Builtin.bitOr _ (Builtin.bitAnd _ _))),_,_]=_;rw[JF,ZG,<- W8 e1]
 ·rintro σ H1 ⟨s1,y,z,rfl⟩
  rw[ua,<- yl,ur (uj _)];refine(zq rfl rfl ⟨p,b,rfl,hb.keep (.of s1),fun H2 qu s2 hqu=>?_⟩);refine(zg rfl ⟨qu,d,_,ns,rfl,hqu,s2 _ _ (s1 _ _ hd),(zC rfl rfl (zg rfl ⟨sN2,fun r hr=>?_⟩))⟩);refine q _ r ((s1.trans s2).new hr) ?_;rw[uX9];show some (HO.tup [V.int (Builtin.bitOr _ _),_])=_;rw[ZG,<- Bd.mk_ways]
def Wi:Expr:=match zP yR with
 |[_,.Return (some (.Tuple [_,l] _ _)) _]=>l
 |_=>.Constant .none 0 ⟨0,0,0,0⟩
def zbF:Arguments:=match Wi with
 |.Lambda a _ _ _=>a
 |_=>yk yR
def JL:Expr:=match Wi with
 |.Lambda _ b _ _=>b
 |e=>e
def JM:Scope:=match Wi with
 |.Lambda _ _ s _=>s
 |_=>zp yR
def Wj:Pos:=match Wi with
 |.Lambda _ _ _ p=>p
 |_=>⟨0,0,0,0⟩
def YH:Str:=("begun_note":Str)++(".<locals>.":Str)++("<lambda>":Str)
def cl2(c1 c2 c3:Addr):List (Str×Addr):=[("ways",c3),("body",c1),("bits",c2)]
abbrev ja(mg:Str->Option Value)(c1 c2 c3 c:Addr)(ct:Value):FuncData:=lamC mg YH zbF JL JM (cl2 c1 c2 c3) c ct
theorem zc8:LamScope ["notes","bits","body","ways"] ["notes"] ["bits","body","ways"] JM:=⟨rfl,rfl,rfl,by decide +kernel,rfl,by decide +kernel,by decide +kernel,by decide +kernel,by decide +kernel⟩
theorem JN:∃p0 p1 p2 p3 p4 p5,JL=.Call (.Name "note_of" p0) [.Name "body" p1,.Name "ways" p2,.Name "notes" p3,.Name "bits" p4] [] p5:=⟨_,_,_,_,_,_,rfl⟩
def Clo2(mg:Str->Option Value)(ns:lS)(H:Hp)(R:Addr->Prop)(d:Addr)(b:Bd)(f:Addr):Prop:=∃c1 c2 c3 c ct p wl ps,H f=some (FunO f (ja mg c1 c2 c3 c ct))/\H c=some (CodO c YH)/\Cel H c1 (.ref p)/\Cel H c2 (.ref d)/\Cel H c3 (.ref wl)/\c1≠c2/\c1≠c3/\c2≠c3/\IsB H b p/\H wl=some (.lst (ps.map V.ref))/\R wl/\IsY H b.ways ps
inductive spLam2(mg:Str->Option Value)(ns:lS)(f:Addr)(fd:FuncData)(vs:List V)(H:Hp)(Q:VK)(e_3:XK):Prop
 |mk (nl:Addr) (d:Addr) (c1:Addr) (c2:Addr) (c3:Addr) (c:Addr) (p:Addr) (wl:Addr) (ct:Value) (b:Bd) (ps:List Addr):(∃nv:List V,vs=[.ref nl]/\fd=ja mg c1 c2 c3 c ct/\H f=some (FunO f fd)/\H c=some (CodO c YH)/\Cel H c1 (.ref p)/\Cel H c2 (.ref d)/\Cel H c3 (.ref wl)/\c1≠c2/\c1≠c3/\c2≠c3/\IsB H b p/\H wl=some (.lst (ps.map V.ref))/\IsY H b.ways ps/\H nl=some (.lst nv)/\IsN0 ns H b.ways nv/\H d=some (.dK (yE ns 1))/\∀H' r,Same H H'->H' r=some (.tup [.int ((b.mk ns:Nat):Int),.ref nl])->Q (.ref r) H')->spLam2 mg ns f fd vs H Q e_3
theorem clo3{c2 c3:Addr}{v1 v2 v3:V}(h1:Cel H c1 v1)(h2:Cel H c2 v2)(h3:Cel H c3 v3)(n1:c1≠c2)(n2:c1≠c3)(n3:c2≠c3):Clo H (cl2 c1 c2 c3) ["bits","body","ways"] [v2,v1,v3]:=by
 have l1:(cl2 c1 c2 c3).lookup ("bits":Str)=some c2:=rfl;have l2:(cl2 c1 c2 c3).lookup ("body":Str)=some c1:=rfl;have l3:(cl2 c1 c2 c3).lookup ("ways":Str)=some c3:=rfl;refine⟨rfl,fun p hp=>?_,fun i x v e1 e2=>?_,fun x hx=>?_,fun x y a e1 e2=>?_⟩
 ·unfold cl2 at hp
  simp only[uk,Up,or_false]at hp
  rcases hp with rfl|rfl|rfl
  ·exact⟨_,h3⟩
  ·exact⟨_,h1⟩
  ·exact⟨_,h2⟩
 ·match i,e1,e2 with
  |0,e1,e2=>cases e1;cases e2;exact⟨c2,l1,h2⟩
  |1,e1,e2=>cases e1;cases e2;exact⟨c1,l2,h1⟩
  |2,e1,e2=>cases e1;cases e2;exact⟨c3,l3,h3⟩
  |i+3,e1,_=>simp at e1
 ·simp only[uk,Up,or_false]at hx
  rcases hx with rfl|rfl|rfl
  ·exact⟨_,l1⟩
  ·exact⟨_,l2⟩
  ·exact⟨_,l3⟩
 ·have m1:=uY e1
  have m2:=uY e2;unfold cl2 at m1 m2;simp only[uk,Prod.mk.injEq,Up,or_false]at m1 m2
  rcases m1 with⟨rfl,rfl⟩|⟨rfl,rfl⟩|⟨rfl,rfl⟩<;>rcases m2 with⟨rfl,z⟩|⟨rfl,z⟩|⟨rfl,z⟩<;>first|rfl|exact absurd z (by assumption)|exact absurd z.symm (by assumption)
theorem yj(hc:∀a∈as,∃v,Cel H a v):Tups H (z7 H as):=fun p xs e=>zJ hc e (by intro _ _ _ z;cases z)
theorem xa(s:Same (z7 H as) H'):Same H (xr H' H as):=fun b u e=>by
 by_cases z:b∈as
 ·rw[wE z];exact e
 ·rw[yM z];exact s b u (by rw[zZ z];exact e)
theorem yS{u:HO}(hn:∀a∈as,H' a=none)(e:H' b=some u):xr H' H as b=some u:=by
 rw[yM]
 ·exact e
 ·intro z;rw[hn b z]at e;cases e
theorem zaK(GN':Ca P w K mg base CX0 3 "note_of" lS16 spNoteOf)(ns:lS)(f c1 c2 c3 c:Addr)(ct:Value):FnOk P w K mg base CX0 4 f (ja mg c1 c2 c3 c ct) ["notes"] (spLam2 mg ns f (ja mg c1 c2 c3 c ct)):=by
 refine Zm (k:=3) zc8 (fun vs H Q E h=>?_) (fun A outer s H vs Q E hr h=>?_)
 ·obtain⟨nl,d,_,_,_,_,p,wl,_,b,ps,nv,rfl,_⟩:=h
  rfl
 ·obtain⟨nl,d,d1,d2,d3,d0,p,wl,ct',b,ps,nv,rfl,efd,hf,hc,h1,h2,h3,n1,n2,n3,hb,hw,hy,hn,hnv,hd,q⟩:=h
  have ecl:cl2 c1 c2 c3=cl2 d1 d2 d3:=congrArg FuncData.closure efd;have ec:Value.ref c=Value.ref d0:=congrArg FuncData.code efd;cases ec;have e3:c3=d3:=by injection ecl with a b;exact(Prod.mk.inj a).2
  have e1:c1=d1:=by injection ecl with a b;injection b with a b;exact(Prod.mk.inj a).2
  have e2:c2=d2:=by injection ecl with a b;injection b with a b;injection b with a b;exact(Prod.mk.inj a).2
  subst e1;subst e2;subst e3;refine⟨hf,hc,_,clo3 h1 h2 h3 n1 n2 n3,?_⟩;obtain⟨p0,p1,p2,p3,p4,p5,eb⟩:=JN;rw[eb];have hcA:∀a∈(cl2 c1 c2 c3).map (·.2),∃v,Cel H a v:=fun a ha=>by
   obtain⟨p,hp,rfl⟩:=uu.mp ha;exact(clo3 h1 h2 h3 n1 n2 n3).all p hp
  have tp:=yj hcA;have ml:∀{b:Addr}{xs:List V},H b=some (.lst xs)->z7 H ((cl2 c1 c2 c3).map (·.2)) b=some (.lst xs):=fun e=>zJ hcA e (by intro _ _ _ z;cases z);refine⟨_,(cA GN' hr (jA4 (jv 2) (jv 3) (jv 0) (jv 1))),?_⟩;refine(zq rfl rfl (zq rfl rfl ⟨p,wl,nl,d,b,ps,nv,ns,rfl,hb.keep tp,ml hw,hy.keep tp,ml hn,hnv.imp fun _ _ h=>h.keep tp,zJ hcA hd (by intro _ _ _ z;cases z),fun H' r s1 hr1 hnn=>?_⟩));exact q _ r (xa s1) (yS hnn hr1)
theorem zaL(c1 c2 c3 c:Addr)(ct:Value):Binds K (ja mg c1 c2 c3 c ct) ["notes"] []:=.all fun us hl=>match us,hl with|[_],_=>rfl
theorem Pub.same{H3:Hp}(h:Pub H H3 cvs):Same H H3:=fun b u e=>by
 rw[h.old b]
 ·exact e
 ·intro z
  obtain⟨p,hp,rfl⟩:=uu.mp z;rw[h.non p hp]at e;cases e
def ls2:List (Pos×Str):=[(Wj,YH)]
def IsKs(H:Hp)(l:Wy)(vs:List V):Prop:=All2 (fun(w:lS×Bd) v=>∃p,v=.ref p/\IsB H w.2 p) l vs
inductive spBegNote(mg:Str->Option Value)(T:Addr)(vs:List V)(H:Hp)(Q:VK)(e_3:XK):Prop
 |mk (p:Addr) (d:Addr) (b:Bd):(∃ns:lS,vs=[.ref p,.ref d]/\IsB H b p/\b.sz<=1000000/\TbG T ls2 H/\∀H' q l fl wl vs,KM (·=T) H H'->TbG T ls2 H'->H' q=some (.tup [.ref l,.ref fl])->H l=none->H' l=some (.lst vs)->IsKs H' b.ways vs->H wl=none->(∃xs,H' wl=some (.lst xs))->(∀R:Addr->Prop,R wl->Clo2 mg ns H' R d b fl)->Q (.ref q) H')->spBegNote mg T vs H Q e_3
theorem scBegNote:FnScope ["body","bits","ways"] lS19 (zp yR):=.ok
theorem Va:(["body","bits","ways","way"]:lS).Nodup:=by decide +kernel
theorem XL(F:FunC K "begun_note" yR c f fd)(hB:BMn mg base)(hc:Ub K c T=true)(GW:Ca P w K mg base CX0 1 "ways_on" ["body"] spWays):FnOk P w K mg base CX0 2 f fd lS19 (spBegNote mg T):=by
 refine F.byR scBegNote (fun vs H Q E h=>?_) (fun A outer s H vs Q E hr h fresh=>?_)
 ·obtain⟨p,d,b,ns,rfl,_⟩:=h
  rfl
 obtain⟨p,d,b,ns,rfl,hb,hz,hT,q⟩:=h;refine⟨_,
  (zW (sE 2 scBegNote.nd (cA GW hr (jA1 (jv 0))))
  (xO (zB (ja_c (yf ["way"] rfl (zR K (jv 2)) (fun _ _ _ _ _=>(gN 3 Va)) (fun _ _ _ _ _=>yn) (fun _ _ _ _ _=>(zn K (jv 3))))
   (jA1 (xl (params:=zbF) (body:=JL) (scope:=JM) (pos:=Wj) (T:=T) (qual:=YH) (cl:=cl2 (s.heap.objs.size+1) (s.heap.objs.size+2) (s.heap.objs.size+3)) hB rfl hc rfl)))))),?_⟩
 have sl:=zO;refine(zg rfl ⟨p,b,rfl,hb,hz,fun H1 wl ps s1 hwl hwl1 hy=>?_⟩);have yl:=hy.len;have wl1:=YF b.ways;have wl2:=Bd.wsz b;refine(zg rfl ⟨wl,rfl,⟨_,SqL.of hwl1⟩,ym (xs:=ps.map V.ref) (fun j τ ys H'=>H1=H'/\(∃v,τ=[sR p,sR d,sR wl,v])/\IsKs H1 (b.ways.take j) ys) ⟨rfl,⟨none,rfl⟩,.nil⟩ (fun j τ ys H' _ h=>SqL.of (h.1 ▸ hwl1)) ?_ ?_⟩)
 ·rintro j v τ ys H2 hv ⟨rfl,⟨v',rfl⟩,hk⟩
  obtain⟨pw,hpw,rfl⟩:=L2.gM hv;obtain⟨xs,b',q1,r1,e1,e2,e3,e4⟩:=hy.get hpw;have kl:=All2.len hk;rw[uq]at kl;refine(zg rfl (ixT e2 aI1 ⟨by have:=(ud.mp e1).1;lia,rfl,⟨_,rfl⟩,?_⟩));rw[uD,e1];exact All2.app hk (.cons ⟨r1,rfl,e4⟩ .nil)
 rintro τ ys H2 ⟨rfl,_,hk⟩ l hl;rw[ua,<- yl,ur (uj _)]at hk;have s2:=zo (o:=.lst ys) hl;have hTb:TbG T ls2 (upd H1 l (.lst ys)):=hT.keep (fun ps e=>s2 _ _ (s1 _ _ e)) (fun c q e=>s2 _ _ (s1 _ _ e));refine yQ hTb (by unfold ls2;exact .head _) (fun p hp _=>by unfold ls2 at hp;rw[uo.mp hp]) fun H3 fl cc ct k3 T3 hfl nfT ncT hfl3 hcc=>?_;refine⟨sN2,fun r hr=>?_⟩;have nlT:∀{b:Addr}{u:HO},upd H1 l (.lst ys) b=some u->(∀ps,u≠.tbl ps)->b≠T:=fun{b u} e n z=>by
  obtain⟨ps,h,_⟩:=hTb;rw[z,h]at e;exact n _ (uZ.inj e).symm
 have k4:∀b u,b≠T->upd H1 l (.lst ys) b=some u->upd H3 r (.tup [.ref l,.ref fl]) b=some u:=fun b u n e=>by
  rw[zj (zi (k3 b u n e) hr)];exact k3 b u n e
 have t4:Tups (upd H1 l (.lst ys)) (upd H3 r (.tup [.ref l,.ref fl])):=fun b xs e=>k4 b _ (nlT e (by intro _ z;cases z)) e;have T4:TbG T ls2 (upd H3 r (.tup [.ref l,.ref fl])):=T3.keep (fun ps e=>old hr e) (fun c q e=>old hr e);have e_l:=k4 l _ (nlT uX9 (by intro _ z;cases z)) uX9;have e_w:=k4 wl _ (nlT (s2 _ _ hwl1) (by intro _ z;cases z)) (s2 _ _ hwl1);have k04:KM (·=T) H (upd H3 r (.tup [.ref l,.ref fl])):=fun b u n e=>k4 b u n (s2 _ _ (s1 _ _ e));have tp04:Tups H1 (upd H3 r (.tup [.ref l,.ref fl])):=fun b xs e=>t4 b xs (s2 _ _ e);have hr4:=uX9 (H:=H3) (a:=r) (o:=.tup [.ref l,.ref fl]);have hfl4:=old (o:=.tup [.ref l,.ref fl]) hr hfl3;have hcc4:=old (o:=.tup [.ref l,.ref fl]) hr hcc;generalize upd H3 r (.tup [.ref l,.ref fl])=H4 at *;refine⟨[(s.heap.objs.size+1,.ref p),(s.heap.objs.size+2,.ref d),(s.heap.objs.size+3,.ref wl)],fun x hx=>?_,fun H5 pb=>?_⟩
 ·simp only[uk,Up,or_false]at hx
  rcases hx with rfl|rfl|rfl
  ·exact⟨0,"body",rfl,rfl,rfl,.inl rfl⟩
  ·exact⟨1,"bits",rfl,rfl,rfl,.inl rfl⟩
  ·exact⟨2,"ways",rfl,rfl,rfl,.inl rfl⟩
 have s5:=Pub.same pb;refine q H5 r l fl wl ys (k04.trans (.of s5)) (T4.keep (fun ps e=>s5 _ _ e) fun c q e=>s5 _ _ e) (s5 _ _ hr4) (s1.free hl) (s5 _ _ e_l) (hk.imp fun _ _ ⟨p,e,h⟩=>⟨p,e,h.keep (tp04.trans (.of s5))⟩) hwl ⟨_,s5 _ _ e_w⟩ fun R hR=>?_;exact⟨_,_,_,cc,ct,p,wl,ps,s5 _ _ hfl4,s5 _ _ hcc4,pb.cel (_,_) (.head _),pb.cel (_,_) (.tail _ (.head _)),pb.cel (_,_) (.tail _ (.tail _ (.head _))),by simp,by simp,by simp,hb.keep ((Tups.of s1).trans (tp04.trans (.of s5))),s5 _ _ e_w,hR,hy.keep (tp04.trans (.of s5))⟩
def Wk:Expr:=match zP wV with
 |[.Return (some (.Call _ [_,l] _ _)) _]=>l
 |_=>.Constant .none 0 ⟨0,0,0,0⟩
def zbG:Arguments:=match Wk with
 |.Lambda a _ _ _=>a
 |_=>yk wV
def JO:Expr:=match Wk with
 |.Lambda _ b _ _=>b
 |e=>e
def JP:Scope:=match Wk with
 |.Lambda _ _ s _=>s
 |_=>zp wV
def Wl:Pos:=match Wk with
 |.Lambda _ _ _ p=>p
 |_=>⟨0,0,0,0⟩
def YI:Str:=("noted":Str)++(".<locals>.":Str)++("<lambda>":Str)
def ls1:List (Pos×Str):=[(Wl,YI)]
def cl1(c0:Addr):List (Str×Addr):=[("bits",c0)]
abbrev jb(mg:Str->Option Value)(c0 c:Addr)(ct:Value):FuncData:=lamC mg YI zbG JO JP (cl1 c0) c ct
theorem zc9:LamScope ["task","bits"] ["task"] ["bits"] JP:=⟨rfl,rfl,rfl,by decide +kernel,rfl,by decide +kernel,by decide +kernel,by decide +kernel,by decide +kernel⟩
theorem JQ:∃p0 p1 p2 p3,JO=.Call (.Name "begun_note" p0) [.Name "task" p1,.Name "bits" p2] [] p3:=⟨_,_,_,_,rfl⟩
theorem clo1{v1:V}(h1:Cel H c1 v1):Clo H (cl1 c1) ["bits"] [v1]:=by
 have l1:(cl1 c1).lookup ("bits":Str)=some c1:=rfl;refine⟨rfl,fun p hp=>?_,fun i x v e1 e2=>?_,fun x hx=>?_,fun x y a e1 e2=>?_⟩
 ·unfold cl1 at hp
  rw[uo.mp hp];exact⟨_,h1⟩
 ·match i,e1,e2 with
  |0,e1,e2=>cases e1;cases e2;exact⟨c1,l1,h1⟩
  |i+1,e1,_=>simp at e1
 ·rw[uo.mp hx]
  exact⟨_,l1⟩
 ·have m1:=uY e1
  have m2:=uY e2;unfold cl1 at m1 m2;rw[uo]at m1 m2;exact(Prod.mk.inj m1).1.trans (Prod.mk.inj m2).1.symm
theorem Clo2.same{b:Bd}(h:Clo2 mg ns H R d b f)(s:Same H H'):Clo2 mg ns H' R d b f:=by
 obtain⟨c1,c2,c3,c,ct,p,wl,ps,h1,h2,⟨o3,h3⟩,⟨o4,h4⟩,⟨o5,h5⟩,n1,n2,n3,h6,h7,h8,h9⟩:=h;exact⟨c1,c2,c3,c,ct,p,wl,ps,s _ _ h1,s _ _ h2,⟨o3,s _ _ h3⟩,⟨o4,s _ _ h4⟩,⟨o5,s _ _ h5⟩,n1,n2,n3,h6.keep (.of s),s _ _ h7,h8,h9.keep (.of s)⟩
inductive spLam1(mg:Str->Option Value)(T:Addr)(ns:lS)(f:Addr)(fd:FuncData)(vs:List V)(H:Hp)(Q:VK)(e_3:XK):Prop
 |mk (p:Addr) (d:Addr) (c0:Addr) (c:Addr) (ct:Value):(∃b:Bd,vs=[.ref p]/\fd=jb mg c0 c ct/\H f=some (FunO f fd)/\H c=some (CodO c YI)/\Cel H c0 (.ref d)/\IsB H b p/\b.sz<=1000000/\TbG T ls2 H/\∀H' q l fl wl vs,KM (·=T) H H'->TbG T ls2 H'->H' q=some (.tup [.ref l,.ref fl])->H l=none->H' l=some (.lst vs)->IsKs H' b.ways vs->H wl=none->(∃xs,H' wl=some (.lst xs))->(∀R:Addr->Prop,R wl->Clo2 mg ns H' R d b fl)->Q (.ref q) H')->spLam1 mg T ns f fd vs H Q e_3
theorem zaM(GB:Ca P w K mg base CX0 2 "begun_note" lS19 (spBegNote mg T))(ns:lS)(f c0 c:Addr)(ct:Value):FnOk P w K mg base CX0 3 f (jb mg c0 c ct) ["task"] (spLam1 mg T ns f (jb mg c0 c ct)):=by
 refine Zm (k:=2) zc9 (fun vs H Q E h=>?_) (fun A outer s H vs Q E hr h=>?_)
 ·obtain⟨p,d,_,_,_,b,rfl,_⟩:=h
  rfl
 ·obtain⟨p,d,d1,d0,ct',b,rfl,efd,hf,hc,h1,hb,hz,hT,q⟩:=h
  have ecl:cl1 c0=cl1 d1:=congrArg FuncData.closure efd;have ec:Value.ref c=Value.ref d0:=congrArg FuncData.code efd;cases ec;have e1:c0=d1:=by injection ecl with a b;exact(Prod.mk.inj a).2
  subst e1;refine⟨hf,hc,_,clo1 h1,?_⟩;obtain⟨p0,p1,p2,p3,eb⟩:=JQ;rw[eb];have hcA:∀a∈(cl1 c0).map (·.2),∃v,Cel H a v:=fun a ha=>by
   obtain⟨p,hp,rfl⟩:=uu.mp ha;exact(clo1 h1).all p hp
  have tp:=yj hcA;refine⟨_,(cA GB hr (jA2 (jv 0) (jv 1))),?_⟩;refine(zq rfl rfl ⟨p,d,b,ns,rfl,hb.keep tp,hz,hT.keep (fun ps e=>zJ hcA e (by intro _ _ _ z;cases z)) (fun c q e=>zJ hcA e (by intro _ _ _ z;unfold CodO at z;cases z)),fun H' r l fl wl vs k1 T1 hr1 hl hl1 hk hwl hwl1 hclo hnn=>?_⟩);have sp:Same H' (xr H' H ((cl1 c0).map (·.2))):=fun b u e=>yS hnn e;obtain⟨xs,hwl2⟩:=hwl1;have out:∀{b:Addr}{u:HO},H' b=some u->z7 H ((cl1 c0).map (·.2)) b=none->H b=none:=fun{b u} e n=>by
   rw[zZ]at n
   ·exact n
   ·intro z;rw[hnn b z]at e;cases e
  refine q _ r l fl wl vs (fun b u n e=>?_) (T1.keep (fun ps e=>sp _ _ e) fun c q e=>sp _ _ e) (sp _ _ hr1) (out hl1 hl) (sp _ _ hl1) (hk.imp fun _ _ ⟨p,e,h⟩=>⟨p,e,h.keep (.of sp)⟩) (out hwl2 hwl) ⟨xs,sp _ _ hwl2⟩ fun R hR=>(hclo R hR).same sp;by_cases z:b∈(cl1 c0).map (·.2)
  ·rw[wE z];exact e
  ·rw[yM z]
   exact k1 b u n (by rw[zZ z];exact e)
theorem zaN(c0 c:Addr)(ct:Value):Binds K (jb mg c0 c ct) ["task"] []:=.all (us1 fun _=>rfl)
theorem All2.mapl{α β γ:Type}{F:α->β->Prop}{g:γ->α}:∀{l:List γ}{m:List β},All2 (fun c b=>F (g c) b) l m->All2 F (l.map g) m
 |_,_,.nil=>.nil
 |_,_,.cons a r=>.cons a (All2.mapl r)
theorem All2.unmapl{α β γ:Type}{F:α->β->Prop}{g:γ->α}:∀{l:List γ}{m:List β},All2 F (l.map g) m->All2 (fun c b=>F (g c) b) l m
 |[],_,.nil=>.nil
 |_::_,_,.cons a r=>.cons a (All2.unmapl r)
theorem JR:∀{l:Wy}{w:lS×Bd},w∈l->w.2.sz<=wsz l
 |p::l,w,h=>by
  unfold wsz;rw[uC,Uy];rcases uk.mp h with rfl|h
  ·lia
  ·have:=JR h
   unfold wsz at this;lia
theorem All2.memP{α β:Type}{F:α->β->Prop}{Pr:α->Prop}:∀{l:List α}{m:List β},All2 F l m->(∀a∈l,Pr a)->All2 (fun a b=>Pr a/\F a b) l m
 |_,_,.nil,_=>.nil
 |_,_,.cons a r,h=>.cons ⟨h _ (.head _),a⟩ (All2.memP r fun a ha=>h a (.tail _ ha))
structure NOk(mg:Str->Option Value)(T1 T2 d fl c0 cc:Addr)(ct:Value)(ns:lS)(H:Hp):Prop where
 t1:TbG T1 ls1 H
 t2:TbG T2 ls2 H
 hd:H d=some (.dK (yE ns 1))
 f:H fl=some (FunO fl (jb mg c0 cc ct))
 c:H cc=some (CodO cc YI)
 cel:Cel H c0 (.ref d)
theorem NOk.keep(h:NOk mg T1 T2 d fl c0 cc ct ns H)(h1:TbG T1 ls1 H')(h2:TbG T2 ls2 H')(k:∀b u,H b=some u->(∀ps,u≠.tbl ps)->(∀xs,u≠.lst xs)->H' b=some u):NOk mg T1 T2 d fl c0 cc ct ns H' :=
 ⟨h1,h2,k _ _ h.hd (by intro _ z;cases z) (by intro _ z;cases z),k _ _ h.f (by intro _ z;unfold FunO at z;cases z) (by intro _ z;unfold FunO at z;cases z),k _ _ h.c (by intro _ z;unfold CodO at z;cases z) (by intro _ z;unfold CodO at z;cases z),let ⟨o,e⟩:=h.cel;⟨o,k _ _ e (by intro _ z;cases z) (by intro _ z;cases z)⟩⟩
theorem NOk.noM(h:NOk mg T1 T2 d fl c0 cc ct ns H){u:HO}(e:H b=some u)(n:∀ps,u≠.tbl ps):¬ (b=T1\/b=T2):=by
 rintro(z|z)
 ·obtain⟨ps,q,_⟩:=h.t1
  rw[z,q]at e;exact n _ (uZ.inj e).symm
 ·obtain⟨ps,q,_⟩:=h.t2
  rw[z,q]at e;exact n _ (uZ.inj e).symm
theorem NOk.tups(h:NOk mg T1 T2 d fl c0 cc ct ns H)(z:Kz (fun b=>b=T1\/b=T2) R H H'):Tups H H':=fun b xs e=>z b _ e (h.noM e (by intro _ z;cases z)) (by intro _ z;cases z)
theorem YJ{T:Type}:∀(l:List T),Chn (fun _=>()) (fun _=>()) () l ()
 |[]=>rfl
 |_::l=>⟨rfl,YJ l⟩
def zaO(nT:T1≠T2)(GB:Ca P w K mg base CX0 2 "begun_note" lS19 (spBegNote mg T2))(GO:Ca P w K mg base CX0 3 "note_of" lS16 spNoteOf)(d fl c0 cc:Addr)(ct:Value)(ns:lS):WoD P w K mg base 4 where
 Tk:=Bd
 M:=fun b=>b=T1\/b=T2
 fb:=fl
 wt:=fun b=>2*b.sz
 kids:=fun b=>b.ways.map (·.2)
 wk:=fun b=>by
  have h:=Bd.wsz b;have e:∀l:Wy,((l.map (·.2)).map fun b:Bd=>2*b.sz).sum=2*wsz l:=by
   intro l
   induction l with
   |nil=>rfl
   |cons p l ih =>
    unfold wsz at ih ⊢;rw[uC,uC,uC,Uy,Uy,ih];lia
  rw[e];lia
 IT:=fun H _ b v=>b.sz<=1000000/\∃p,v=.ref p/\IsB H b p
 IR:=fun H R b v=>IsN ns H R b v
 IF:=fun H R b v=>∃f,v=.ref f/\Clo2 mg ns H R d b f
 S:=Unit
 pre:=fun _=>()
 mid:=fun _=>()
 post:=fun _=>()
 chn:=fun t=>YJ _
 Ok:=fun _=>NOk mg T1 T2 d fl c0 cc ct ns
 itk:=fun⟨h,p,e,hb⟩ ok z _=>⟨h,p,e,hb.keep (ok.tups z)⟩
 irk:=fun h ok z sub=>h.keep ⟨ok.tups z,fun a xs ra e=>z a _ e (ok.noM e (by intro _ z;cases z)) fun _ _=>ra,sub⟩
 ifk:=fun{H H' R R' t v _} hh ok z sub=>by
  obtain⟨f,e,c1,c2,c3,c,ct,p,wl,ps,h1,h2,⟨o3,h3⟩,⟨o4,h4⟩,⟨o5,h5⟩,n1,n2,n3,h6,h7,h8,h9⟩:=hh;have g:∀b u,H b=some u->(∀ps,u≠.tbl ps)->(∀xs,u≠.lst xs)->H' b=some u:=fun b u e n1 n2=>z b u e (ok.noM e n1) fun xs q=>absurd q (n2 xs);exact⟨f,e,c1,c2,c3,c,ct,p,wl,ps,g _ _ h1 (by intro _ z;unfold FunO at z;cases z) (by intro _ z;unfold FunO at z;cases z),g _ _ h2 (by intro _ z;unfold CodO at z;cases z) (by intro _ z;unfold CodO at z;cases z),⟨o3,g _ _ h3 (by intro _ z;cases z) (by intro _ z;cases z)⟩,⟨o4,g _ _ h4 (by intro _ z;cases z) (by intro _ z;cases z)⟩,⟨o5,g _ _ h5 (by intro _ z;cases z) (by intro _ z;cases z)⟩,n1,n2,n3,h6.keep (ok.tups z),z _ _ h7 (ok.noM h7 (by intro _ z;cases z)) (fun _ _=>h8),sub _ h8,h9.keep (ok.tups z)⟩
 okk:=fun{H H' _} ok z=>by
  have g:∀b u,H b=some u->(∀xs,u≠.lst xs)->H' b=some u:=fun b u e n=>z b u e fun xs q=>absurd q (n xs);exact ok.keep (ok.t1.keep (fun ps e=>g _ _ e (by intro _ z;cases z)) fun c q e=>g _ _ e (by intro _ z;unfold CodO at z;cases z)) (ok.t2.keep (fun ps e=>g _ _ e (by intro _ z;cases z)) fun c q e=>g _ _ e (by intro _ z;unfold CodO at z;cases z)) fun b u e _ n=>g b u e n
 okM:=fun{H b _} ok z=>by
  rcases z with z|z
  ·obtain⟨ps,q,_⟩:=ok.t1
   rw[z,q];simp
  ·obtain⟨ps,q,_⟩:=ok.t2
   rw[z,q];simp
 beg:=fun{H R t v Q}⟨hz,p,e,hb⟩ ok hRd hRM q=>by
  subst e;refine⟨_,_,_,(zaM GB ns fl c0 cc ct).mono (by decide),zaN c0 cc ct,⟨p,d,c0,cc,ct,t,rfl,rfl,ok.f,ok.c,ok.cel,hb,hz,ok.t2,fun H' r l f2 wl vs k1 t2 hr hl hl1 hk hwl ⟨xs,hwl1⟩ hclo=>?_⟩,.inl ok.f⟩;have ok':NOk mg T1 T2 d fl c0 cc ct ns H':=by
   refine ok.keep (ok.t1.keep (fun ps e=>k1 _ _ nT e) fun c q e=>k1 _ _ (fun z=>ok.noM e (by intro _ z;unfold CodO at z;cases z) (.inr z)) e) t2 fun b u e n _=>k1 b u (fun z=>ok.noM e n (.inr z)) e
  refine q H' r l f2 vs (fun b=>R b\/b=l\/b=wl) (fun b u n e=>k1 b u (fun z=>n (.inr z)) e) ok' hr hl hl1 (fun _ z=>.inl z) ?_ ?_ (.inr (.inl rfl)) ?_ ⟨f2,rfl,hclo _ (.inr (.inr rfl))⟩
  ·rintro b (z|rfl|rfl)
   ·exact .inl z
   ·exact .inr hl
   ·exact .inr hwl
  ·rintro b (z|rfl|rfl)
   ·cases e:H b with
    |none=>exact absurd e (hRd b z)
    |some u=>rw[k1 b u (fun y=>hRM b z (.inr y)) e];simp
   ·rw[hl1];simp
   ·rw[hwl1];simp
  ·refine All2.mapl ((All2.memP hk (Pr:=fun w:lS×Bd=>w.2.sz<=1000000) fun a ha=>?_).imp fun a b h=>h)
   have:=JR ha
   have:=Bd.wsz t
   lia
 fin:=fun{H R t f2 rl rs Q} hh ok hRd hRM hRr hrl hrs q=>by
  obtain⟨f,e,c1,c2,c3,c,ct',p,wl,ps,h1,h2,h3,h4,h5,n1,n2,n3,h6,h7,h8,h9⟩:=hh;cases e;refine⟨_,_,_,zaK GO ns f2 c1 c2 c3 c ct',zaL c1 c2 c3 c ct',⟨rl,d,c1,c2,c3,c,p,wl,ct',t,ps,rs,rfl,rfl,h1,h2,h3,h4,h5,n1,n2,n3,h6,h7,h9,hrl,(All2.unmapl hrs).imp fun _ _ h=>IsN.nt h,ok.hd,fun H' r s1 hr=>?_⟩,.inl h1⟩;refine q H' (.ref r) R (.of s1) ?_ (fun _ z=>z) (fun _ z=>.inl z) ?_ (IsN.ways.mpr ⟨rs,⟨r,rl,rfl,hr,hRr,s1 _ _ hrl⟩,(All2.unmapl hrs).imp fun _ _ h=>IsN.keep ⟨.of s1,fun a xs _ e=>s1 _ _ e,fun _ z=>z⟩ h⟩)
  ·exact ok.keep (ok.t1.keep (fun ps e=>s1 _ _ e) fun c q e=>s1 _ _ e) (ok.t2.keep (fun ps e=>s1 _ _ e) fun c q e=>s1 _ _ e) fun b u e _ _=>s1 b u e
  ·intro b z
   cases e:H b with
   |none=>exact absurd e (hRd b z)
   |some u=>rw[s1 b u e];simp
structure Tbs(T1 T2:Addr)(H:Hp):Prop where
 t1:TbG T1 ls1 H
 t2:TbG T2 ls2 H
theorem Tbs.same(h:Tbs T1 T2 H)(s:Same H H'):Tbs T1 T2 H':=⟨h.t1.keep (fun ps e=>s _ _ e) fun c q e=>s _ _ e,h.t2.keep (fun ps e=>s _ _ e) fun c q e=>s _ _ e⟩
def MT(T1 T2:Addr)(b:Addr):Prop:=b=T1\/b=T2
inductive spNoted(T1 T2:Addr)(vs:List V)(H:Hp)(Q:VK)(e_3:XK):Prop
 |mk (p:Addr) (d:Addr) (b:Bd):(∃ns:lS,vs=[.ref p,.ref d]/\IsB H b p/\b.sz<=400000/\H d=some (.dK (yE ns 1))/\Tbs T1 T2 H/\∀H' v R,KM (MT T1 T2) H H'->Tbs T1 T2 H'->IsN ns H' R b v->Q v H')->spNoted T1 T2 vs H Q e_3
theorem scNoted:FnScope lS19 lS19 (zp wV):=.ok
theorem JS(F:FunC K "noted" wV c f fd)(hB:BMn mg base)(hc:Ub K c T1=true)(nT:T1≠T2)(GB:Ca P w K mg base CX0 2 "begun_note" lS19 (spBegNote mg T2))(GO:Ca P w K mg base CX0 3 "note_of" lS16 spNoteOf)(GW:Ca P w K mg base CX0 5 "worked_out" lS26 (spWorked P w K mg base 4)):FnOk P w K mg base CX0 6 f fd lS19 (spNoted T1 T2):=by
 refine F.by scNoted (fun vs H Q E h=>?_) (fun A outer s H vs Q E hr h=>?_)
 ·obtain⟨p,d,b,ns,rfl,_⟩:=h
  rfl
 obtain⟨p,d,b,ns,rfl,hb,hz,hd,hT,q⟩:=h;refine⟨_,
  (zk (zv (Jb (E:=E0) GW hr scNoted.nd rfl (fun _=>rfl) (jA2 (jv 0) (xl (params:=zbG) (body:=JO) (scope:=JP) (pos:=Wl) (T:=T1) (qual:=YI) (cl:=cl1 (s.heap.objs.size+1)) hB rfl hc rfl))))),?_⟩
 refine(zg rfl (yQ hT.t1 (by unfold ls1;exact .head _) (fun p hp _=>by unfold ls1 at hp;rw[uo.mp hp]) fun H1 fl cc ct k1 T1' hfl nfT ncT hfl1 hcc=>?_));have noT1:∀{b:Addr}{u:HO},H b=some u->(∀ps,u≠.tbl ps)->b≠T1:=fun{b u} e n z=>by
  obtain⟨ps,h,_⟩:=hT.t1;rw[z,h]at e;exact n _ (uZ.inj e).symm
 have tp1:Tups H H1:=fun b xs e=>k1 b _ (noT1 e (by intro _ z;cases z)) e;have T2':TbG T2 ls2 H1:=hT.t2.keep (fun ps e=>k1 _ _ nT.symm e) fun c q e=>k1 _ _ (noT1 e (by intro _ z;unfold CodO at z;cases z)) e;refine⟨[(s.heap.objs.size+1,.ref d)],fun x hx=>?_,fun H3 pb=>?_⟩
 ·rw[uo.mp hx]
  exact⟨1,"bits",rfl,rfl,rfl,.inl rfl⟩
 have s3:=Pub.same pb;have ok3:NOk mg T1 T2 d fl (s.heap.objs.size+1) cc ct ns H3:=⟨T1'.keep (fun ps e=>s3 _ _ e) fun c q e=>s3 _ _ e,T2'.keep (fun ps e=>s3 _ _ e) fun c q e=>s3 _ _ e,s3 _ _ (k1 _ _ (noT1 hd (by intro _ z;cases z)) hd),s3 _ _ hfl1,s3 _ _ hcc,pb.cel (_,_) (.head _)⟩;refine⟨zaO nT GB GO d fl (s.heap.objs.size+1) cc ct ns,.ref p,b,fun _=>False,rfl,⟨by lia,p,rfl,hb.keep (tp1.trans (.of s3))⟩,ok3,fun _ z=>z.elim,fun _ z=>z.elim,?_,.inl ⟨⟨_,ok3.f⟩,ok3.noM ok3.f (by intro _ z;unfold FunO at z;cases z)⟩,fun H4 v R' k4 ok4 _ hv hcel=>?_⟩
 ·show 2*b.sz<=10000000
  lia
 have hcA:∀a∈([(s.heap.objs.size+1,V.ref d)]:List (Addr×V)).map (·.1),∃v,Cel H4 a v:=fun a ha=>by
  obtain⟨x,hx,rfl⟩:=uu.mp ha;exact⟨_,hcel x hx⟩
 refine q _ v R' (fun b u n e=>?_) ⟨ok4.t1.keep (fun ps e=>zJ hcA e (by intro _ _ _ z;cases z)) fun c q e=>zJ hcA e (by intro _ _ _ z;unfold CodO at z;cases z),ok4.t2.keep (fun ps e=>zJ hcA e (by intro _ _ _ z;cases z)) fun c q e=>zJ hcA e (by intro _ _ _ z;unfold CodO at z;cases z)⟩ (IsN.keep ⟨yj hcA,fun a xs _ e=>zJ hcA e (by intro _ _ _ z;cases z),fun _ z=>z⟩ hv);have e1:=k1 b u (fun z=>n (.inl z)) e;rw[zZ]
 ·exact k4 b u n (s3 _ _ e1)
 ·intro z
  obtain⟨x,hx,rfl⟩:=uu.mp z;rw[pb.non x hx]at e1;cases e1
end
mutual
inductive Hc
 |give (x:Str)
 |lt (x:Str) (d:De) (b:Hc)
 |hold (n x:Str) (b:Hc)
 |drop (x:Str) (b:Hc)
 |iff (x:Str) (a b:Hc)
 |case(x:Str) (as:Ha)
inductive Ha
 |nil
 |cons (t:Str) (ns:lS) (m:Bool) (b:Hc) (r:Ha)
end
def yG(m:Bool):Str:=if m then "take"else "look"
def IsHd(H:Hp):De->Addr->Prop
 |.num i,p=>H p=some (.tup [.str "num",.int i])
 |.op w a b,p=>H p=some (.tup [.str "op",.str w,.str a,.str b])
 |.app w f xs,p=>∃q,H p=some (.tup (if w="make"then[.str w,.str f,.ref q,.str ""]else[.str w,.str f,.ref q]))/\H q=some (.tup (xs.map V.str))
theorem IsHd.keep(t:Tups H H'):∀{d:De}{p:Addr},IsHd H d p->IsHd H' d p
 |.num _,_,h=>t _ _ h
 |.op _ _ _,_,h=>t _ _ h
 |.app _ _ _,_,⟨q,h1,h2⟩=>⟨q,t _ _ h1,t _ _ h2⟩
mutual
def IsHc(H:Hp):Hc->V->Prop
 |.give x,v=>∃p,v=.ref p/\H p=some (.tup [.str "give",.str x])
 |.lt x d b,v=>∃p q u,v=.ref p/\H p=some (.tup [.str "let",.str x,.ref q,u])/\IsHd H d q/\IsHc H b u
 |.hold n x b,v=>∃p u,v=.ref p/\H p=some (.tup [.str "hold",.str n,.str x,u])/\IsHc H b u
 |.drop x b,v=>∃p u,v=.ref p/\H p=some (.tup [.str "drop",.str x,u])/\IsHc H b u
 |.iff x a b,v=>∃p u1 u2,v=.ref p/\H p=some (.tup [.str "if",.str x,u1,u2])/\IsHc H a u1/\IsHc H b u2
 |.case x as,v=>∃p q vs,v=.ref p/\H p=some (.tup [.str "case",.str x,.ref q])/\H q=some (.tup vs)/\IsHa H as vs
def IsHa(H:Hp):Ha->List V->Prop
 |.nil,vs=>vs=[]
 |.cons t ns m b r,vs=>∃p q u vs',vs=.ref p::vs'/\H p=some (.tup [.str t,.ref q,.str (yG m),.str "",u])/\H q=some (.tup (ns.map V.str))/\IsHc H b u/\IsHa H r vs'
end
mutual
theorem IsHc.keep{H H':Hp}(t:Tups H H'):∀{c:Hc}{v:V},IsHc H c v->IsHc H' c v
 |.give _,_,⟨p,e,h⟩=>⟨p,e,t _ _ h⟩
 |.lt _ _ _,_,⟨p,q,u,e,h,d,b⟩=>⟨p,q,u,e,t _ _ h,IsHd.keep t d,IsHc.keep t b⟩
 |.hold _ _ _,_,⟨p,u,e,h,b⟩=>⟨p,u,e,t _ _ h,IsHc.keep t b⟩
 |.drop _ _,_,⟨p,u,e,h,b⟩=>⟨p,u,e,t _ _ h,IsHc.keep t b⟩
 |.iff _ _ _,_,⟨p,u1,u2,e,h,a,b⟩=>⟨p,u1,u2,e,t _ _ h,IsHc.keep t a,IsHc.keep t b⟩
 |.case _ _,_,⟨p,q,vs,e,h,h2,a⟩=>⟨p,q,vs,e,t _ _ h,t _ _ h2,IsHa.keep t a⟩
theorem IsHa.keep{H H':Hp}(t:Tups H H'):∀{c:Ha}{v:List V},IsHa H c v->IsHa H' c v
 |.nil,_,h=>h
 |.cons _ _ _ _ _,_,⟨p,q,u,vs,e,h,h2,b,a⟩=>⟨p,q,u,vs,e,t _ _ h,t _ _ h2,IsHc.keep t b,IsHa.keep t a⟩
end
def nnm(x:Str)(m:Nat):Str:=Str.empty++x ++ "." ++ Str.ofString (toString ((m:Nat):Int))
abbrev SpR:=lS×List (Str×Str)×Nat
def spS(fr:lS)(s:SpR)(x:Str):SpR:=if x∈fr/\x∉s.1 then(s.1++[x],s.2.1,s.2.2)else(s.1++[nnm x (s.2.2+1)],s.2.1++[(nnm x (s.2.2+1),x)],s.2.2+1)
def spn(fr xs:lS)(m:Nat):SpR:=xs.foldl (spS fr) ([],[],m)
theorem JT{fr xs:lS}(h:xs[i]?=some x):spn fr (xs.take (i+1)) m=spS fr (spn fr (xs.take i) m) x:=by
 unfold spn;rw[uD,h,List.foldl_append]
 rfl
theorem zaP(fr:lS)(s:SpR)(x:Str):(spS fr s x).1.length=s.1.length+1/\s.2.2<=(spS fr s x).2.2/\(spS fr s x).2.2<=s.2.2+1/\(spS fr s x).2.1.length<=s.2.1.length+1:=by
 unfold spS
 split<;>simp
theorem Wm(fr:lS):∀(xs:lS)(s:SpR),(xs.foldl (spS fr) s).1.length=s.1.length+xs.length/\s.2.2<=(xs.foldl (spS fr) s).2.2/\(xs.foldl (spS fr) s).2.2<=s.2.2+xs.length/\(xs.foldl (spS fr) s).2.1.length<=s.2.1.length+xs.length
 |[],s=>by simp
 |x::xs,s=>by
  obtain⟨h1,h2,h3,h4⟩:=Wm fr xs (spS fr s x);obtain⟨g1,g2,g3,g4⟩:=zaP fr s x;rw[UI,ui];lia
theorem yD(fr xs:lS)(m:Nat):(spn fr xs m).1.length=xs.length/\m<=(spn fr xs m).2.2/\(spn fr xs m).2.2<=m+xs.length/\(spn fr xs m).2.1.length<=xs.length:=by
 obtain⟨h1,h2,h3,h4⟩:=Wm fr xs ([],[],m);refine⟨by rw[show(spn fr xs m).1.length=_ from h1];simp,h2,h3,?_⟩
 have:(spn fr xs m).2.1.length<=0+xs.length:=h4
 lia
def ends(ow:Str->List Bool):De->List Bool
 |.num _=>[]
 |.op _ _ _=>[false,false]
 |.app w f xs=>if w="call"then ow f else(De.uses (.app w f xs)).map fun _=>true
def upN(xs:lS)(es:List Bool):lS:=((xs.zip es).filter (·.2)).map (·.1)
def ltN(xs:lS)(es:List Bool):lS:=((xs.zip es).filter fun p=>!p.2).map (·.1)
def rpS(st:lS)(s:lS×Nat)(p:Str×Bool):lS×Nat:=if p.2 then(s.1++[st.getD s.2 ""],s.2+1)else(s.1++[p.1],s.2)
def rpl(xs:lS)(es:List Bool)(st:lS):lS:=((xs.zip es).foldl (rpS st) ([],0)).1
def wN:De->lS->De
 |.num i,_=>.num i
 |.op w _ _,l=>.op w (l.getD 0 "") (l.getD 1 "")
 |.app w f _,l=>if w="ask"then .app w (l.getD 0 "") (l.drop 1)else .app w f l
def hdD(ow:Str->List Bool)(d:De)(st:lS):De:=wN d (rpl d.uses (ends ow d) st)
def ahB(ns:lS)(b:Bd)(x:Str):Bool:=(b.mk ns &&& bitN ns x) != 0
def dO(ns:lS)(b:Bd)(l:lS):lS:=l.filter fun x=>!ahB ns b x
def rO(ns:lS)(b:Bd)(l:lS):lS:=l.filter fun x=>ahB ns b x
def wD(xs:lS)(c:Hc):Hc:=xs.foldr .drop c
def wH(ps:List (Str×Str))(c:Hc):Hc:=ps.foldr (fun p c=>.hold p.1 p.2 c) c
def frL(ns:lS)(ow:Str->List Bool)(d:De)(b:Bd)(r:lS):lS:=r.filter fun y=>!ahB ns b y && decide (y∉ltN d.uses (ends ow d))
def spL(ns:lS)(ow:Str->List Bool)(d:De)(b:Bd)(r:lS)(m:Nat):SpR:=spn (frL ns ow d b r) (upN d.uses (ends ow d)) m
def stL(r st:lS)(x:Str):lS:=(r.filter fun y=>decide (y∉st))++[x]
def tkB(ns:lS)(x:Str)(r:lS)(b:Bd):Bool:=decide (x∈r) && !ahB ns b x
def stA(tk:Bool)(x:Str)(r xs:lS):lS:=(r.filter fun y=>!tk || decide (y≠x))++xs
mutual
def hB(ns:lS)(ow:Str->List Bool):Bd->lS->Nat->Hc×Nat
 |.give x,l,m=>(wD (dO ns (.give x) l) (wH (spn (rO ns (.give x) l) [x] m).2.1 (.give ((spn (rO ns (.give x) l) [x] m).1.getD 0 ""))),(spn (rO ns (.give x) l) [x] m).2.2)
 |.lt x d b,l,m =>
  (wD (dO ns (.lt x d b) l) (wH (spL ns ow d b (rO ns (.lt x d b) l) m).2.1 (.lt x (hdD ow d (spL ns ow d b (rO ns (.lt x d b) l) m).1) (hB ns ow b (stL (rO ns (.lt x d b) l) (spL ns ow d b (rO ns (.lt x d b) l) m).1 x) (spL ns ow d b (rO ns (.lt x d b) l) m).2.2).1)),(hB ns ow b (stL (rO ns (.lt x d b) l) (spL ns ow d b (rO ns (.lt x d b) l) m).1 x) (spL ns ow d b (rO ns (.lt x d b) l) m).2.2).2)
 |.iff x a b,l,m=>(wD (dO ns (.iff x a b) l) (.iff x (hB ns ow a (rO ns (.iff x a b) l) m).1 (hB ns ow b (rO ns (.iff x a b) l) (hB ns ow a (rO ns (.iff x a b) l) m).2).1),(hB ns ow b (rO ns (.iff x a b) l) (hB ns ow a (rO ns (.iff x a b) l) m).2).2)
 |.case x as,l,m=>(wD (dO ns (.case x as) l) (.case x (hA ns ow x (rO ns (.case x as) l) as m).1),(hA ns ow x (rO ns (.case x as) l) as m).2)
def hA(ns:lS)(ow:Str->List Bool)(x:Str)(r:lS):Arms->Nat->Ha×Nat
 |.nil,m=>(.nil,m)
 |.cons t xs b as,m=>(.cons t xs (tkB ns x r b) (hB ns ow b (stA (tkB ns x r b) x r xs) m).1 (hA ns ow x r as (hB ns ow b (stA (tkB ns x r b) x r xs) m).2).1,(hA ns ow x r as (hB ns ow b (stA (tkB ns x r b) x r xs) m).2).2)
end
structure Pk where
 b:Bd
 l:lS
 m:Nat
section
variable(ns:lS)(ow:Str->List Bool)
def kA(x:Str)(r:lS):Arms->Nat->List Pk
 |.nil,_=>[]
 |.cons _ xs b as,m=>⟨b,stA (tkB ns x r b) x r xs,m⟩ :: kA x r as (hB ns ow b (stA (tkB ns x r b) x r xs) m).2
def kP:Bd->lS->Nat->List Pk
 |.give _,_,_=>[]
 |.lt x d b,r,m=>[⟨b,stL r (spL ns ow d b r m).1 x,(spL ns ow d b r m).2.2⟩]
 |.iff _ a b,r,m=>[⟨a,r,m⟩,⟨b,r,(hB ns ow a r m).2⟩]
 |.case x as,r,m=>kA ns ow x r as m
def midP:Bd->lS->Nat->Nat
 |.give x,r,m=>(spn r [x] m).2.2
 |.lt x d b,r,m=>(spL ns ow d b r m).2.2
 |_,_,m=>m
def Pk.code(t:Pk):Hc:=(hB ns ow t.b t.l t.m).1
def Pk.kids(t:Pk):List Pk:=kP ns ow t.b (rO ns t.b t.l) t.m
def Pk.mid(t:Pk):Nat:=midP ns ow t.b (rO ns t.b t.l) t.m
def Pk.post(t:Pk):Nat:=(hB ns ow t.b t.l t.m).2
theorem JU(x:Str)(r:lS):∀(as:Arms)(m:Nat),Chn Pk.m (Pk.post ns ow) m (kA ns ow x r as m) (hA ns ow x r as m).2
 |.nil,m=>by unfold kA hA;rfl
 |.cons t xs b as,m=>by unfold kA hA;exact⟨rfl,JU x r as _⟩
theorem Pk.chn(t:Pk):Chn Pk.m (Pk.post ns ow) (t.mid ns ow) (t.kids ns ow) (t.post ns ow):=by
 obtain⟨b,l,m⟩:=t;unfold Pk.kids Pk.mid Pk.post;cases b with
 |give x=>unfold kP midP hB;rfl
 |lt x d b=>unfold kP midP;rw[hB];exact⟨rfl,rfl⟩
 |iff x a b=>unfold kP midP;rw[hB];exact⟨rfl,rfl,rfl⟩
 |case x as=>unfold kP midP;rw[hB];exact JU ns ow x _ as m
end
end GN
namespace L2
open PySem PySem.Spec PyProof.Rows
def tFs2(b:Str)(t1 t2:TE):TE:=fun σ H Q=>t1 σ H fun v1 H1=>∃x,v1=.str x/\x.length+b.length<=sizeLine/\t2 σ H1 fun v2 H2=>∃i:Int,v2=.int i/\i.natAbs.log2 < 1920/\x.length+b.length+(Str.ofString (toString i)).length<=sizeLine/\Q (.str (Str.empty++x++b++Str.ofString (toString i))) H2
theorem zda{b:Str}{j'}{p3 p4:Pos}(h1:PE X e1 t1)(h2:PE X e2 t2):
  PE X (.JoinedStr [.FormattedValue e1 (-1) none p2,.Constant (.str b) j' p3,.FormattedValue e2 (-1) none p4] pos) (tFs2 b t1 t2):=by
 intro pins s σ H Q I hq;have l0:Str.empty.length=0:=rfl;refine wpAny_JoinedStr ?_;refine wpAny_FormattedValue_plain (thn (h1 pins _ σ H _ (I.tok _) hq) fun v s1 hv=>?_);obtain⟨u,H1,I1,r1,x,e1,lx,q1⟩:=hv;subst e1;obtain⟨t,rfl⟩:=r1;have key:∀s2,Inv X pins σ H1 s2->∀t',∃y t0,Value.str x t'=.str y t0/\(Str.empty++y).length<=sizeLine/\Joins (model X.prog X.w) X.A X.xe (evalEach [.Constant (.str b) j' p3,.FormattedValue e2 (-1) none p4] X.env) (Str.empty++y) (fun out s₁=>out.length<=sizeLine/\EP X pins σ Q (.str out s₁.toks) { s₁ with toks:=s₁.toks+1 }) s2:=fun s2 I2 t'=>by
  refine⟨x,t',rfl,by rw[strLen_append];lia,?_⟩;refine Calls.Constant_str ⟨b,_,rfl,by rw[strLen_append,strLen_append];lia,?_⟩;refine wpAny_FormattedValue_plain (thn (h2 pins _ σ H1 _ (I2.tok _) q1) fun v s3 hv=>?_);obtain⟨u,H3,I3,r3,i,e3,li,lt,q3⟩:=hv;subst e3;obtain⟨t,rfl⟩:=r3;refine wpAny_formatField_int li ⟨_,_,rfl,by rw[strLen_append,strLen_append,strLen_append];lia,by rw[strLen_append,strLen_append,strLen_append];lia,?_⟩;exact⟨.str _,H3,(I3.tok _),⟨_,rfl⟩,q3⟩
 exact wpAny_formatField_str (key _ I1 _) (key _ (I1.tok _) _) (by lia)
theorem zdb{b:Str}{j'}{p3 p4:Pos}(h1:jE X e1 t1)(h2:jE X e2 t2):
  jE X (.JoinedStr [.FormattedValue e1 (-1) none p2,.Constant (.str b) j' p3,.FormattedValue e2 (-1) none p4] pos) (tFs2 b t1 t2):=⟨zda h1.out h2.out⟩
end L2
namespace K11
open PySem PySem.Spec PyProof.Rows Builtin Builtin.Str NumText
theorem JV(m:Nat):AllDigits ((Nat.toDigits 10 m).map Char.toNat):=by
 induction m using Nat.strongRecOn with
 |_ m ih =>
  by_cases h:m < 10
  ·rw[Nat.toDigits_of_lt_base h]
   intro c hc;rw[List.map_singleton,uo]at hc
   have:∀d:Nat,d < 10->48<=(Nat.digitChar d).toNat/\(Nat.digitChar d).toNat<=57:=by decide
   rw[hc];exact this m h
  ·rw[Nat.toDigits_of_base_le (by decide) (by lia),ut]
   intro c hc;rcases uy.mp hc with hc|hc
   ·exact ih (m / 10) (by lia) c hc
   ·rw[List.map_singleton,uo]at hc
    have:∀d:Nat,d < 10->48<=(Nat.digitChar d).toNat/\(Nat.digitChar d).toNat<=57:=by decide
    rw[hc];exact this (m % 10) (Nat.mod_lt _ (by decide))
theorem JW(m:Nat):cl (Str.ofString (toString ((m:Nat):Int)))=(Nat.toDigits 10 m).map Char.toNat:=PySem.W.KIN.signs_num m
end K11
namespace GN
open PySem L2 K11
structure Pn(K:ub)(cP:Addr):Prop where
 cl:Cls K cP
 a1:NoAttr K cP "owns"
 a2:NoAttr K cP "bits"
 a3:NoAttr K cP "many"
def LIMT:Nat:=2 ^ 60
def PO(cP dx od bd:Addr)(n:Nat):HO:=.ins cP dx [("owns",.ref od),("bits",.ref bd),("many",.int (n:Nat))]
theorem Vb(h:j<=LIMT):((j:Nat):Int).natAbs.log2 < 1920/\(Str.ofString (toString ((j:Nat):Int))).length<=1000:=by
 unfold LIMT at h;refine⟨?_,?_⟩
 ·rw[Int.natAbs_natCast]
  by_cases c:j=0
  ·rw[c];decide
  ·exact uH ((Nat.log2_lt c).mpr (uQ h (by decide:(2:Nat) ^ 60 < 2 ^ 61))) (by decide)
 ·rw[<- xA,JW,ua]
  exact uI ((Nat.length_toDigits_le_iff (k:=30) (by decide) (by decide)).mpr (uQ h (by decide))) (by decide)
inductive spNew(cP:Addr)(vs:List V)(H:Hp)(Q:VK)(e_3:XK):Prop
 |mk (pu:Addr) (dx:Addr) (od:Addr) (bd:Addr) (x:Str):(∃n:Nat,vs=[.ref pu,.str x]/\H pu=some (PO cP dx od bd n)/\n+1<=LIMT/\x.length<=1000/\∀H',H'=upd H pu (PO cP dx od bd (n+1))->Q (.str (nnm x (n+1))) H')->spNew cP vs H Q e_3
inductive spAhd(cP:Addr)(vs:List V)(H:Hp)(Q:VK)(e_3:XK):Prop
 |mk (pu:Addr) (dx:Addr) (od:Addr) (bd:Addr) (x:Str) (n:Nat) (m:Nat) (v:V):(∃ns:lS,vs=[.ref pu,.str x,v]/\H pu=some (PO cP dx od bd n)/\H bd=some (.dK (yE ns 1))/\x∈ns/\Nt H m v/\Q (.bl ((m &&& bitN ns x) != 0)) H)->spAhd cP vs H Q e_3
inductive spSpent(cP:Addr)(vs:List V)(H:Hp)(Q:VK)(e_3:XK):Prop
 |mk (pu:Addr) (dx:Addr) (od:Addr) (bd:Addr) (lx:Addr) (lf:Addr) (xs:lS) (fr:lS):(∃n:Nat,vs=[.ref pu,.ref lx,.ref lf]/\H pu=some (PO cP dx od bd n)/\H lx=some (.lst (xs.map V.str))/\H lf=some (.lst (fr.map V.str))/\n+xs.length<=LIMT/\xs.length<=100/\(∀x∈xs,x.length<=1000)/\∀H' t ls lp qs,KM (·=pu) H H'->H' pu=some (PO cP dx od bd (spn fr xs n).2.2)->H' t=some (.tup [.ref ls,.ref lp])->H ls=none->H lp=none->H' ls=some (.lst ((spn fr xs n).1.map V.str))->H' lp=some (.lst (qs.map V.ref))->All2 (fun(p:Str×Str) q=>H' q=some (.tup [.str p.1,.str p.2])) (spn fr xs n).2.1 qs->Q (.ref t) H')->spSpent cP vs H Q e_3
inductive spDrops(vs:List V)(H:Hp)(Q:VK)(e_3:XK):Prop
 |mk (l:Addr) (xs:lS) (c:Hc):(∃v:V,vs=[.ref l,v]/\H l=some (.lst (xs.map V.str))/\IsHc H c v/\∀H' v',Same H H'->IsHc H' (wD xs c) v'->Q v' H')->spDrops vs H Q e_3
inductive spHolds(vs:List V)(H:Hp)(Q:VK)(e_3:XK):Prop
 |mk (l:Addr) (ps:List (Str×Str)) (qs:List Addr) (c:Hc):(∃v:V,vs=[.ref l,v]/\H l=some (.lst (qs.map V.ref))/\All2 (fun(p:Str×Str) q=>H q=some (.tup [.str p.1,.str p.2])) ps qs/\IsHc H c v/\∀H' v',Same H H'->IsHc H' (wH ps c) v'->Q v' H')->spHolds vs H Q e_3
theorem scNew:FnScope ["self","name","many"] ["self","name"] (zp vT):=.ok
theorem zdc(F:Fun K "new_name" "Putter.new_name" vT f fd)(N:Pn K cP):FnOk P w K mg base CX0 1 f fd ["self","name"] (spNew cP):=by
 refine F.by scNew (fun vs H Q E h=>?_) (fun cdv A outer s H vs Q E hr h=>?_)
 ·obtain⟨pu,dx,od,bd,x,n,rfl,_⟩:=h
  rfl
 obtain⟨pu,dx,od,bd,x,n,rfl,ho,hn,hx,q⟩:=h;refine⟨_,zh (xp (jv 0) (zA yy (zK K (jv 0)) zt)) (zh (sE 2 scNew.nd (zK K (jv 0))) (zk (zv (zdb (jv 1) (jv 2))))),?_⟩;have sl:=zO;refine(zg rfl ⟨pu,cP,dx,_,_,rfl,ho,N.cl,N.a3,rfl,(zC rfl rfl (zg rfl ⟨pu,cP,dx,(zg rfl ⟨ho,N.cl,N.a3,by show 3 < 1000;decide,?_⟩)⟩))⟩);have e:(((n:Nat):Int)+1)=((n+1:Nat):Int):=by lia
 have pf:HO.ins cP dx (putF "many" (.int (((n:Nat):Int)+1)) [("owns",V.ref od),("bits",V.ref bd),("many",V.int ((n:Nat):Int))])=PO cP dx od bd (n+1):=by rw[e];rfl
 rw[pf];have hu:=uX9 (H:=H) (a:=pu) (o:=PO cP dx od bd (n+1));generalize hH:upd H pu (PO cP dx od bd (n+1))=H1 at *;obtain⟨l1,l2⟩:=Vb hn;have l6:(".":Str).length=1:=by decide +kernel
 refine(zg rfl ⟨pu,cP,dx,_,_,rfl,hu,N.cl,N.a3,rfl,?_⟩);exact(zq rfl rfl ⟨by rw[l6];lia,(zq rfl rfl ⟨l1,by rw[l6];lia,q _ rfl⟩)⟩)
theorem zd2:FnScope lS20 lS20 (zp vU):=.ok
theorem zdd(F:Fun K "is_ahead" "Putter.is_ahead" vU f fd)(N:Pn K cP):FnOk P w K mg base CX0 1 f fd lS20 (spAhd cP):=by
 refine F.by zd2 (fun vs H Q E h=>?_) (fun cdv A outer s H vs Q E hr h=>?_)
 ·obtain⟨pu,dx,od,bd,x,n,m,v,ns,rfl,_⟩:=h
  rfl
 obtain⟨pu,dx,od,bd,x,n,m,v,ns,rfl,ho,hb,hx,⟨qn,ln,rfl,hn⟩,q⟩:=h;refine⟨_,zk (zv (yO vd (zA Wh (zn K (jv 2)) (yZ hr (zK K (jv 0)) (jv 1))) zt (xI _))),?_⟩;have g:=xZ (x:=x) (ns:=ns) (b:=1);rw[if_pos hx,Nat.one_mul]at g;refine(zg rfl (ixT hn aI0 ?_));refine(zg rfl ⟨pu,cP,dx,_,_,rfl,ho,N.cl,N.a2,rfl,?_⟩);refine(zg rfl ⟨bd,.int ((bitN ns x:Nat):Int),rfl,(show DGet H bd (kV (.inr x)) (some (.int ((bitN ns x:Nat):Int)))from g ▸ DGet.k hb),(zC rfl rfl ⟨rfl,?_⟩)⟩);show Q (V.bl (!decide (V.int (Builtin.bitAnd ((m:Nat):Int) ((bitN ns x:Nat):Int))=V.int 0))) H;rw[PyProof.Rows.bitAnd_pp (tS m) (tS _),US,US];have e:(!decide (V.int ((m &&& bitN ns x:Nat):Int)=V.int 0))=((m &&& bitN ns x) != 0):=by
  rw[U5];simp
 rw[e];exact q
theorem inVs(x:Str):∀xs:lS,inV (.str x) (xs.map V.str)=decide (x∈xs)
 |[]=>rfl
 |y::xs=>by
  show((y == x) || inV (.str x) (xs.map V.str))=_;rw[inVs x xs,U5,U6,beq_iff_eq,decide_eq_true_eq,decide_eq_true_eq,uk];exact⟨fun h=>h.imp_left Eq.symm,fun h=>h.imp_left Eq.symm⟩
theorem xD(xs:lS):(xs.map V.str).all xJ=true:=by
 rw[List.all_map,Ui];intro x _
 rfl
theorem scSpent:FnScope ["self","names","free","stand","pairs","name"] lS24 (zp XA):=.ok
theorem JX(F:Fun K "spent" "Putter.spent" XA f fd)(N:Pn K cP)(GN':Me P w K mg base CX0 1 cP "new_name" ["self","name"] (spNew cP)):FnOk P w K mg base CX0 2 f fd lS24 (spSpent cP):=by
 refine F.by scSpent (fun vs H Q E h=>?_) (fun cdv A outer s H vs Q E hr h=>?_)
 ·obtain⟨pu,dx,od,bd,lx,lf,xs,fr,n,rfl,_⟩:=h
  rfl
 obtain⟨pu,dx,od,bd,lx,lf,xs,fr,n,rfl,ho,hlx,hlf,hn,hxl,hx,q⟩:=h;refine⟨_,
  (zh (sE 3 scSpent.nd (zD zL))
  (zh (sE 4 scSpent.nd (zD zL))
  (zh (yt PassesOwn.never rfl (zR K (jv 1)) (gN 5 scSpent.nd)
   (zk (zE (jW.pt (vI (Zn K (jv 5) (jv 2)) (wr (xV K (jv 5) (jv 3)))))
    (zk (yw (yP uF uS uT yi (jv 3) (jA1 (jv 5)))))
    (zh (yw (yP uF uS uT yi (jv 3) (jA1 (vM (jv 0) N.cl GN' hr yJ (jA1 (jv 5))))))
    (zk (yw (yP uF uS uT yi (jv 4) (jA1 (zB (jA2 (xX (zY K) (jv 3) (wg zt)) (jv 5)))))))))))
  (zk (zv (zB (jA2 (jv 3) (jv 4)))))))),?_⟩
 have sl:=zO;refine⟨sN0,fun ls hls=>⟨sN0,fun lp hlp=>?_⟩⟩;have s1:Same H (upd (upd H ls (.lst [])) lp (.lst [])):=(zo hls _).new hlp;have nlp:H lp=none:=(zo hls (.lst [])).free hlp;have nsp:ls≠lp:=zi uX9 hlp;have nup:∀{b:Addr}{u:HO},H b=some u->(∀C dx fs,u≠.ins C dx fs)->b≠pu:=fun{b u} e n z=>by rw[z,ho]at e;exact n _ _ _ (uZ.inj e).symm
 refine(zg rfl ⟨lx,rfl,⟨_,SqL.of (s1 _ _ hlx)⟩,vD (xs:=xs.map V.str) (fun i σ H'=>(∃y,σ=[sR pu,sR lx,sR lf,sR ls,sR lp,y])/\KM (·=pu) H H'/\H' pu=some (PO cP dx od bd (spn fr (xs.take i) n).2.2)/\H' ls=some (.lst ((spn fr (xs.take i) n).1.map V.str))/\∃qs,H' lp=some (.lst (qs.map V.ref))/\All2 (fun(p:Str×Str) q=>H' q=some (.tup [.str p.1,.str p.2])) (spn fr (xs.take i) n).2.1 qs) ⟨⟨none,rfl⟩,.of s1,s1 _ _ ho,old hlp uX9,[],uX9,.nil⟩ (fun i σ H' _ h=>SqL.of (h.2.1 _ _ (nup hlx (by intro _ _ _ z;cases z)) hlx)) ?_ ?_⟩)
 ·rintro i v σ H1 hv ⟨⟨y,rfl⟩,k1,o1,l1,qs,l2,al⟩
  obtain⟨x,hx1,rfl⟩:=L2.gM hv;have hil:=(ud.mp hx1).1;have hl:=yD fr (xs.take i) n;rw[uq,Nat.min_eq_left (Nat.le_of_lt hil)]at hl;rw[JT hx1];have hlf1:=k1 _ _ (nup hlf (by intro _ _ _ z;cases z)) hlf;generalize spn fr (xs.take i) n=S at *;obtain⟨st,ps,m⟩:=S;dsimp only at o1 l1 al hl
  unfold spS;dsimp only
  have nls:ls≠pu:=fun z=>by rw[z,ho]at hls;cases hls
  have nlp':lp≠pu:=fun z=>by rw[z,ho]at nlp;cases nlp
  have q0:∀q∈qs,∀{u},H1 q=some (.tup u)->q≠ls/\q≠lp/\q≠pu:=fun q _ {u} e=>⟨yv e l1 (by intro z;cases z),yv e l2 (by intro z;cases z),yv e o1 (by intro z;unfold PO at z;cases z)⟩;refine(zq rfl rfl ⟨lf,(zg rfl ⟨.inl (SqL.of hlf1),rfl,xD fr,(zg rfl ?_)⟩)⟩);rw[if_neg (show ¬ (false=true) by decide),inVs];by_cases c:x∈fr/\x∉st
  ·rw[if_pos c,decide_eq_true c.1]
   refine iteT (zq rfl rfl ⟨ls,(zg rfl ⟨.inl (SqL.of l1),rfl,xD st,(zg rfl ?_)⟩)⟩);rw[if_pos rfl,inVs,decide_eq_false c.2];refine iteT (zg rfl ⟨.inl ⟨rfl,_,SqL.of l1⟩,(zg rfl ⟨ls,(zC rfl rfl ⟨l1,by rw[ua];lia,?_⟩)⟩)⟩);exact⟨⟨_,rfl⟩,k1.put hls,by rw[zj nls.symm];exact o1,by rw[uX9];simp,qs,by rw[zj nsp.symm];exact l2,al.imp fun p q e=>by rw[zj (yv e l1 (by intro z;cases z))];exact e⟩
  rw[if_neg c];cases c1:decide (x∈fr)
  all_goals first
   |refine iteF (iteF ?_)
   | (have c2:x∈st:=Classical.byContradiction fun z=>c ⟨of_decide_eq_true c1,z⟩
      refine iteT (zq rfl rfl ⟨ls,(zg rfl ⟨.inl (SqL.of l1),rfl,xD st,(zg rfl ?_)⟩)⟩);rw[if_pos rfl,inVs,decide_eq_true c2];refine iteF ?_)
  all_goals
   refine(zg rfl ⟨.inl ⟨rfl,_,SqL.of l1⟩,(zg rfl ⟨pu,dx,(zg rfl ⟨o1,rfl,(zg rfl ⟨pu,dx,od,bd,x,m,rfl,o1,by lia,hx _ (uw hx1),fun H2 e2=>?_⟩)⟩)⟩)⟩);have l1':H2 ls=some (.lst (st.map V.str)):=by rw[e2,zj nls];exact l1
   have l2':H2 lp=some (.lst (qs.map V.ref)):=by rw[e2,zj nlp'];exact l2
   have o2:H2 pu=some (PO cP dx od bd (m+1)):=by rw[e2];exact uX9
   have k2:KM (·=pu) H H2:=fun b u n e=>by rw[e2,zj n];exact k1 b u n e
   have t2:∀{q u},H1 q=some (.tup u)->H2 q=some (.tup u):=fun{q u} e=>by rw[e2,zj (yv e o1 (by intro z;unfold PO at z;cases z))];exact e
   refine⟨ls,(zC rfl rfl ⟨l1',by rw[ua];lia,?_⟩)⟩;have hu:=uX9 (H:=H2) (a:=ls) (o:=.lst (st.map V.str++[.str (nnm x (m+1))]));have l3:upd H2 ls (.lst (st.map V.str++[.str (nnm x (m+1))])) lp=some (.lst (qs.map V.ref)):=by rw[zj nsp.symm];exact l2'
   have o3:upd H2 ls (.lst (st.map V.str++[.str (nnm x (m+1))])) pu=some (PO cP dx od bd (m+1)):=by rw[zj nls.symm];exact o2
   have k3:KM (·=pu) H (upd H2 ls (.lst (st.map V.str++[.str (nnm x (m+1))]))):=k2.put hls;have t3:∀{q u},H1 q=some (.tup u)->upd H2 ls (.lst (st.map V.str++[.str (nnm x (m+1))])) q=some (.tup u):=fun{q u} e=>by rw[zj (yv (t2 e) l1' (by intro z;cases z))];exact t2 e
   generalize upd H2 ls (.lst (st.map V.str++[.str (nnm x (m+1))]))=H3 at *;refine(zg rfl ⟨.inl ⟨rfl,_,SqL.of l3⟩,?_⟩);refine(zq rfl rfl ⟨ls,_,_,.str (nnm x (m+1)),rfl,rfl,SqL.of hu,?_,?_⟩)
   ·exact vH _ _
   refine(zg rfl ⟨sN2,fun t ht=>?_⟩);have aql:=al.len;have h4:=zo (o:=.tup [.str (nnm x (m+1)),.str x]) ht;refine⟨lp,(zC rfl rfl ⟨h4 _ _ l3,by rw[ua];lia,?_⟩)⟩;have tl:∀{q u},upd H3 t (.tup [.str (nnm x (m+1)),.str x]) q=some (.tup u)->upd (upd H3 t (.tup [.str (nnm x (m+1)),.str x])) lp (.lst (qs.map V.ref++[.ref t])) q=some (.tup u):=fun{q u} e=>by rw[zj (yv e (h4 _ _ l3) (by intro z;cases z))];exact e
   refine⟨⟨_,rfl⟩,(k3.trans (.of h4)).put nlp,by rw[zj nlp'.symm];exact h4 _ _ o3,by rw[zj nsp];rw[h4 _ _ hu];simp,qs++[t],by rw[uX9];simp,All2.app (al.imp fun p q e=>tl (h4 _ _ (t3 e))) (.cons (tl uX9) .nil)⟩
 ·rintro σ H1 ⟨⟨y,rfl⟩,k1,o1,l1,qs,l2,al⟩
  rw[ua,Uj]at o1 l1 al;refine(zq rfl rfl ⟨sN2,fun t ht=>?_⟩);have hn2:=zo (o:=.tup [.ref ls,.ref lp]) ht;exact q _ t ls lp qs (k1.trans (.of hn2)) (hn2 _ _ o1) uX9 hls nlp (hn2 _ _ l1) (hn2 _ _ l2) (al.imp fun p q e=>hn2 _ _ e)
theorem zaQ{xs:lS}{c:Hc}(hi:i < xs.length)(h:xs[xs.length-1-i]?=some x):wD (xs.drop (xs.length-(i+1))) c=.drop x (wD (xs.drop (xs.length-i)) c):=by
 obtain⟨h1,h2⟩:=ud.mp h;have e:xs.length-(i+1)=xs.length-1-i:=by lia
 have e2:xs.length-i=xs.length-1-i+1:=by lia
 rw[e,UN h1,h2,e2]
 rfl
theorem zaR{xs:List (Str×Str)}{c:Hc}{x:Str×Str}(hi:i < xs.length)(h:xs[xs.length-1-i]?=some x):wH (xs.drop (xs.length-(i+1))) c=.hold x.1 x.2 (wH (xs.drop (xs.length-i)) c):=by
 obtain⟨h1,h2⟩:=ud.mp h;have e:xs.length-(i+1)=xs.length-1-i:=by lia
 have e2:xs.length-i=xs.length-1-i+1:=by lia
 rw[e,UN h1,h2,e2]
 rfl
theorem scDrops:FnScope ["names","body","name"] ["names","body"] (zp XB):=.ok
theorem JY(F:Fun K "with_drops" "with_drops" XB f fd)(m_reversed:mg "reversed"=none):FnOk P w K mg base CX0 1 f fd ["names","body"] spDrops:=by
 refine F.by scDrops (fun vs H Q E h=>?_) (fun cdv A outer s H vs Q E hr h=>?_)
 ·obtain⟨l,xs,c,v,rfl,_⟩:=h
  rfl
 obtain⟨l,xs,c,v,rfl,hl,hc,q⟩:=h;refine⟨_,(zh (yt PassesOwn.never rfl (Xq rfl m_reversed (jA1 (jv 0))) (gN 2 scDrops.nd)
   (zk (sE 1 scDrops.nd (zB (jA3 zw (jv 2) (jv 1))))))
  (zk (zv (jv 1)))),?_⟩
 have sl:=zO;refine(zg rfl ⟨l,(zg rfl ⟨SqL.of hl,Zk (xs:=xs.map V.str) (fun i σ H'=>∃v' y,σ=[sR l,some v',y]/\Same H H'/\IsHc H' (wD (xs.drop (xs.length-i)) c) v') ⟨v,none,rfl,Same.refl _,by rw[Nat.sub_zero,List.drop_length];exact hc⟩ (fun i σ H' _ ⟨_,_,_,s,_⟩=>SqL.of (s _ _ hl)) ?_ ?_⟩)⟩)
 ·rintro i x σ H1 hx ⟨v',y,rfl,s1,h1⟩
  have hi:i < xs.length:=by
   have:=(ud.mp hx).1
   rw[Uz,ua]at this;exact this
  rw[List.getElem?_reverse (by rw[ua];exact hi),ua,ug]at hx;obtain⟨z,hz,rfl⟩:=ue.mp hx;refine(zq rfl rfl ⟨sN3,fun t ht=>⟨_,_,rfl,s1.new ht,?_⟩⟩);rw[zaQ hi hz];exact⟨t,v',rfl,uX9,h1.keep (.of (zo ht _))⟩
 ·rintro σ H1 ⟨v',y,rfl,s1,h1⟩
  rw[ua,Nat.sub_self,List.drop_zero]at h1;exact(zg rfl (q _ _ s1 h1))
theorem scHolds:FnScope ["pairs","body","pair"] ["pairs","body"] (zp XC):=.ok
theorem JZ(F:Fun K "with_holds" "with_holds" XC f fd)(m_reversed:mg "reversed"=none):FnOk P w K mg base CX0 1 f fd ["pairs","body"] spHolds:=by
 refine F.by scHolds (fun vs H Q E h=>?_) (fun cdv A outer s H vs Q E hr h=>?_)
 ·obtain⟨l,ps,qs,c,v,rfl,_⟩:=h
  rfl
 obtain⟨l,ps,qs,c,v,rfl,hl,hal,hc,q⟩:=h;refine⟨_,(zh (yt PassesOwn.never rfl (Xq rfl m_reversed (jA1 (jv 0))) (gN 2 scHolds.nd)
   (zk (sE 1 scHolds.nd (zB (jA4 zw (zn K (jv 2)) (zn K (jv 2)) (jv 1))))))
  (zk (zv (jv 1)))),?_⟩
 have sl:=zO;have le:=hal.len;refine(zg rfl ⟨l,(zg rfl ⟨SqL.of hl,Zk (xs:=qs.map V.ref) (fun i σ H'=>∃v' y,σ=[sR l,some v',y]/\Same H H'/\IsHc H' (wH (ps.drop (ps.length-i)) c) v') ⟨v,none,rfl,Same.refl _,by rw[Nat.sub_zero,List.drop_length];exact hc⟩ (fun i σ H' _ ⟨_,_,_,s,_⟩=>SqL.of (s _ _ hl)) ?_ ?_⟩)⟩)
 ·rintro i x σ H1 hx ⟨v',y,rfl,s1,h1⟩
  have hi:i < qs.length:=by
   have:=(ud.mp hx).1
   rw[Uz,ua]at this;exact this
  rw[List.getElem?_reverse (by rw[ua];exact hi),ua,ug]at hx;obtain⟨z,hz,rfl⟩:=ue.mp hx;obtain⟨p,hp,hpz⟩:=hal.get hz;have hz1:=s1 _ _ hpz;refine(zg rfl (ixT hz1 aI0 (zg rfl (ixT hz1 aI1 (zg rfl ⟨sN4,fun t ht=>⟨_,_,rfl,s1.new ht,?_⟩⟩)))));rw[<- le]at hp hi;rw[zaR hi hp];exact⟨t,v',rfl,uX9,h1.keep (.of (zo ht _))⟩
 ·rintro σ H1 ⟨v',y,rfl,s1,h1⟩
  rw[ua,<- le,Nat.sub_self,List.drop_zero]at h1;exact(zg rfl (q _ _ s1 h1))
end GN
namespace L2
open PySem PySem.Spec PyProof.Rows
theorem jc(a b c:Value):checkTypeCall "zip" ⟨[a,b,c],[]⟩=pure ():=by kernel_rfl
theorem jp(a b c:Value):checkBuiltinCall "zip.__new__" ⟨[.type "zip",a,b,c],[]⟩=pure ():=by kernel_rfl
theorem wn(a b c d:Value):argsOk "object.__init__" ⟨[a,b,c,d],[]⟩:=by
 unfold argsOk;rw[signature?_of (id:="object.__init__") (n:=['_','_','t','i','n','i','_','_']) (o:=['t','c','e','j','b','o']) (by kernel_rfl) F.owner_object];kernel_rfl
abbrev yb(k m e:Bool)(h:Heap)(l r t:Addr):Heap:=za e (zb k m h l r) t
abbrev yc(k m e:Bool)(h:Heap)(l r t:Addr):Heap:=(yb k m e h l r t).push { cls:=.type "tuple",data:=.seq #[.ref h.objs.size,.ref (za k h l).objs.size,.ref (zb k m h l r).objs.size] }
abbrev yd(k m e:Bool)(h:Heap)(l r t:Addr):Heap:=(yc k m e h l r t).push { cls:=.type "tuple",data:=.seq #[.none,.none,.none] }
abbrev ye(k m e:Bool)(h:Heap)(l r t:Addr):Heap:=(yd k m e h l r t).push { cls:=.type "zip",data:=.fields #[.none,.bool false,.bool false,.ref (yb k m e h l r t).objs.size,.ref (yc k m e h l r t).objs.size] }
theorem Vc(k m e:Bool)(l r t:Addr)(xs ys zs:Array Value):Meets (Builtin.«zip.__new__» ⟨[.type "zip",.ref l,.ref r,.ref t],[]⟩)
  (fun _ R s=>Sq k s.heap l xs/\Sq m s.heap r ys/\Sq e s.heap t zs/\R (.ok (.ret (.ref (yd k m e s.heap l r t).objs.size))) { s with heap:=ye k m e s.heap l r t }) :=
 .of_wp fun prog w A R s h=>by
  obtain⟨hp,g,d,tk,os⟩:=s;obtain⟨h1,h2,h3,h⟩:=h;have hs:=sub_zip;have q1:Sq k (Shared.heap ⟨hp,g,d,tk,os⟩) l xs:=h1;have q2:Sq m (Shared.heap ⟨za k hp l,g,d,tk,os⟩) r ys:=h2.at fun o e=>uc _ e;have q3:Sq e (Shared.heap ⟨zb k m hp l r,g,d,tk,os⟩) t zs:=h3.at fun o e=>uc _ (uc _ e)
  wp_walk using wz q1,wz q2,wz q3
  exact⟨_,rfl,h⟩
section
variable{k m e:Bool}{l r t:Nat}{xs ys zs:Array Value}
theorem Vd{Q:VSP}(hl:Sq k s.heap l xs)(hr:Sq m s.heap r ys)(ht:Sq e s.heap t zs)
  (q:∀h',ZN [(k,l),(m,r),(e,t)] h' s.heap.objs.size 0 .none (.bool false)->h'.objs.size=s.heap.objs.size+6->(∀c o,s.heap.get? c=some o->h'.get? c=some o)->Q (.ref (s.heap.objs.size+5)) { s with heap:=h' }) :
  wpAny (model P w) A (call (.type "zip") [.ref l,.ref r,.ref t]) Q E s:=by
 apply callType_new F.called_zip (by decide) (jc _ _ _) (jp _ _ _) (fun obj=>wn obj _ _ _) F.entry_zip_new (Vc k m e l r t xs ys zs)
 refine⟨hl,hr,ht,?_⟩;have s1:(za k s.heap l).objs.size=s.heap.objs.size+1:=Ug ..;have s2:(zb k m s.heap l r).objs.size=s.heap.objs.size+2:=by rw[Ug,s1]
 have s3:(yb k m e s.heap l r t).objs.size=s.heap.objs.size+3:=by rw[Ug,s2]
 have s4:(yc k m e s.heap l r t).objs.size=s.heap.objs.size+4:=by rw[Ug,s3]
 have s5:(yd k m e s.heap l r t).objs.size=s.heap.objs.size+5:=by rw[Ug,s4]
 have s6:(ye k m e s.heap l r t).objs.size=s.heap.objs.size+6:=by rw[Ug,s5]
 have up:∀{c o},(yd k m e s.heap l r t).get? c=some o->(ye k m e s.heap l r t).get? c=some o:=fun e=>uc _ e;have p6:(ye k m e s.heap l r t).get? (yd k m e s.heap l r t).objs.size=some _:=uv _ rfl;have p5:(ye k m e s.heap l r t).get? (yc k m e s.heap l r t).objs.size=some _:=up (uv _ rfl);have p4:(ye k m e s.heap l r t).get? (yb k m e s.heap l r t).objs.size=some _:=up (uc _ (uv _ rfl));have p3:(ye k m e s.heap l r t).get? (zb k m s.heap l r).objs.size=some _:=up (uc _ (uc _ (uv _ rfl)));have p2:(ye k m e s.heap l r t).get? (za k s.heap l).objs.size=some _:=up (uc _ (uc _ (uc _ (uv _ rfl))));have p1:(ye k m e s.heap l r t).get? s.heap.objs.size=some _:=up (uc _ (uc _ (uc _ (uc _ (uv _ rfl)))));rw[s5,s3,s4]at p6;rw[s4]at p5;rw[s3,s1,s2]at p4;rw[s2]at p3;rw[s1]at p2;show _/\_;rw[s5];exact⟨⟨_,p6,rfl⟩,q _ ⟨p6,p4,⟨_,rfl,p5⟩,fun j k' l' hj=>by
  match j,hj with
  |0,hj=>cases hj;exact .of ⟨_,p1,rfl,rfl⟩
  |1,hj=>cases hj;exact .of ⟨_,p2,rfl,rfl⟩
  |2,hj=>cases hj;exact .of ⟨_,p3,rfl,rfl⟩⟩ s6 fun c o e=>up (uc _ (uc _ (uc _ (uc _ (uc _ e)))))⟩
end
abbrev It3(K:ub)(k m e:Bool)(a b c:Addr):It:=ItN K [(k,a),(m,b),(e,c)]
section
variable{k m e:Bool}{ys zs:List V}{x y z v:V}
theorem go3(q1:SqK k K H a xs)(q2:SqK m K H b ys)(q3:SqK e K H c zs)(hx:xs[i]?=some x)(hy:ys[i]?=some y)(hz:zs[i]?=some z):(It3 K k m e a b c).go i H:=⟨[x,y,z],rfl,fun j k' a' hj=>by
 match j,hj with
 |0,hj=>cases hj;exact⟨xs,q1,hx⟩
 |1,hj=>cases hj;exact⟨ys,q2,hy⟩
 |2,hj=>cases hj;exact⟨zs,q3,hz⟩⟩
theorem zd3(q1:SqK k K H a xs)(q2:SqK m K H b ys)(q3:SqK e K H c zs)(h:xs.length<=i):(It3 K k m e a b c).stop i H:=⟨fun j k' a' hj=>by
 match j,hj with
 |0,hj=>cases hj;exact⟨xs,q1⟩
 |1,hj=>cases hj;exact⟨ys,q2⟩
 |2,hj=>cases hj;exact⟨zs,q3⟩,0,k,a,xs,rfl,q1,h⟩
theorem yld3(h:(It3 K k m e a b c).yld i H v H')(q1:SqK k K H a xs)(q2:SqK m K H b ys)(q3:SqK e K H c zs):∃T x y z,v=.ref T/\H T=none/\H'=upd H T (.tup [x,y,z])/\xs[i]?=some x/\ys[i]?=some y/\zs[i]?=some z:=by
 obtain⟨T,vs,h1,h2,h3,h4,h5⟩:=h;obtain⟨x,vs,rfl⟩:=Um h4;obtain⟨y,vs,rfl⟩:=Um (Nat.succ.inj h4);obtain⟨z,vs,rfl⟩:=Um (Nat.succ.inj (Nat.succ.inj h4));rw[u5.mp (Nat.succ.inj (Nat.succ.inj (Nat.succ.inj h4)))]at h3 h5;exact⟨T,x,y,z,h1,h2,h3,h5 0 k a xs rfl q1,h5 1 m b ys rfl q2,h5 2 e c zs rfl q3⟩
end
theorem zd4{x y z:V}{us:List Value}(r:Vals [x,y,z] us):∃u v t,us=[u,v,t]/\RelV x u/\RelV y v/\RelV z t:=by
 cases r with
 |cons r1 r2 =>
  cases r2 with
  |cons r3 r4 =>
   cases r4 with
   |cons r5 r6=>cases r6;exact⟨_,_,_,rfl,r1,r3,r5⟩
def zbH(K:ub)(ta:TA):TI:=fun σ H R=>ta σ H fun vs H1=>∃a b c k m e xs ys zs,vs=[.ref a,.ref b,.ref c]/\SqK k K H1 a xs/\SqK m K H1 b ys/\SqK e K H1 c zs/\R (It3 K k m e a b c) H1
theorem zaS{a b c:Expr}{ta:TA}{p:Pos}(hg:Gl X "zip")(hm:X.mg "zip"=none)(ha:PA X [a,b,c] ta)(h1:starEach [a,b,c] X.env=[(false,eval a X.env),(false,eval b X.env),(false,eval c X.env)]:=by rfl)(h2:starEach [b,c] X.env=[(false,eval b X.env),(false,eval c X.env)]:=by rfl):
  PI X (.Tuple elts n tpos) (.Call (.Name "zip" p) [a,b,c] [] pos) (zbH X.K ta):=by
 intro pins s σ H R I h;refine Call_ (xG I hg hm boot_zip (Ul (thn (ha pos pins s σ H _ I h) fun us s1 g=>?_) (by rw[h1,h2]) (by rw[h2];rfl)));obtain⟨vs,H1,I1,r1,a1,b1,c1,k,m,e,xs,ys,zs,rfl,g1,g2,g3,q⟩:=g;obtain⟨u,u',u'',rfl,e1,e2,e3⟩:=zd4 r1;cases e1;cases e2;cases e3;obtain⟨i1,v1,q1,z1,l1⟩:=I1.sqk g1;obtain⟨i2,v2,q2,z2,l2⟩:=I1.sqk g2;obtain⟨i3,v3,q3,z3,l3⟩:=I1.sqk g3;refine Vd q1 q2 q3 fun h' Z sz kp=>?_;have tz:=Ym (P:=X.prog) (w:=X.w) (K:=X.K) (elts:=elts) (n:=n) (pos:=tpos) (zs:=[(k,a1),(m,b1),(e,c1)]) (B:=s1.heap.objs.size) (by show 0 < 3;decide) sN3 fun j k' a' hj=>by
  match j,hj with
  |0,hj=>cases hj;exact l1
  |1,hj=>cases hj;exact l2
  |2,hj=>cases hj;exact l3
 refine tz.self X.A 0 { s1 with heap:=h' } _ _ Z ⟨s1.heap.objs.size+5,_,_,_,H1,rfl,I1.kept (t':=s1.toks) kp,tz,Z,fun c hc=>?_,q⟩;have le:s1.heap.objs.size<=c:=(fpN_iff.mp hc).1;exact I1.fpOk le (I1.hok.fresh le)
theorem zaT{a b c:Expr}{t:TA}{p:Pos}(hg:Gl X "zip")(hm:X.mg "zip"=none)(ha:jA X [a,b,c] t)(h1:zy a=false:=by rfl)(h2:zy b=false:=by rfl)(h3:zy c=false:=by rfl):jI X (.Tuple elts n tpos) (.Call (.Name "zip" p) [a,b,c] [] pos) (zbH X.K t) :=
 ⟨zaS hg hm ha.out (by rw[zG h1,zG h2,zG h3];rfl) (by rw[zG h2,zG h3];rfl)⟩
end L2
namespace L2
open PySem
section
variable{Q:VK}
theorem zaU{k m e:Bool}{ys us:List V}(hlen:xs.length=ys.length)(hlen':xs.length=us.length)(Pv:Nat->St->List V->Hp->Prop)(h0:Pv 0 σ [] H)(hl:∀i τ zs H,i<=xs.length->Pv i τ zs H->SqK k K H a xs/\SqK m K H b ys/\SqK e K H c us)
  (hs:∀i x y u T τ zs H,xs[i]?=some x->ys[i]?=some y->us[i]?=some u->H T=none->Pv i τ zs H->g (.ref T) τ (upd H T (.tup [x,y,u])) fun τ2 H2=>tt τ2 H2 fun b H3=>if b=true then te τ2 H3 fun y H4=>zs.length < sizeLine/\Pv (i+1) τ2 (zs++[y]) H4 else Pv (i+1) τ2 zs H3)
  (hd:∀τ zs H,Pv xs.length τ zs H->∀p,H p=none->Q (.ref p) (upd H p (.lst zs))):∃W,(∃m,W 0 m σ [] H)/\lcBy (It3 K k m e a b c) g tt te Q W:=by
 refine⟨fun i m τ zs H=>m=xs.length-i/\i<=xs.length/\Pv i τ zs H,⟨xs.length,by simp,uM _,h0⟩,?_⟩;rintro i n τ zs H ⟨rfl,hi,p⟩;obtain⟨q1,q2,q3⟩:=hl i τ zs H hi p;by_cases hlt:i < xs.length
 ·refine .inr ⟨go3 q1 q2 q3 (uh hlt) (uh (hlen ▸ hlt)) (uh (hlen' ▸ hlt)),Pv (i+1),fun τ' zs' H' p'=>⟨xs.length-(i+1),by lia,rfl,hlt,p'⟩,fun x H' yq=>?_⟩
  obtain⟨T,x,y,z,rfl,hT,rfl,e1,e2,e3⟩:=yld3 yq q1 q2 q3;exact hs i x y z T τ zs H e1 e2 e3 hT p
 ·have e:i=xs.length:=by lia
  subst e;exact .inl ⟨zd3 q1 q2 q3 (uj _),hd τ zs H p⟩
end
end L2
namespace GN
open PySem L2 K11
variable{d:De}
def IsDp(H:Hp):De->Addr->Prop
 |.num i,p=>H p=some (.tup [.str "num",.int i])
 |.op w a b,p=>H p=some (.tup [.str "op",.str w,.str a,.str b])
 |.app w f xs,p=>∃q,H p=some (.tup [.str w,.str f,.ref q])/\H q=some (.tup (xs.map V.str))
def OwA(H:Hp)(od:Addr)(ow:Str->List Bool)(N:lS):Prop:=∃kv,H od=some (.dK kv)/\∀f∈N,∃a,valV kv (.inr f)=some (.ref a)/\H a=some (.tup ((ow f).map V.bl))
def CaD(N:lS)(ow:Str->List Bool):De->Prop
 |.app w f xs=>w="call"->f∈N/\(ow f).length=xs.length
 |_=>True
def LnD:De->lS->Prop
 |.op _ _ _,xs=>xs.length=2
 |.app w _ _,xs=>w="ask"->xs≠[]
 |_,_=>True
theorem wY{w f:Str}{xs0 xs:lS}(e:w≠"ask"):wN (.app w f xs0) xs=.app w f xs:=if_neg e
theorem ZH{f:Str}{xs0 xs:lS}:wN (.app "ask" f xs0) (y::xs)=.app "ask" y xs:=by unfold wN;exact if_pos rfl
inductive spWith(vs:List V)(H:Hp)(Q:VK)(e_3:XK):Prop
 |mk (p:Addr) (l:Addr) (d:De):(∃xs:lS,vs=[.ref p,.ref l]/\IsDe H d p/\H l=some (.lst (xs.map V.str))/\LnD d xs/\xs.length<=100/\∀H' q,Same H H'->IsDp H' (wN d xs) q->Q (.ref q) H')->spWith vs H Q e_3
inductive spUsedUp(vs:List V)(H:Hp)(Q:VK)(e_3:XK):Prop
 |mk (p:Addr) (od:Addr) (d:De) (ow:Str->List Bool):(∃N:lS,vs=[.ref p,.ref od]/\IsDe H d p/\OwA H od ow N/\CaD N ow d/\∀H' q,Same H H'->H' q=some (.tup ((ends ow d).map V.bl))->Q (.ref q) H')->spUsedUp vs H Q e_3
theorem IsDe.head(ow:Str->List Bool)(h:IsDe H d p):∃w0 rest,H p=some (.tup (.str w0::rest))/\(w0="call"->∃f xs q,d=.app "call" f xs/\rest=[.str f,.ref q])/\(w0≠"call"->d.uses.map (fun _=>V.bl (!decide (V.str w0=V.str "op")))=(ends ow d).map V.bl):=by
 cases h with
 |num a=>exact⟨_,_,a,fun e=>absurd e (by decide),fun _=>rfl⟩
 |op a=>exact⟨_,_,a,fun e=>absurd e (by decide),fun _=>rfl⟩
 |@app w0 f0 xs0 p q0 c a b =>
  refine⟨_,_,a,fun e=>⟨f0,xs0,q0,by rw[e],rfl⟩,fun e=>?_⟩;rw[show ends ow (.app w0 f0 xs0)=(De.uses (.app w0 f0 xs0)).map fun _=>true from if_neg e,UB,decide_eq_false (fun z=>c.2.1 (V.str.inj z))]
  rfl
theorem IsDe.usl(h:IsDe H d p):d.uses.length<=41:=by
 cases h with
 |num a=>show 0<=41;decide
 |op a=>show 2<=41;decide
 |@app w0 f0 xs0 p q0 c a b =>
  by_cases e:w0="ask"
  ·rw[e,zX,ui];lia
  ·rw[zV e];lia
theorem zde:FnScope ["deed","names"] ["deed","names"] (zp Jn):=.ok
theorem zaV(F:Fun K "with_names" "with_names" Jn f fd)(m_tuple:mg "tuple"=none):FnOk P w K mg base CX0 1 f fd ["deed","names"] spWith:=by
 refine F.by zde (fun vs H Q E h=>?_) (fun cdv A outer s H vs Q E hr h=>?_)
 ·obtain⟨p,l,d,xs,rfl,_⟩:=h
  rfl
 obtain⟨p,l,d,xs,rfl,hd,hl,hn,hx,q⟩:=h;refine⟨_,
  (zh (zE (tN zI (zn K (jv 0)) zw) (zk (zv (jv 0))) zx)
  (zh (zE (tN zI (zn K (jv 0)) zw) (zk (zv (zA wx (yL wO (jv 0) yW (yX zt)) (zS (zH K) rfl m_tuple uN (jA1 (jv 1)))))) zx)
  (zh (zE (tN zI (zn K (jv 0)) zw) (zk (zv (zB (jA3 zw (zQ K (jv 1)) (zS (zH K) rfl m_tuple uN (jA1 (yL (wB K) (jv 1) (yX zt) yW))))))) zx)
  (zk (zv (zA wx (yL wO (jv 0) yW (yX zt)) (zB (jA1 (zS (zH K) rfl m_tuple uN (jA1 (jv 1))))))))))),?_⟩
 have sl:=zO;cases hd with
 |num hp =>
  refine(zg rfl (ixT hp aI0 ⟨rfl,(zg rfl ?_)⟩));refine iteT (zg rfl (q _ p (Same.refl _) hp))
 |@op w0 a b p hp =>
  refine(zg rfl (ixT hp aI0 ⟨rfl,(zg rfl (iteF ?_))⟩));refine(yV rfl hp ?_);refine(zg rfl ⟨2,rfl,p,(zg rfl ⟨hp,fun p3 H1 s1 h3=>(zg rfl ⟨l,(zg rfl (.inl ⟨SqL.of (s1 _ _ hl),fun t4 f4=>?_⟩))⟩)⟩)⟩);have hn:xs.length=2:=hn
  match xs,hn with
  |[a1,b1],_ =>
  refine⟨p3,t4,[.str "op",.str w0],(zg rfl ⟨rfl,SqT.of (old f4 h3),SqT.of uX9,(by intro z;cases z),sN4,(fun e=>by simp at e),fun _ pd fd'=>?_⟩)⟩;exact q _ pd (((show Same H H1 from s1).new f4).new fd') uX9
 |@app w0 f0 xs0 p q0 c hp hq =>
  refine(zg rfl (ixT hp aI0 ⟨rfl,(zg rfl ?_)⟩));rw[decide_eq_false (fun e=>c.1 (V.str.inj e))];refine iteF ?_;refine(zg rfl (ixT hp aI0 ⟨rfl,(zg rfl ?_)⟩));rw[decide_eq_false (fun e=>c.2.1 (V.str.inj e))];refine iteF ?_;refine(zg rfl (ixT hp aI0 ⟨rfl,(zg rfl ?_)⟩));by_cases e:w0="ask"
  ·subst e
   refine iteT ?_;have hn:=hn rfl
   match xs,hn with
   |y::ys,_ =>
   refine(zg rfl (ixL hl aI0 ?_));refine(zg rfl ⟨1,rfl,l,(zg rfl ⟨SqL.of hl,fun l2 f2=>⟨l2,(zg rfl (.inl ⟨SqL.of uX9,fun t3 f3=>⟨sN3,fun pd fd'=>?_⟩⟩))⟩⟩)⟩);have e2:cutV ((y::ys).map V.str) (some 1) none=ys.map V.str:=by rw[YA (by decide)];rfl
   refine q _ pd (((zo f2 _).new f3).new fd') ?_;rw[ZH];refine⟨t3,uX9,old fd' ?_⟩;rw[uX9,e2]
  ·rw[decide_eq_false (fun z=>e (V.str.inj z))]
   refine iteF ?_;refine(zg rfl ⟨2,rfl,p,(zg rfl ⟨hp,fun p3 H1 s1 h3=>(zg rfl ⟨l,(zg rfl (.inl ⟨SqL.of (s1 _ _ hl),fun t4 f4=>⟨sN1,fun t5 f5=>?_⟩⟩))⟩)⟩)⟩);refine⟨p3,t5,[.str w0,.str f0],(zg rfl ⟨rfl,SqT.of (old f5 (old f4 h3)),SqT.of uX9,(by intro z;cases z),sN3,(fun e=>by simp at e),fun _ pd fd'=>?_⟩)⟩;refine q _ pd ((((show Same H H1 from s1).new f4).new f5).new fd') ?_;rw[wY e];exact⟨t4,uX9,old fd' (old f5 uX9)⟩
theorem J0:FnScope ["deed","owns"] ["deed","owns"] (zp Zu):=.ok
theorem J1:(["deed","owns","name"]:lS).Nodup:=by decide +kernel
theorem Ve(F:Fun K "used_up" "used_up" Zu f fd)(GN':Ca P w K mg base CX0 1 "names_of" ["deed"] spNamesOf)(m_tuple:mg "tuple"=none):FnOk P w K mg base CX0 2 f fd ["deed","owns"] spUsedUp:=by
 refine F.by J0 (fun vs H Q E h=>?_) (fun cdv A outer s H vs Q E hr h=>?_)
 ·obtain⟨p,od,d,ow,N,rfl,_⟩:=h
  rfl
 obtain⟨p,od,d,ow,N,rfl,hd,ho,hc,q⟩:=h;refine⟨_,
  (zh (zE (tN zI (zn K (jv 0)) zw) (zk (zv (yZ hr (jv 1) (zn K (jv 0))))) zx)
  (zk (zv (zS (zH K) rfl m_tuple uN (jA1 (yf ["name"] rfl (yH K (cA GN' hr (jA1 (jv 0)))) (fun _ _ _ _ _=>(gN 2 J1)) (fun _ _ _ _ _=>yn) (fun _ _ _ _ _=>(yO vd (zn K (jv 0)) zw (xI _))))))))),?_⟩
 have sl:=zO;obtain⟨w0,rest,hp,h1,h2⟩:=hd.head ow;have hul:=hd.usl;refine(zg rfl (ixT hp aI0 ⟨rfl,(zg rfl ?_)⟩));by_cases e:w0="call"
 ·subst e
  obtain⟨f0,xs,q0,rfl,rfl⟩:=h1 rfl;refine iteT ?_;obtain⟨kv,hkv,hN⟩:=ho;obtain⟨hf,_⟩:=hc rfl;obtain⟨a,g1,g2⟩:=hN _ hf;refine(zq rfl rfl (ixT hp aI1 ⟨od,.ref a,rfl,(show DGet H od (kV (.inr f0)) (some (.ref a))from g1 ▸ DGet.k hkv),?_⟩));exact q _ a (Same.refl _) g2
 ·rw[decide_eq_false (fun z=>e (V.str.inj z))]
  refine iteF ?_;refine(zg rfl ⟨p,d,rfl,hd,fun H1 q1 s1 hq1=>?_⟩);refine⟨q1,rfl,⟨_,SqT.of hq1⟩,Zl (xs:=d.uses.map V.str) (fun j τ ys H'=>H1=H'/\(∃v,τ=[sR p,sR od,v])/\ys=(d.uses.take j).map (fun _=>V.bl (!decide (V.str w0=V.str "op")))) ⟨rfl,⟨none,rfl⟩,rfl⟩ (fun j τ ys H' _ h=>SqT.of (h.1 ▸ hq1)) ?_ ?_⟩
  ·rintro j v τ ys H2 hv ⟨rfl,⟨v',rfl⟩,rfl⟩
   obtain⟨x,hx,rfl⟩:=L2.gM hv;refine(zg rfl (ixT (s1 _ _ hp) aI0 ⟨rfl,by rw[ua,uq];lia,rfl,⟨_,rfl⟩,?_⟩));rw[uD,hx,ut]
   rfl
  ·rintro τ ys H2 ⟨rfl,_,rfl⟩ l hl
   rw[ua,Uj,h2 e];refine⟨l,(zg rfl (.inl ⟨SqL.of uX9,fun t ht=>?_⟩))⟩;exact q _ t ((s1.new hl).new ht) uX9
theorem ZI(st:lS):∀(l:List (Str×Bool))(s:lS×Nat),(l.foldl (rpS st) s).1.length=s.1.length+l.length/\(l.foldl (rpS st) s).2=s.2+(l.filter (·.2)).length
 |[],s=>by simp
 |p::l,s=>by
  obtain⟨h1,h2⟩:=ZI st l (rpS st s p);rw[UI,h1,h2];unfold rpS;obtain⟨x,e⟩:=p;cases e
  ·simp;lia
  ·simp;lia
theorem zaW(xs:lS)(es:List Bool)(st:lS)(h:xs.length=es.length):(rpl xs es st).length=xs.length:=by
 unfold rpl;rw[(ZI st _ _).1,Ue,<- h];simp
theorem Vf{l:List (Str×Bool)}{e:Bool}(h:l[i]?=some (x,e)):(l.filter (·.2)).length=((l.take i).filter (·.2)).length+(if e then 1 else 0)+((l.drop (i+1)).filter (·.2)).length:=by
 obtain⟨hi,h2⟩:=ud.mp h;have e1:l=l.take i++(x,e)::l.drop (i+1):=by rw[<- h2,<- UN hi,List.take_append_drop]
 have e2:(l.filter (·.2)).length=((l.take i++(x,e)::l.drop (i+1)).filter (·.2)).length:=by rw[<- e1]
 rw[e2,UQ,uf];cases e
 ·simp
 ·simp;lia
theorem zdf{H3:Hp}{q3:Addr}{rest:List V}{l:lS}(hd:IsDe H d p)(hp:H p=some (.tup (.str w0::rest)))(h:IsDp H3 (wN d l) q3):(w0="make"/\∃f q,wN d l=.app "make" f l/\H3 q3=some (.tup [.str "make",.str f,.ref q])/\H3 q=some (.tup (l.map V.str)))\/(w0≠"make"/\IsHd H3 (wN d l) q3):=by
 cases hd with
 |num a=>rw[a]at hp;cases hp;exact .inr ⟨by decide,h⟩
 |op a=>rw[a]at hp;cases hp;exact .inr ⟨by decide,h⟩
 |@app w1 f1 xs1 p q1 c a b =>
  rw[a]at hp;cases hp;by_cases e:w0="ask"
  ·subst e
   refine .inr ⟨by decide,?_⟩;have e2:wN (.app "ask" f1 xs1) l=.app "ask" (l.getD 0 "") (l.drop 1):=by unfold wN;exact if_pos rfl
   rw[e2]at h ⊢;obtain⟨q,h1,h2⟩:=h;exact⟨q,h1,h2⟩
  ·rw[wY e]at h ⊢
   obtain⟨q,h1,h2⟩:=h;by_cases e3:w0="make"
   ·subst e3
    exact .inl ⟨rfl,f1,q,rfl,h1,h2⟩
   ·exact .inr ⟨e3,q,by rw[if_neg e3];exact h1,h2⟩
inductive spHeldDeed(vs:List V)(H:Hp)(Q:VK)(e_3:XK):Prop
 |mk (p:Addr) (qe:Addr) (ls:Addr) (d:De) (es:List Bool):(∃st:lS,vs=[.ref p,.ref qe,.ref ls]/\IsDe H d p/\H qe=some (.tup (es.map V.bl))/\H ls=some (.lst (st.map V.str))/\d.uses.length=es.length/\st.length=((d.uses.zip es).filter (·.2)).length/\∀H' q,Same H H'->IsHd H' (wN d (rpl d.uses es st)) q->Q (.ref q) H')->spHeldDeed vs H Q e_3
theorem scHeldDeed:FnScope ["deed","ends","stand","names","at","name","end","other"] lS27 (zp wW):=.ok
theorem YK(F:Fun K "held_deed" "held_deed" wW f fd)(GN':Ca P w K mg base CX0 1 "names_of" ["deed"] spNamesOf)(GW:Ca P w K mg base CX0 1 "with_names" ["deed","names"] spWith)(m_zip:mg "zip"=none):FnOk P w K mg base CX0 2 f fd lS27 spHeldDeed:=by
 refine F.by scHeldDeed (fun vs H Q E h=>?_) (fun cdv A outer s H vs Q E hr h=>?_)
 ·obtain⟨p,qe,ls,d,es,st,rfl,_⟩:=h
  rfl
 obtain⟨p,qe,ls,d,es,st,rfl,hd,hqe,hls,hle,hst,q⟩:=h;refine⟨_,
  (zh (sE 3 scHeldDeed.nd (zD zL))
  (zh (sE 4 scHeldDeed.nd zt)
  (zh (yt PassesOwn.never rfl (yI K rfl m_zip (jA2 (cA GN' hr (jA1 (jv 0))) (jv 1))) (zN K rfl (zu (gN 5 scHeldDeed.nd) (zu (gN 6 scHeldDeed.nd) zM)))
   (zh (yw (yP uF uS uT yi (jv 3) (jA1 (ww (yr (jv 6)) (xX (zY K) (jv 2) (jv 4)) (jv 5)))))
   (zk (sE 4 scHeldDeed.nd (ww (yr (jv 6)) (zA yy (jv 4) zt) (jv 4))))))
  (zh (sE 7 scHeldDeed.nd (cA GW hr (jA2 (jv 0) (jv 3))))
  (zk (zv (ww (tN zI (zn K (jv 0)) zw) (zA wx (jv 7) (zB (jA1 zw))) (jv 7)))))))),?_⟩
 have sl:=zO;have hul:=hd.usl;refine⟨sN0,fun ln hln=>?_⟩;have s1:=zo (o:=.lst []) hln;refine(zg rfl ⟨p,d,rfl,hd.keep (.of s1),fun H1 qn s2 hqn=>(zg rfl ⟨qn,qe,false,false,_,_,rfl,SqK.t hqn,SqK.t (s2 _ _ (s1 _ _ hqe)),?_⟩)⟩);have hln1:=s2 _ _ (uX9 (H:=H) (a:=ln) (o:=.lst []));have s12:=s1.trans s2;refine vk (xs:=d.uses.map V.str) (ys:=es.map V.bl) (by rw[ua,ua];exact hle) (fun i σ H'=>(∃y z,σ=[sR p,sR qe,sR ls,sR ln,some (.int (((((d.uses.zip es).take i).foldl (rpS st) ([],0)).2:Nat):Int)),y,z,none])/\(∀b u,b≠ln->H1 b=some u->H' b=some u)/\H' ln=some (.lst ((((d.uses.zip es).take i).foldl (rpS st) ([],0)).1.map V.str))) ⟨⟨none,none,rfl⟩,fun _ _ _ h=>h,hln1⟩ (fun i σ H' _ h=>⟨SqK.t (h.2.1 _ _ (yv hqn hln1 (by intro z;cases z)) hqn),SqK.t (h.2.1 _ _ (yv (s12 _ _ hqe) hln1 (by intro z;cases z)) (s12 _ _ hqe))⟩) ?_ ?_
 ·rintro i v1 v2 T σ H2 hv1 hv2 hT ⟨⟨y,z,rfl⟩,k2,l2⟩
  rw[ug]at hv1 hv2;obtain⟨x,hx,rfl⟩:=ue.mp hv1;obtain⟨e,he,rfl⟩:=ue.mp hv2;have hz:(d.uses.zip es)[i]?=some (x,e):=Uc.mpr ⟨hx,he⟩;have hi:=(ud.mp hz).1;obtain⟨r1,r2⟩:=ZI st ((d.uses.zip es).take i) ([],0);have cnt:=Vf hz;rw[uD,hz,List.foldl_append];generalize ((d.uses.zip es).take i).foldl (rpS st) ([],0)=S at *;obtain⟨nms,at0⟩:=S;dsimp only at r1 r2 l2 ⊢
  simp only[List.length_nil,Nat.zero_add]at r1 r2
  rw[uq]at r1;have hls2:=k2 _ _ (zi hls hln) (s12 _ _ hls);have k3:∀b u,b≠ln->H1 b=some u->upd H2 T (.tup [.str x,.bl e]) b=some u:=fun b u n h=>old hT (k2 b u n h);have l3:=old (o:=.tup [.str x,.bl e]) hT l2;have hls3:=old (o:=.tup [.str x,.bl e]) hT hls2;refine⟨T,(zg rfl ⟨SqT.of uX9,rfl,_,_,rfl,_,_,rfl,rfl,?_⟩)⟩;generalize upd H2 T (.tup [.str x,.bl e])=H3 at *;have fin:∀(v:Str)(m:Nat),rpS st (nms,at0) (x,e)=(nms++[v],m)->(∃y z,[some (V.ref p),some (V.ref qe),some (V.ref ls),some (V.ref ln),some (V.int ((m:Nat):Int)),some (V.str x),some (V.bl e),none]=[some (V.ref p),some (V.ref qe),some (V.ref ls),some (V.ref ln),some (V.int (((List.foldl (rpS st) (nms,at0) (Option.toList (some (x,e)))).2:Nat):Int)),y,z,none])/\(∀b u,b≠ln->H1 b=some u->upd H3 ln (.lst (nms.map V.str++[.str v])) b=some u)/\upd H3 ln (.lst (nms.map V.str++[.str v])) ln=some (.lst ((List.foldl (rpS st) (nms,at0) (Option.toList (some (x,e)))).1.map V.str)):=fun v m h=>by
   have h':List.foldl (rpS st) (nms,at0) (Option.toList (some (x,e)))=(nms++[v],m):=h;rw[h'];exact⟨⟨_,_,rfl⟩,fun b u n g=>by rw[zj n];exact k3 b u n g,by rw[uX9];simp⟩
  have la:nms.length < sizeLine:=by rw[Ue]at hi;lia
  cases e with
  |true =>
   have ha:at0 < st.length:=by rw[if_pos rfl]at cnt;lia
   obtain⟨v,hv⟩:∃v,st[at0]?=some v:=⟨_,uh ha⟩;have ev:rpS st (nms,at0) (x,true)=(nms++[v],at0+1):=by
    unfold rpS;rw[if_pos rfl,Ua,hv]
    rfl
   have g:=fin v (at0+1) ev;rw[Int.natCast_succ]at g;refine(zg rfl ⟨.inl ⟨rfl,_,SqL.of l3⟩,(zq rfl rfl (iteT (zq rfl rfl ⟨ls,_,_,.str v,rfl,rfl,SqL.of hls3,?_,?_⟩)))⟩)
   ·exact yB (by rw[ug,hv];rfl)
   refine⟨ln,(zC rfl rfl ⟨l3,by rw[ua];exact la,?_⟩)⟩;exact(zq rfl rfl (iteT (zg rfl (zC rfl rfl (g)))))
  |false =>
   have ev:rpS st (nms,at0) (x,false)=(nms++[x],at0):=rfl;refine(zg rfl ⟨.inl ⟨rfl,_,SqL.of l3⟩,(zq rfl rfl (iteF (zg rfl ?_)))⟩);refine⟨ln,(zC rfl rfl ⟨l3,by rw[ua];exact la,?_⟩)⟩;exact(zq rfl rfl (iteF (zg rfl (fin x at0 ev))))
 ·rintro σ H2 ⟨⟨y,z,rfl⟩,k2,l2⟩
  have et:((d.uses.zip es).take (d.uses.map V.str).length)=d.uses.zip es:=ur (by rw[Ue,ua];lia);rw[et]at l2 ⊢;have k12:Same H H2:=fun b u h=>k2 b u (zi h hln) (s12 _ _ h);have hrl:=zaW d.uses es st hle;refine(zq rfl rfl ⟨p,ln,d,rpl d.uses es st,rfl,hd.keep (.of k12),l2,?_,by lia,fun H3 q3 s3 h3=>?_⟩)
  ·cases hd with
   |num _=>trivial
   |op _=>show(rpl _ _ _).length=2;rw[hrl];rfl
   |@app w0 f0 xs0 p q0 c _ _ =>
    intro e;subst e;intro z;rw[z,zX]at hrl;cases hrl
  obtain⟨w0,rest,hp,_,_⟩:=hd.head fun _=>[];have hp3:=s3 _ _ (k12 _ _ hp);refine(zg rfl (ixT hp3 aI0 ⟨rfl,(zg rfl ?_)⟩));rcases zdf hd hp h3 with⟨e,f0,q0,g1,g2,g3⟩|⟨e,g⟩
  ·rw[decide_eq_true (by rw[e])]
   refine iteT (zg rfl ⟨sN1,fun t4 f4=>?_⟩);refine⟨q3,t4,[.str "make",.str f0,.ref q0],(zg rfl ⟨rfl,SqT.of (old f4 g2),SqT.of uX9,(by intro z;cases z),sN4,(fun e=>by simp at e),fun _ pd fd'=>?_⟩)⟩;refine q _ pd (((k12.trans s3).new f4).new fd') ?_;rw[g1];exact⟨q0,uX9,old fd' (old f4 g3)⟩
  ·rw[decide_eq_false (fun z=>e (V.str.inj z))]
   exact iteF (zg rfl (q _ q3 (k12.trans s3) g))
def ent(l:lS):List (Key×V):=l.map fun x=>(.inr x,.bl true)
theorem Wn:∀{l:lS}{x:Str},(valV (ent l) (.inr x)).isSome=decide (x∈l)
 |[],x=>rfl
 |y::l,x=>by
  show(valV ((Sum.inr y,V.bl true)::ent l) (.inr x)).isSome=_;by_cases e:y=x
  ·rw[yo (by rw[e])]
   simp[e]
  ·have e':¬ x=y:=fun z=>e z.symm
   rw[yp (fun z=>e (Sum.inr.inj z)),Wn];simp[e']
theorem zaX(l:lS)(x:Str):putK (ent l) (.inr x) (.bl true)=ent (if x∈l then l else l++[x]):=by
 unfold putK;rw[xg,Wn];by_cases c:x∈l
 ·rw[if_pos (by simpa using c),if_pos c]
  unfold ent;rw[UB];refine List.map_congr_left fun y hy=>?_;show(if(Sum.inr y:Key)=Sum.inr x then((Sum.inr y:Key),V.bl true)else(Sum.inr y,V.bl true))=_
  split<;>rfl
 ·rw[if_neg (by simpa using c),if_neg c]
  unfold ent;rw[ut]
  rfl
theorem Bd.sz_pos(b:Bd):1<=b.sz:=by
 cases b<;>rw[Bd.sz]<;>lia
theorem ZJ:∀l:Wy,l.length<=wsz l
 |[]=>uM _
 |p::l=>by
  have h1:=Bd.sz_pos p.2;have h2:=ZJ l;unfold wsz at h2 ⊢;rw[uC,Uy,ui];lia
inductive spBound(vs:List V)(H:Hp)(Q:VK)(e_3:XK):Prop
 |mk (p:Addr):(∃d:Df,vs=[.ref p]/\IsF H d p/\d.ns.length<=1000/\d.b.sz<=1000000/\∀(H':Hp)(r:Addr),Same H H'->H r=none->H' r=some (.lst ((once [] (d.ns++d.b.binds)).map V.str))->Q (.ref r) H')->spBound vs H Q e_3
theorem scBound:FnScope ["one","found","left","pair","name","way"] ["one"] (zp Xt):=.ok
theorem J2(F:Fun K "bound" "bound" Xt f fd)(GW:Ca P w K mg base CX0 1 "ways_on" ["body"] spWays)(m_len:mg "len"=none)(m_reversed:mg "reversed"=none)(m_list:mg "list"=none):FnOk P w K mg base CX0 2 f fd ["one"] spBound:=by
 refine F.by scBound (fun vs H Q E h=>?_) (fun cdv A outer s H vs Q E hr h=>?_)
 ·obtain⟨p,d,rfl,_⟩:=h
  rfl
 obtain⟨p,df,rfl,hF,hn1,hn2,q⟩:=h;obtain⟨pq,pb,hp,hpq,hpb⟩:=hF.ex;refine⟨_,
  (zh (sE 1 scBound.nd xh)
  (zh (sE 2 scBound.nd (zD (jA1 (zB (jA2 (zn K (jv 0)) (xX (wA K) (jv 0) (wg zt)))))))
  (zh (vK PassesOwn.never (tN jJ (yu (zF K) rfl m_len Ud (jA1 (jv 2))) zt)
   (zh (sE 3 scBound.nd (Xl uF PySem.F.slot_list_pop PySem.F.type_list_pop VS (jv 2)))
   (zh (yt PassesOwn.never rfl (yH K (zn K (jv 3))) (gN 4 scBound.nd)
    (zk (vm hr (jv 1) (jv 4) xk)))
   (zk (yt PassesOwn.never rfl (Xq rfl m_reversed (jA1 (cA GW hr (jA1 (zn K (jv 3)))))) (gN 5 scBound.nd)
    (zk (yw (yP uF uS uT yi (jv 2) (jA1 (jv 5))))))))))
  (zk (zv (zS (ZE rfl) rfl m_list Ut (jA1 (jv 1)))))))),?_⟩
 have sl:=zO;intro d0 hd0;have s1:=zo (o:=.dK []) hd0;refine(zg rfl ⟨p,_,_,_,rfl,rfl,SqT.of (s1 _ _ hp),aI1,(zq rfl rfl ⟨p,_,_,_,rfl,rfl,SqT.of (s1 _ _ hp),rfl,sN2,fun t1 h1=>⟨sN1,fun lf h2=>?_⟩⟩)⟩);have s2:=s1.new (o:=.tup [.ref pq,.ref pb]) h1;have flf:H lf=none:=s2.free h2;have s3:=s2.new (o:=.lst [.ref t1]) h2;have nld:lf≠d0:=(zi (old h1 (uX9 (H:=H) (a:=d0) (o:=.dK []))) h2).symm;have bl:=Bd.binds_len df.b;refine⟨fun m σ H'=>∃(stk:Wy)(ps:List Addr)(acc:lS)(x y z:Option V),m=wsz stk/\σ=[sR p,sR d0,sR lf,x,y,z]/\Same H H'/\H' lf=some (.lst (ps.reverse.map V.ref))/\IsY H' stk ps/\H' d0=some (.dK (ent acc))/\once acc (pend stk)=once [] (df.ns++df.b.binds)/\acc.length+(pend stk).length<=1001000/\wsz stk<=1000000,
  ⟨_,[(df.ns,df.b)],[t1],[],none,none,none,rfl,rfl,s3,uX9,.cons (old h2 uX9) (s3 _ _ hpq) (hpb.keep (.of s3)) .nil,old h2 (old h1 uX9),by unfold pend;simp,by unfold pend;simp;lia,by unfold wsz;simpa using hn2⟩,?_⟩
 rintro m σ H3 ⟨stk,ps,acc,x,y,z,rfl,rfl,sm,hl,hy,hd,ho,hal,hwz⟩;refine(zg rfl ⟨_,_,rfl,.inl (SqL.of hl),(zC rfl rfl (zg rfl ?_))⟩);cases hy with
 |nil =>
  refine iteF ?_;unfold pend at ho;refine(zg rfl ⟨d0,(zg rfl ⟨hd,fun r hr=>?_⟩)⟩);have e:(ent acc).map (fun kv=>kV kv.1)=acc.map V.str:=by unfold ent;rw[UB];rfl
  rw[e];refine q _ r (sm.new hr) (sm.free hr) ?_;rw[uX9,<- ho]
  rfl
 |@cons ns b pp q1 r1 l ps hpp hq1 hb hy =>
  have hne:decide ((0:Int) < ((((pp::ps).reverse.map V.ref).length:Nat):Int))=true:=by
   rw[decide_eq_true_eq,ua,Uz,ui];lia
  rw[hne];refine iteT ⟨_,fun _ _ h=>h,?_⟩;have e1:(pp::ps).reverse.map V.ref=ps.reverse.map V.ref++[.ref pp]:=by simp
  have e2:((pp::ps).reverse.map V.ref)[((pp::ps).reverse.map V.ref).length-1]?=some (.ref pp):=by rw[e1];simp
  have e3:((pp::ps).reverse.map V.ref).dropLast=ps.reverse.map V.ref:=by rw[e1];simp
  refine(zg rfl ⟨.inl ⟨rfl,_,SqL.of hl⟩,lf,(zC rfl rfl ⟨hl,e2,?_⟩)⟩);rw[e3];have t4:Tups H3 (upd H3 lf (.lst (ps.reverse.map V.ref))):=fun b xs z=>by rw[zj (yv z hl (by intro z;cases z))];exact z
  have s4:=sm.put (o:=.lst (ps.reverse.map V.ref)) flf;have hl4:=uX9 (H:=H3) (a:=lf) (o:=.lst (ps.reverse.map V.ref));have hd4:upd H3 lf (.lst (ps.reverse.map V.ref)) d0=some (.dK (ent acc)):=by rw[zj nld.symm];exact hd
  replace hpp:=t4 _ _ hpp
  replace hq1:=t4 _ _ hq1
  replace hb:=hb.keep t4
  replace hy:=hy.keep t4
  generalize upd H3 lf (.lst (ps.reverse.map V.ref))=H4 at *;have hpd:pend ((ns,b)::l)=ns++(b.binds++pend l):=by unfold pend;rw[List.flatMap_cons,UA]
  rw[hpd]at ho hal;rw[uf,uf]at hal;have hwc:wsz ((ns,b)::l)=b.sz+wsz l:=by unfold wsz;rw[uC,Uy]
  rw[hwc]at hwz;have hll:=ZJ l;have hyl:=hy.len;refine(zg rfl ⟨pp,_,_,_,rfl,rfl,SqT.of hpp,aI0,q1,rfl,⟨_,SqT.of hq1⟩,xi (xs:=ns.map V.str) (fun i σ H'=>Same H H'/\Tups H4 H'/\H' lf=some (.lst (ps.reverse.map V.ref))/\H' d0=some (.dK (ent (once acc (ns.take i))))/\∃y z,σ=[sR p,sR d0,sR lf,sR pp,y,z]) ⟨s4,fun _ _ h=>h,hl4,hd4,_,_,rfl⟩ (fun i σ H' _ h=>SqT.of (h.2.1 _ _ hq1)) ?_ ?_⟩)
  ·rintro i v σ H5 hv ⟨s5,t5,hl5,hd5,y,z,rfl⟩
   obtain⟨x,hx,rfl⟩:=L2.gM hv;have hi:i < ns.length:=(ud.mp hx).1;have ol:=vZ (ns.take i) acc;rw[uq]at ol;refine(zq rfl rfl ⟨d0,(zg rfl ⟨DPut.k (k:=.inr x) hd5 (by unfold ent;rw[ua];lia),s5.put hd0,fun b xs z=>?_,?_,?_,_,_,rfl⟩)⟩)
   ·rw[zj (yv (t5 _ _ z) hd5 (by intro e;cases e))]
    exact t5 _ _ z
   ·rw[zj nld]
    exact hl5
   ·rw[uX9,zaX,<- W5 hx]
  rintro σ H5 ⟨s5,t5,hl5,hd5,y,z,rfl⟩;rw[ua,ur (uj _)]at hd5;refine(zg rfl ⟨pp,_,_,_,rfl,rfl,SqT.of (t5 _ _ hpp),aI1,r1,b,rfl,hb.keep t5,by lia,fun H6 rl rs s6 f6 hrl hyw=>?_⟩);have hywl:=hyw.len;have hww:=Bd.wsz b;have hwl:=ZJ b.ways;have nlr:lf≠rl:=zi hl5 f6;have ndr:d0≠rl:=zi hd5 f6;refine⟨rl,(zg rfl ⟨SqL.of hrl,Zk (xs:=rs.map V.ref) (fun i σ H'=>Same H H'/\Tups H6 H'/\H' rl=some (.lst (rs.map V.ref))/\H' lf=some (.lst ((ps.reverse++rs.reverse.take i).map V.ref))/\H' d0=some (.dK (ent (once acc ns)))/\∃z,σ=[sR p,sR d0,sR lf,sR pp,y,z]) ⟨s5.trans s6,fun _ _ h=>h,hrl,by rw[List.take_zero,u6];exact s6 _ _ hl5,s6 _ _ hd5,_,rfl⟩ (fun i σ H' _ h=>SqL.of h.2.2.1) ?_ ?_⟩)⟩
  ·rintro i v σ H7 hv ⟨s7,t7,hr7,hl7,hd7,z,rfl⟩
   rw[<- List.map_reverse,ug]at hv;obtain⟨t,ht,rfl⟩:=ue.mp hv;have hi:i < rs.length:=by
    have:=(ud.mp ht).1
    rw[Uz]at this;exact this
   refine(zg rfl ⟨.inl ⟨rfl,_,SqL.of hl7⟩,(zg rfl ⟨lf,(zC rfl rfl ⟨hl7,?_,s7.put flf,fun b xs z=>?_,?_,?_,?_,_,rfl⟩)⟩)⟩)
   ·rw[ua,uf,Uz,uq]
    lia
   ·rw[zj (yv (t7 _ _ z) hl7 (by intro e;cases e))]
    exact t7 _ _ z
   ·rw[zj nlr.symm]
    exact hr7
   ·rw[uX9,uD,ht]
    simp
   ·rw[zj nld.symm]
    exact hd7
  rintro σ H7 ⟨s7,t7,hr7,hl7,hd7,z,rfl⟩;rw[ua,<- Uz,ur (uj _),<- U1]at hl7;have t47:Tups H4 H7:=(t5.trans (.of s6)).trans t7;refine⟨wsz (b.ways++l),?_,b.ways++l,rs++ps,once acc ns,_,_,_,rfl,rfl,s7,hl7,(hyw.keep t7).app (hy.keep t47),hd7,?_,?_,?_⟩
  ·rw[vt,hwc]
   lia
  ·rw[YC,Bd.pend,<- vY]
   exact ho
  ·have ol:=vZ ns acc
   rw[YC,Bd.pend,uf];lia
  ·rw[vt]
   lia
def Arms.al:Arms->List (Str×lS×Bd)
 |.nil=>[]
 |.cons t ns b r=>(t,ns,b)::r.al
def haL:List (Str×lS×Bool×Hc)->Ha
 |[]=>.nil
 |x::l=>.cons x.1 x.2.1 x.2.2.1 x.2.2.2 (haL l)
def ArmR(H:Hp)(x:Str×lS×Bool×Hc)(v:V):Prop:=∃p q u,v=.ref p/\H p=some (.tup [.str x.1,.ref q,.str (yG x.2.2.1),.str "",u])/\H q=some (.tup (x.2.1.map V.str))/\IsHc H x.2.2.2 u
theorem ArmR.keep{x:Str×lS×Bool×Hc}{v:V}(h:ArmR H x v)(t:Tups H H'):ArmR H' x v:=by obtain⟨p,q,u,e,a,b,c⟩:=h;exact⟨p,q,u,e,t _ _ a,t _ _ b,c.keep t⟩
theorem IsHa.of{l:List (Str×lS×Bool×Hc)}{vs:List V}(h:All2 (ArmR H) l vs):IsHa H (haL l) vs:=by
 induction h with
 |nil=>rfl
 |cons a _ ih=>obtain⟨p,q,u,rfl,h1,h2,h3⟩:=a;exact⟨p,q,u,(zg rfl ⟨h1,h2,h3,ih⟩)⟩
theorem IsA.al{H:Hp}:∀{as:Arms}{ps:List Addr},IsA H as ps->All2 (fun(x:Str×lS×Bd) p=>∃q r,H p=some (.tup [.str x.1,.ref q,.ref r])/\H q=some (.tup (x.2.1.map V.str))/\IsB H x.2.2 r) as.al ps
 |_,_,.nil=>.nil
 |_,_,.cons a b c d=>.cons ⟨_,_,a,b,c⟩ (IsA.al d)
def armZ(as:Arms)(ms:List Bool)(cs:List Hc):List (Str×lS×Bool×Hc):=(as.al.zip (ms.zip cs)).map fun x=>(x.1.1,x.1.2.1,x.2.1,x.2.2)
theorem zbI(ns:lS)(ow:Str->List Bool)(x:Str)(r:lS):∀(as:Arms)(m:Nat),(hA ns ow x r as m).1=haL (armZ as (as.al.map fun a=>tkB ns x r a.2.2) ((kA ns ow x r as m).map (Pk.code ns ow)))
 |.nil,m=>by unfold hA kA Arms.al;rfl
 |.cons t xs b as,m=>by
  rw[hA,zbI ns ow x r as,kA,Arms.al]
  rfl
theorem XM(ns:lS)(ow:Str->List Bool)(x:Str)(r:lS):∀(as:Arms)(m:Nat),(kA ns ow x r as m).length=as.al.length
 |.nil,m=>rfl
 |.cons t xs b as,m=>by rw[kA,Arms.al,ui,ui,XM ns ow x r as]
inductive spHeldArms(vs:List V)(H:Hp)(Q:VK)(e_3:XK):Prop
 |mk (pa:Addr) (lm:Addr) (lb:Addr) (as:Arms) (ps:List Addr) (ms:List Bool) (cs:List Hc):(∃us:List V,vs=[.ref pa,.ref lm,.ref lb]/\H pa=some (.tup (ps.map V.ref))/\IsA H as ps/\H lm=some (.lst (ms.map fun m=>V.str (yG m)))/\H lb=some (.lst us)/\All2 (IsHc H) cs us/\as.al.length=ms.length/\as.al.length=cs.length/\as.al.length<=1000000/\∀H' q zs,Same H H'->H' q=some (.tup zs)->IsHa H' (haL (armZ as ms cs)) zs->Q (.ref q) H')->spHeldArms vs H Q e_3
structure Ln(K:ub)(cL:Addr):Prop where
 cl:Cls K cL
 a1:NoAttr K cL "body"
 a2:NoAttr K cL "note"
 a3:NoAttr K cL "names"
def LO(cL dx:Addr)(vb vn vl:V):HO:=.ins cL dx [("body",vb),("note",vn),("names",vl)]
inductive spPlInit(cL:Addr)(vs:List V)(H:Hp)(Q:VK)(e_3:XK):Prop
 |mk (x:Addr) (dx:Addr) (vb:V) (vn:V):(∃vl:V,vs=[.ref x,vb,vn,vl]/\H x=some (.ins cL dx [])/\∀H',(∀b u,b≠x->H b=some u->H' b=some u)->H' x=some (LO cL dx vb vn vl)->Q .non H')->spPlInit cL vs H Q e_3
inductive spPuInit(cP:Addr)(vs:List V)(H:Hp)(Q:VK)(e_3:XK):Prop
 |mk (x:Addr) (dx:Addr) (p:Addr) (od:Addr):(∃d:Df,vs=[.ref x,.ref p,.ref od]/\H x=some (.ins cP dx [])/\IsF H d p/\d.ns.length<=1000/\d.b.sz<=1000000/\(once [] (d.ns++d.b.binds)).length<=1000/\(once [] (d.ns++d.b.binds)).Nodup/\∀H' bd,(∀b u,b≠x->H b=some u->H' b=some u)->H bd=none->H' bd=some (.dK (yE (once [] (d.ns++d.b.binds)) 1))->H' x=some (PO cP dx od bd 0)->Q .non H')->spPuInit cP vs H Q e_3
theorem J3:FnScope lS7 lS7 (zp Zv):=.ok
theorem Vg(F:Fun K "__init__" "Place.__init__" Zv f fd)(N:Ln K cL):FnOk P w K mg base CX0 1 f fd lS7 (spPlInit cL):=by
 refine F.by J3 (fun vs H Q E h=>?_) (fun cdv A outer s H vs Q E hr h=>?_)
 ·obtain⟨x,dx,vb,vn,vl,rfl,_⟩:=h
  rfl
 obtain⟨x,dx,vb,vn,vl,rfl,hx,q⟩:=h;refine⟨_,(zh (xp (jv 0) (jv 1)) (zh (xp (jv 0) (jv 2)) (zk (xp (jv 0) (jv 3))))),?_⟩;refine(zq rfl rfl ⟨x,cL,dx,(zg rfl ⟨hx,N.cl,N.a1,by show 0 < 1000;decide,?_⟩)⟩);refine(zq rfl rfl ⟨x,cL,dx,(zg rfl ⟨uX9,N.cl,N.a2,by show 1 < 1000;decide,?_⟩)⟩);refine(zq rfl rfl ⟨x,cL,dx,(zg rfl ⟨uX9,N.cl,N.a3,by show 2 < 1000;decide,?_⟩)⟩);refine q _ (fun b u n e=>?_) uX9;rw[zj n,zj n,zj n];exact e
theorem J4:FnScope lS25 lS25 (zp Zw):=.ok
theorem Vh(F:Fun K "__init__" "Putter.__init__" Zw f fd)(N:Pn K cP)(GB:Ca P w K mg base CX0 1 "bits_of" ["names"] spBits)(GD:Ca P w K mg base CX0 2 "bound" ["one"] spBound):FnOk P w K mg base CX0 3 f fd lS25 (spPuInit cP):=by
 refine F.by J4 (fun vs H Q E h=>?_) (fun cdv A outer s H vs Q E hr h=>?_)
 ·obtain⟨x,dx,p,od,d,rfl,_⟩:=h
  rfl
 obtain⟨x,dx,p,od,d,rfl,hx,hF,h1,h2,h3,h4,q⟩:=h;have hr1:Room 1 _:=hr.mono (by decide);refine⟨_,(zh (xp (jv 0) (jv 2)) (zh (xp (jv 0) (cA GB hr1 (jA1 (cA GD hr (jA1 (jv 1)))))) (zk (xp (jv 0) zt)))),?_⟩;refine(zq rfl rfl ⟨x,cP,dx,(zg rfl ⟨hx,N.cl,N.a1,by show 0 < 1000;decide,?_⟩)⟩);have tx:Tups H (upd H x (.ins cP dx (putF "owns" (.ref od) []))):=fun b xs e=>by rw[zj (yv e hx (by intro z;cases z))];exact e
 refine(zg rfl ⟨p,d,rfl,hF.keep tx,h1,h2,fun H1 r s1 hr1 hr2=>⟨r,(zg rfl ⟨hr2,h4,h3,fun H2 bd s2 hbd hbd2=>?_⟩)⟩⟩);have hx2:=s2 _ _ (s1 _ _ (uX9 (H:=H) (a:=x) (o:=.ins cP dx (putF "owns" (.ref od) []))));have nbx:bd≠x:=fun z=>by rw[z,s1 _ _ uX9]at hbd;cases hbd
 refine(zg rfl ⟨x,cP,dx,(zg rfl ⟨hx2,N.cl,N.a2,by show 1 < 1000;decide,?_⟩)⟩);refine(zg rfl ⟨x,cP,dx,(zg rfl ⟨uX9,N.cl,N.a3,by show 2 < 1000;decide,?_⟩)⟩);refine q _ bd (fun b u n e=>?_) ?_ (by rw[zj nbx,zj nbx];exact hbd2) uX9
 ·rw[zj n,zj n]
  exact s2 _ _ (s1 _ _ (by rw[zj n];exact e))
 ·have:=s1.free hbd
  rw[zj nbx]at this;exact this
theorem XN:FnScope lS23 lS23 (zp wX):=.ok
theorem wo:(["arms","modes","bodies","arm","mode","body"]:lS).Nodup:=by decide +kernel
theorem YL(F:Fun K "held_arms" "held_arms" wX f fd)(m_tuple:mg "tuple"=none)(m_zip:mg "zip"=none):FnOk P w K mg base CX0 1 f fd lS23 spHeldArms:=by
 refine F.by XN (fun vs H Q E h=>?_) (fun cdv A outer s H vs Q E hr h=>?_)
 ·obtain⟨pa,lm,lb,as,ps,ms,cs,us,rfl,_⟩:=h
  rfl
 obtain⟨pa,lm,lb,as,ps,ms,cs,us,rfl,hpa,hA,hlm,hlb,hcs,e1,e2,e3,q⟩:=h;refine⟨_,(zk (zv (zS (zH K) rfl m_tuple uN (jA1 (yf ["arm","mode","body"] rfl (zaT rfl m_zip (jA3 (jv 0) (jv 1) (jv 2))) (fun _ _ _ _ _=>(zN K (n:=3) rfl (zu (gN 3 wo) (zu (gN 4 wo) (zu (gN 5 wo) zM))))) (fun _ _ _ _ _=>yn) (fun _ _ _ _ _=>(zB (jA5 (zn K (jv 3)) (zn K (jv 3)) (jv 4) zw (jv 5))))))))),?_⟩;have sl:=zO;have hal:=hA.al;have pl:=hal.len;have cl:=hcs.len;refine(zq rfl rfl (zg rfl ⟨pa,lm,lb,false,true,true,_,_,_,rfl,SqK.t hpa,SqK.l hlm,SqK.l hlb,zaU (xs:=ps.map V.ref) (ys:=ms.map fun m=>V.str (yG m)) (us:=us) (by rw[ua,ua];lia) (by rw[ua];lia) (fun j τ zs H'=>Same H H'/\(∃a b c,τ=[sR pa,sR lm,sR lb,a,b,c])/\All2 (ArmR H') ((armZ as ms cs).take j) zs) ⟨Same.refl _,⟨none,none,none,rfl⟩,.nil⟩ (fun j τ zs H' _ h=>⟨SqK.t (h.1 _ _ hpa),SqK.l (h.1 _ _ hlm),SqK.l (h.1 _ _ hlb)⟩) ?_ ?_⟩))
 ·rintro i v1 v2 v3 T τ zs H1 g1 g2 g3 hT ⟨s1,⟨a,b,c,rfl⟩,hz⟩
  rw[ug]at g1 g2;obtain⟨p0,hp0,rfl⟩:=ue.mp g1;obtain⟨m0,hm0,rfl⟩:=ue.mp g2;obtain⟨x,hx,q0,r0,x1,x2,x3⟩:=hal.get hp0;obtain⟨c0,hc0,hcv⟩:=hcs.get g3;have hget:(armZ as ms cs)[i]?=some (x.1,x.2.1,m0,c0):=by
   unfold armZ;rw[ug,(Uc (z:=(x,(m0,c0)))).mpr ⟨hx,Uc.mpr ⟨hm0,hc0⟩⟩]
   rfl
  have hi:=(ud.mp hx).1;have zl:=hz.len;rw[uq]at zl;have s2:=s1.new (o:=.tup [.ref p0,.str (yG m0),v3]) hT;refine⟨T,(zg rfl ⟨SqT.of uX9,rfl,_,_,rfl,_,_,rfl,_,_,rfl,rfl,?_⟩)⟩;have hz2:=hz.imp fun _ _ h=>ArmR.keep h (.of (zo hT (.tup [.ref p0,.str (yG m0),v3])));generalize upd H1 T (.tup [.ref p0,.str (yG m0),v3])=H2 at *;refine(zg rfl (ixT (s2 _ _ x1) aI0 (zg rfl (ixT (s2 _ _ x1) aI1 (zq rfl rfl ⟨sN5,fun t ht=>⟨by lia,s2.new ht,⟨_,_,_,rfl⟩,?_⟩⟩)))));rw[uD,hget];exact All2.app (hz2.imp fun _ _ h=>ArmR.keep h (.of (zo ht _))) (.cons ⟨t,q0,v3,rfl,uX9,old ht (s2 _ _ x2),hcv.keep (.of (s2.new ht))⟩ .nil)
 ·rintro τ zs H1 ⟨s1,_,hz⟩ l hl
  have el:(armZ as ms cs).take (ps.map V.ref).length=armZ as ms cs:=ur (by unfold armZ;rw[ua,ua,Ue,Ue];lia);rw[el]at hz;refine⟨l,(zg rfl (.inl ⟨SqL.of uX9,fun t ht=>?_⟩))⟩;exact q _ t zs ((s1.new hl).new ht) uX9 (IsHa.of (hz.imp fun _ _ h=>ArmR.keep h (.of ((zo hl _).new ht))))
theorem x8{k:Nat}{body:Expr}{cl:List (Str×Addr)}{fs:lS}{v:V}{Q:VK}{fvs:List V}
  (S:LamScope N [x] fs scope) (bd:Binds K (lamC mg qual params body scope cl c ct) [x] []) (hf:H f=some (FunO f (lamC mg qual params body scope cl c ct))) (hc:H c=some (CodO c qual)) (C:Clo H cl fs fvs)
  (hb:∀(A:Around)(outer:List Env)(s:Shared),Room k (A.deeper (tG qual scope s.heap.objs.size f (.ref c) cl))->∃t,jE (X9 CX0 P w K mg base N qual scope f (.ref c) cl A outer s H E0) body t/\t (some v::fvs.map some) (z7 H (cl.map (·.2))) fun r H'=>(∀a∈cl.map (·.2),H' a=none)->Q r (xr H' H (cl.map (·.2)))) :
  CanC P w K mg base (k+1) H f [v] Q E0:=by
 refine⟨lamC mg qual params body scope cl c ct,[x],fun vs H1 Q1 E1=>vs=[v]/\H1=H/\Q1=Q/\E1=E0,Zm (k:=k) S (fun vs H1 Q1 E1 h=>?_) (fun A outer s H1 vs Q1 E1 hr h=>?_),bd,⟨rfl,rfl,rfl,rfl⟩,.inl hf⟩
 ·rw[h.1];rfl
 ·obtain⟨rfl,rfl,rfl,rfl⟩:=h
  exact⟨hf,hc,fvs,C,hb A outer s hr⟩
def J5:Expr->Expr
 |.Tuple [_,l] _ _=>l
 |.Call _ [_,l] _ _=>l
 |e=>e
def lmP:Expr->Arguments
 |.Lambda a _ _ _=>a
 |_=>yk yR
def lmB:Expr->Expr
 |.Lambda _ b _ _=>b
 |e=>e
def lmS:Expr->Scope
 |.Lambda _ _ s _=>s
 |_=>zp yR
def xE:Expr->Pos
 |.Lambda _ _ _ p=>p
 |_=>⟨0,0,0,0⟩
def wP:List Stmt->Expr
 |[.Return (some e) _]=>J5 e
 |_::r=>wP r
 |[]=>.Constant .none 0 ⟨0,0,0,0⟩
def jV:Expr:=wP (zP xW)
def jX:Expr:=match zP xu with
 |[_,_,_,.If _ [_,.Return (some e) _] _ _,_,_]=>J5 e
 |_=>.Constant .none 0 ⟨0,0,0,0⟩
def jY:Expr:=wP (zP xu)
def jZ:Expr:=wP (zP vo)
def j3:Expr:=wP (zP wI)
def zbJ:Str:=("begun_place":Str)++(".<locals>.":Str)++("<lambda>":Str)
def Wp:Str:=("begun_piece":Str)++(".<locals>.":Str)++("<lambda>":Str)
def zbK:Str:=("begun_let":Str)++(".<locals>.":Str)++("<lambda>":Str)
def zbL:Str:=("begun_case":Str)++(".<locals>.":Str)++("<lambda>":Str)
def ls4:List (Pos×Str):=[(xE jV,zbJ)]
def ls5:List (Pos×Str):=[(xE jX,Wp),(xE jY,Wp)]
def ls6:List (Pos×Str):=[(xE jZ,zbK)]
def ls7:List (Pos×Str):=[(xE j3,zbL)]
structure HX where
 cP:Addr
 cL:Addr
 pu:Addr
 dx:Addr
 od:Addr
 bd:Addr
 T4:Addr
 T5:Addr
 T6:Addr
 T7:Addr
 ns:lS
 ow:Str->List Bool
 N:lS
def HX.M(X:HX)(b:Addr):Prop:=b=X.pu\/b=X.T4\/b=X.T5\/b=X.T6\/b=X.T7
structure XOk(X:HX):Prop where
 nd:[X.T4,X.T5,X.T6,X.T7].Nodup
 sh:∀x∈X.ns,x.length<=1000
structure POk(X:HX)(m:Nat)(H:Hp):Prop where
 o:H X.pu=some (PO X.cP X.dx X.od X.bd m)
 b:H X.bd=some (.dK (yE X.ns 1))
 w:OwA H X.od X.ow X.N
 t4:TbG X.T4 ls4 H
 t5:TbG X.T5 ls5 H
 t6:TbG X.T6 ls6 H
 t7:TbG X.T7 ls7 H
end GN
namespace L2
open PySem
theorem TbG.same(h:TbG T ls H)(s:Same H H'):TbG T ls H':=h.keep (fun ps e=>s _ _ e) fun c q e=>s _ _ e
theorem TbG.no(h:TbG T ls H){u:HO}(e:H b=some u)(n:∀ps,u≠.tbl ps):b≠T:=fun z=>by
 obtain⟨ps,h,_⟩:=h;rw[z,h]at e;exact n _ (uZ.inj e).symm
end L2
namespace GN
open PySem L2 K11
variable{X:HX}{Q:VK}{d:De}{st:lS}{es:List Bool}{o:Wo}{ps:List (Str×Str)}
theorem OwA.keep{od:Addr}(h:OwA H od ow N)(k:∀b u,H b=some u->(∀ps,u≠.tbl ps)->(∀C dx fs,u≠.ins C dx fs)->(∀xs,u≠.lst xs)->H' b=some u):OwA H' od ow N:=by
 obtain⟨kv,h1,h2⟩:=h;refine⟨kv,k _ _ h1 (by intro _ z;cases z) (by intro _ _ _ z;cases z) (by intro _ z;cases z),fun f hf=>?_⟩;obtain⟨a,g1,g2⟩:=h2 f hf;exact⟨a,g1,k _ _ g2 (by intro _ z;cases z) (by intro _ _ _ z;cases z) (by intro _ z;cases z)⟩
section
variable{m':Nat}
theorem POk.no(h:POk X m H){u:HO}(e:H b=some u)(n:∀ps,u≠.tbl ps)(n2:∀k,u≠PO X.cP X.dx X.od X.bd k):¬ X.M b:=by
 rintro(z|z|z|z|z)
 ·rw[z,h.o]at e;exact n2 _ (uZ.inj e).symm
 ·exact h.t4.no e n z
 ·exact h.t5.no e n z
 ·exact h.t6.no e n z
 ·exact h.t7.no e n z
theorem POk.noL(h:POk X m H)(e:H b=some (.lst xs)):¬ X.M b:=h.no e (by intro _ z;cases z) (by intro _ z;unfold PO at z;cases z)
theorem POk.noT(h:POk X m H)(e:H b=some (.tup xs)):¬ X.M b:=h.no e (by intro _ z;cases z) (by intro _ z;unfold PO at z;cases z)
theorem POk.noI(h:POk X m H){vb vn vl:V}(e:H b=some (LO X.cL dx vb vn vl)):¬ X.M b:=h.no e (by intro _ z;unfold LO at z;cases z) (by intro _ z;unfold LO PO at z;injection z with _ _ z;injection z with z _;injection z with z _;exact absurd z (by decide))
theorem POk.noF(h:POk X m H)(e:H b=some (FunO b fd)):¬ X.M b:=h.no e (by intro _ z;unfold FunO at z;cases z) (by intro _ z;unfold FunO PO at z;cases z)
theorem POk.noC(h:POk X m H){q:Str}(e:H b=some (CodO b q)):¬ X.M b:=h.no e (by intro _ z;unfold CodO at z;cases z) (by intro _ z;unfold CodO PO at z;cases z)
theorem POk.put(h:POk X m H)(k:KM X.M H H')(o:H' X.pu=some (PO X.cP X.dx X.od X.bd m'))(t4:TbG X.T4 ls4 H')(t5:TbG X.T5 ls5 H')(t6:TbG X.T6 ls6 H')(t7:TbG X.T7 ls7 H'):POk X m' H':=by
 refine⟨o,k _ _ (h.no h.b (by intro _ z;cases z) (by intro _ z;unfold PO at z;cases z)) h.b,h.w.keep fun b u e n1 n2 _=>k _ _ (h.no e n1 fun k=>?_) e,t4,t5,t6,t7⟩;unfold PO;exact n2 _ _ _
theorem POk.same(h:POk X m H)(s:Same H H'):POk X m H':=h.put (.of s) (s _ _ h.o) (h.t4.same s) (h.t5.same s) (h.t6.same s) (h.t7.same s)
theorem POk.tups(h:POk X m H)(k:KM X.M H H'):Tups H H':=fun b xs e=>k _ _ (h.noT e) e
theorem POk.cnt(h:POk X m H)(k:KM (·=X.pu) H H')(o:H' X.pu=some (PO X.cP X.dx X.od X.bd m')):POk X m' H':=by
 have nT:∀{T ls},TbG T ls H->TbG T ls H':=fun{T ls} t=>t.keep (fun ps e=>k _ _ (fun z=>by rw[z,h.o]at e;unfold PO at e;cases e) e) (fun c q e=>k _ _ (fun z=>by rw[z,h.o]at e;unfold PO CodO at e;cases e) e);exact h.put (fun b u n e=>k b u (fun z=>n (.inl z)) e) o (nT h.t4) (nT h.t5) (nT h.t6) (nT h.t7)
theorem yA{T':Addr}{ls':List (Pos×Str)}(h:TbG T ls H)(k:KM (·=T') H H')(n:T≠T')(h':TbG T' ls' H):TbG T ls H':=h.keep (fun ps e=>k _ _ n e) fun c q e=>k _ _ (h'.no e (by intro _ z;unfold CodO at z;cases z)) e
theorem POk.tb4(x:XOk X)(h:POk X m H)(k:KM (·=X.T4) H H')(t:TbG X.T4 ls4 H'):POk X m H':=by
 have nd:=x.nd;simp at nd
 exact h.put (fun b u n e=>k b u (fun z=>n (.inr (.inl z))) e) (k _ _ (h.t4.no h.o (by intro _ z;unfold PO at z;cases z)) h.o) t (yA h.t5 k (fun z=>nd.1.1 z.symm) h.t4) (yA h.t6 k (fun z=>nd.1.2.1 z.symm) h.t4) (yA h.t7 k (fun z=>nd.1.2.2 z.symm) h.t4)
theorem POk.tb5(x:XOk X)(h:POk X m H)(k:KM (·=X.T5) H H')(t:TbG X.T5 ls5 H'):POk X m H':=by
 have nd:=x.nd;simp at nd
 exact h.put (fun b u n e=>k b u (fun z=>n (.inr (.inr (.inl z)))) e) (k _ _ (h.t5.no h.o (by intro _ z;unfold PO at z;cases z)) h.o) (yA h.t4 k nd.1.1 h.t5) t (yA h.t6 k (fun z=>nd.2.1.1 z.symm) h.t5) (yA h.t7 k (fun z=>nd.2.1.2 z.symm) h.t5)
theorem POk.tb6(x:XOk X)(h:POk X m H)(k:KM (·=X.T6) H H')(t:TbG X.T6 ls6 H'):POk X m H':=by
 have nd:=x.nd;simp at nd
 exact h.put (fun b u n e=>k b u (fun z=>n (.inr (.inr (.inr (.inl z))))) e) (k _ _ (h.t6.no h.o (by intro _ z;unfold PO at z;cases z)) h.o) (yA h.t4 k nd.1.2.1 h.t6) (yA h.t5 k nd.2.1.1 h.t6) t (yA h.t7 k (fun z=>nd.2.2 z.symm) h.t6)
theorem POk.tb7(x:XOk X)(h:POk X m H)(k:KM (·=X.T7) H H')(t:TbG X.T7 ls7 H'):POk X m H':=by
 have nd:=x.nd;simp at nd
 exact h.put (fun b u n e=>k b u (fun z=>n (.inr (.inr (.inr (.inr z))))) e) (k _ _ (h.t7.no h.o (by intro _ z;unfold PO at z;cases z)) h.o) (yA h.t4 k nd.1.2.2 h.t7) (yA h.t5 k nd.2.1.2 h.t7) (yA h.t6 k nd.2.2 h.t7) t
end
mutual
def OkB(X:HX):Bd->Prop
 |.give x=>x∈X.ns
 |.lt x d b=>(x∈X.ns/\(∀y∈d.uses,y∈X.ns)/\CaD X.N X.ow d)/\OkB X b
 |.iff _ a b=>OkB X a/\OkB X b
 |.case _ as=>OkA X as
def OkA(X:HX):Arms->Prop
 |.nil=>True
 |.cons _ xs b r=>((∀y∈xs,y∈X.ns)/\OkB X b)/\OkA X r
end
structure Side(X:HX)(b:Bd)(l:lS)(m:Nat):Prop where
 ln:∀x∈l,x∈X.ns
 ok:OkB X b
 mz:m+41*b.sz<=LIMT
 sz:b.sz<=400000
 nb:l.length+b.binds.length<=2000000
def ITp(X:HX)(H:Hp)(R:Addr->Prop)(b:Bd)(l:lS)(v:V):Prop:=∃pl dxl p ln vn,v=.ref pl/\H pl=some (LO X.cL dxl (.ref p) vn (.ref ln))/\IsB H b p/\IsN X.ns H R b vn/\H ln=some (.lst (l.map V.str))/\R ln
def ITk(X:HX)(H:Hp)(R:Addr->Prop)(t:Pk)(v:V):Prop:=Side X t.b t.l t.m/\ITp X H R t.b t.l v
theorem ITp.keep{b:Bd}{l:lS}{v:V}(h:ITp X H R b l v)(ok:POk X m H)(z:Kz X.M R H H')(sub:∀b,R b->R' b):ITp X H' R' b l v:=by
 obtain⟨pl,dxl,p,ln,vn,e,h1,h2,h3,h4,h5⟩:=h;have tp:Tups H H':=fun b xs e=>z _ _ e (ok.noT e) (by intro _ z;cases z);exact⟨pl,dxl,p,ln,vn,e,z _ _ h1 (ok.noI h1) (by intro _ z;unfold LO at z;cases z),h2.keep tp,h3.keep ⟨tp,fun a xs ra e=>z a _ e (ok.noL e) fun _ _=>ra,sub⟩,z _ _ h4 (ok.noL h4) (fun _ _=>h5),sub _ h5⟩
def pcP(ns:lS)(ow:Str->List Bool):Bd->lS->Nat->Hc
 |.give x,r,m=>wH (spn r [x] m).2.1 (.give ((spn r [x] m).1.getD 0 ""))
 |.lt x d b,r,m=>wH (spL ns ow d b r m).2.1 (.lt x (hdD ow d (spL ns ow d b r m).1) (hB ns ow b (stL r (spL ns ow d b r m).1 x) (spL ns ow d b r m).2.2).1)
 |.iff x a b,r,m=>.iff x (hB ns ow a r m).1 (hB ns ow b r (hB ns ow a r m).2).1
 |.case x as,r,m=>.case x (hA ns ow x r as m).1
theorem zd5(ns:lS)(ow:Str->List Bool)(b:Bd)(l:lS)(m:Nat):(hB ns ow b l m).1=wD (dO ns b l) (pcP ns ow b (rO ns b l) m):=by
 cases b<;>rw[hB]<;>rfl
section
variable(P:Program)(w:World)(K:ub)(mg:Str->Option Value)(base:Heap)(k:Nat)(X:HX)
def Fin(H:Hp)(R:Addr->Prop)(cs:List Hc)(c:Hc)(f:Addr):Prop:=∀(H':Hp)(R':Addr->Prop),Kz X.M R H H'->(∀b,R b->R' b)->∀rl rs Q,H' rl=some (.lst rs)->All2 (IsHc H') cs rs->(∀H'' v,Same H' H''->IsHc H'' c v->Q v H'')->CanC P w K mg base k H' f [.ref rl] Q E0
def BegQ(m:Nat)(b:Bd)(r:lS)(H:Hp)(R:Addr->Prop)(Q:VK):Prop:=∀(H':Hp)(q l fl:Addr)(vs:List V)(R':Addr->Prop),KM X.M H H'->POk X (midP X.ns X.ow b r m) H'->H' q=some (.tup [.ref l,.ref fl])->H l=none->H' l=some (.lst vs)->(∀b,R b->R' b)->(∀b,R' b->R b\/H b=none)->(∀b,R' b->H' b≠none)->R' l->All2 (ITk X H' R') (kP X.ns X.ow b r m) vs->(∃fd,H' fl=some (FunO fl fd))->Fin P w K mg base k X H' R' ((kP X.ns X.ow b r m).map (Pk.code X.ns X.ow)) (pcP X.ns X.ow b r m) fl->Q (.ref q) H'
inductive spBeg(c:Bd->Prop)(vs:List V)(H:Hp)(Q:VK)(e_3:XK):Prop
 |mk (pl:Addr) (dxl:Addr) (p:Addr) (ln:Addr) (vn:V) (b:Bd) (r:lS) (m:Nat):(∃R:Addr->Prop,vs=[.ref X.pu,.ref pl]/\c b/\H pl=some (LO X.cL dxl (.ref p) vn (.ref ln))/\IsB H b p/\IsN X.ns H R b vn/\H ln=some (.lst (r.map V.str))/\R ln/\Side X b r m/\POk X m H/\(∀b,R b->H b≠none)/\(∀b,R b->¬ X.M b)/\BegQ P w K mg base k X m b r H R Q)->spBeg c vs H Q e_3
end
theorem x9{cl:List (Str×Addr)}{fvs:List V}(nd:(cl.map (·.1)).Nodup)(na:(cl.map (·.2)).Nodup)(hl:fvs.length=cl.length)(h:∀(i:Nat)(p:Str×Addr)(v:V),cl[i]?=some p->fvs[i]?=some v->Cel H p.2 v):Clo H cl (cl.map (·.1)) fvs:=by
 have lk:∀{l:List (Str×Addr)}{x:Str}{a:Addr},(l.map (·.1)).Nodup->(x,a)∈l->l.lookup x=some a:=by
  intro l x a
  induction l with
  |nil=>intro _ h;cases h
  |cons p l ih =>
   intro n h;rw[uC,uX]at n;obtain⟨y,c⟩:=p;rcases uk.mp h with e|h
   ·cases e
    rw[Ux];simp
   ·have ne:(x == y)=false:=by
     rw[beq_eq_false_iff_ne];intro e;exact n.1 (uu.mpr ⟨_,h,e⟩)
    rw[Ux,ne];exact ih n.2 h
 have ml:∀{l:List (Str×Addr)}{x:Str}{a:Addr},l.lookup x=some a->(x,a)∈l:=fun e=>uY e;refine⟨by rw[ua];exact hl,fun p hp=>?_,fun i x v e1 e2=>?_,fun x hx=>?_,fun x y a e1 e2=>?_⟩
 ·obtain⟨i,hi⟩:=U9.mp hp
  have:i < fvs.length:=by rw[hl];exact(ud.mp hi).1
  exact⟨_,h i p _ hi (uh this)⟩
 ·obtain⟨p,hp,rfl⟩:=L2.gM e1
  exact⟨p.2,lk nd (uw hp),h i p v hp e2⟩
 ·obtain⟨p,hp,rfl⟩:=uu.mp hx
  exact⟨p.2,lk nd hp⟩
 ·have m1:=ml e1
  have m2:=ml e2;have aux:∀{l:List (Str×Addr)},(l.map (·.2)).Nodup->(x,a)∈l->(y,a)∈l->x=y:=by
   intro l
   induction l with
   |nil=>intro _ h;cases h
   |cons p l ih =>
    intro n h1 h2;rw[uC,uX]at n;rcases uk.mp h1 with e1|h1<;>rcases uk.mp h2 with e2|h2
    ·rw[<- e1]at e2;exact(Prod.mk.inj e2).1.symm
    ·exact absurd (uu.mpr ⟨_,h2,by rw[<- e1]⟩) n.1
    ·exact absurd (uu.mpr ⟨_,h1,by rw[<- e2]⟩) n.1
    ·exact ih n.2 h1 h2
  exact aux na m1 m2
def cl6(c1 c2 c3:Addr):List (Str×Addr):=[("spending",c1),("done",c2),("body",c3)]
theorem zdg:LamScope ["results","spending","done","body"] ["results"] ["spending","done","body"] (lmS jZ):=⟨rfl,rfl,rfl,by decide +kernel,rfl,by decide +kernel,by decide +kernel,by decide +kernel,by decide +kernel⟩
theorem wQ{l:List (Str×Bool)}{e:Bool}(h:l[i]?=some (x,e)):((l.take (i+1)).filter (·.2)).map (fun p=>V.str p.1)=((l.take i).filter (·.2)).map (fun p=>V.str p.1)++(if e then[V.str x]else[]):=by
 rw[uD,h,UQ,ut];cases e<;>rfl
theorem wZ{l:List (Str×Bool)}{e:Bool}(h:l[i]?=some (x,e)):((l.take (i+1)).filter fun p=>!p.2).map (fun p=>V.str p.1)=((l.take i).filter fun p=>!p.2).map (fun p=>V.str p.1)++(if e then[]else[V.str x]):=by
 rw[uD,h,UQ,ut];cases e<;>rfl
theorem y0{l:lS}{g:Str->Bool}(h:l[i]?=some x):((l.take (i+1)).filter g).map V.str=((l.take i).filter g).map V.str++(if g x then[V.str x]else[]):=by
 rw[uD,h,UQ,ut];cases e:g x
 ·simp[e]
 ·simp[e]
theorem POk.ne(h:POk X m H)(z:X.M b):H b≠none:=by
 have tb:∀{T ls},TbG T ls H->H T≠none:=fun{T ls}⟨ps,q,_⟩=>by rw[q];simp
 rcases z with z|z|z|z|z
 ·rw[z,h.o];simp
 ·rw[z];exact tb h.t4
 ·rw[z];exact tb h.t5
 ·rw[z];exact tb h.t6
 ·rw[z];exact tb h.t7
section
theorem scBegLet:FnScope ["putter","place","body","deed","ends","spent","lent","behind","free","spending","stay","done"] lS3 (zp vo):=.ok
theorem YM:(["putter","place","body","deed","ends","spent","lent","behind","free","spending","stay","done","name"]:lS).Nodup:=by decide +kernel
theorem wc:(["putter","place","body","deed","ends","spent","lent","behind","free","spending","stay","done","name","end"]:lS).Nodup:=by decide +kernel
theorem Vi(F:FunC K "begun_let" vo c f fd)(hB:BMn mg base)(hc:Ub K c X.T6=true)(x0:XOk X)(N:Pn K X.cP)(L:Ln K X.cL)(GU:Ca P w K mg base CX0 2 "used_up" ["deed","owns"] spUsedUp)(GO:Ca P w K mg base CX0 1 "names_of" ["deed"] spNamesOf)(GA:Me P w K mg base CX0 1 X.cP "is_ahead" lS20 (spAhd X.cP))(GS:Me P w K mg base CX0 2 X.cP "spent" lS24 (spSpent X.cP))(GH:Ca P w K mg base CX0 2 "held_deed" lS27 spHeldDeed)(GL:Ma P w K mg base CX0 1 "Place" X.cL lS7 (spPlInit X.cL))(GW:Ca P w K mg base CX0 1 "with_holds" ["pairs","body"] spHolds)(m_zip:mg "zip"=none):FnOk P w K mg base CX0 3 f fd lS3 (spBeg P w K mg base 2 X fun b=>∃x d b',b=.lt x d b'):=by
 refine F.byR scBegLet (fun vs H Q E h=>?_) (fun A outer s H vs Q E hr h fresh=>?_)
 ·obtain⟨pl,dxl,p,ln,vn,b,r,m,R,rfl,_⟩:=h
  rfl
 obtain⟨pl,dxl,p,ln,vn,b0,r,m,R,rfl,⟨x,d,b,rfl⟩,hpl,hb,hN,hln,hRl,hS,hP,hRd,hRM,q⟩:=h;have hr1:Room 1 _:=hr.mono (by decide);refine⟨_,
  (zW (sE 2 scBegLet.nd (zK K (jv 1)))
  (zW (sE 3 scBegLet.nd (zn K (jv 2)))
  (zW (sE 4 scBegLet.nd (cA GU hr (jA2 (jv 3) (zK K (jv 0)))))
  (zW (yx ["name","end"] (i:=5) scBegLet.nd rfl (Or.inl rfl) rfl (yI K rfl m_zip (jA2 (cA GO hr1 (jA1 (jv 3))) (jv 4))) (fun _ _ _ _ _=>(zN K (n:=2) rfl (zu (gN 12 wc) (zu (gN 13 wc) zM)))) (fun _ _ _ _ _=>(z5 (yr (jv 13)))) (fun _ _ _ _ _=>(jv 12)))
  (zW (sE 6 scBegLet.nd (yf ["name","end"] rfl (yI K rfl m_zip (jA2 (cA GO hr1 (jA1 (jv 3))) (jv 4))) (fun _ _ _ _ _=>(zN K (n:=2) rfl (zu (gN 12 wc) (zu (gN 13 wc) zM)))) (fun _ _ _ _ _=>(z5 (xn (yr (jv 13))))) (fun _ _ _ _ _=>(jv 12))))
  (zW (sE 7 scBegLet.nd (zQ K (zn K (zK K (jv 1)))))
  (zW (yx ["name"] (i:=8) scBegLet.nd rfl (Or.inl rfl) rfl (zR K (zK K (jv 1))) (fun _ _ _ _ _=>(gN 12 YM)) (fun _ _ _ _ _=>(z5 (jW.pt (vI (xn (yr (vM (jv 0) N.cl GA hr1 yJ (jA2 (jv 12) (jv 7))))) (wr (xV K (jv 12) (jv 6))))))) (fun _ _ _ _ _=>(jv 12)))
  (zW (sE 9 scBegLet.nd (vM (jv 0) N.cl GS hr yJ (jA2 (jv 5) (jv 8))))
  (zW (sE 10 scBegLet.nd (zA yz (yf ["name"] rfl (zR K (zK K (jv 1))) (fun _ _ _ _ _=>(gN 12 YM)) (fun _ _ _ _ _=>(z5 (xV K (jv 12) (zn K (jv 9))))) (fun _ _ _ _ _=>(jv 12))) (zD (jA1 (zn K (jv 2))))))
  (zW (sE 11 scBegLet.nd (cA GH hr (jA3 (jv 3) (jv 4) (zn K (jv 9)))))
  (xO (zB (jA2 (zD (jA1 (ve GL hr rfl yJ (jA3 (zn K (jv 2)) (jv 7) (jv 10))))) (xl (params:=lmP jZ) (body:=lmB jZ) (scope:=lmS jZ) (pos:=xE jZ) (T:=X.T6) (qual:=zbK) (cl:=cl6 (s.heap.objs.size+6) (s.heap.objs.size+5) (s.heap.objs.size+4)) hB rfl hc rfl)))))))))))))),?_⟩
 have sl:=zO;obtain⟨pd,pb,hp,hd,hb'⟩:∃pd pb,H p=some (.tup [.str "let",.str x,.ref pd,.ref pb])/\IsDe H d pd/\IsB H b pb:=by
  cases hb with
  |lt a b c=>exact⟨_,_,a,b,c⟩
 obtain⟨wv,⟨qn,lnn,rfl,hqn,hRn,hlnn⟩,hNb⟩:=id hN;obtain⟨⟨hxn,hun,hca⟩,hokb⟩:=show((x∈X.ns/\(∀y∈d.uses,y∈X.ns)/\CaD X.N X.ow d)/\OkB X b)from hS.ok
 have hus:=hd.usl;refine cutE fun D_ hD_=>?_;refine zbA fun r1_ hr1_=>?_;refine(zg rfl ⟨pl,X.cL,dxl,_,_,rfl,hpl,L.cl,L.a1,rfl,?_⟩);refine(zg rfl (ixT hp aI2 ?_));refine(zq rfl rfl ⟨X.pu,X.cP,X.dx,_,_,rfl,hP.o,N.cl,N.a1,rfl,pd,X.od,d,X.ow,X.N,rfl,hd,hP.w,hca,fun H1 qe s1 hqe=>?_⟩);show r1_ D_ _ H1;subst hr1_;refine Yo fun r2_ hr2_=>?_;have hel:d.uses.length=(ends X.ow d).length:=by
  cases hd with
  |num _=>rfl
  |op _=>rfl
  |@app w0 f0 xs0 _ _ c _ _ =>
   by_cases e:w0="call"
   ·subst e
    rw[zV (by decide),show ends X.ow (.app "call" f0 xs0)=X.ow f0 by unfold ends;exact if_pos rfl];exact(hca rfl).2.symm
   ·rw[show ends X.ow (.app w0 f0 xs0)=(De.uses (.app w0 f0 xs0)).map fun _=>true from if_neg e,ua]
 generalize hes:ends X.ow d=es at *;have zl:(d.uses.zip es).length=d.uses.length:=by rw[Ue,<- hel,tJ]
 have fl:∀j,((((d.uses.zip es).take j).filter (·.2)).map fun p=>V.str p.1).length<=41:=fun j=>by
  rw[ua];refine uI (um _ _) ?_;rw[uq];lia
 have flN:∀j,((((d.uses.zip es).take j).filter fun p=>!p.2).map fun p=>V.str p.1).length<=41:=fun j=>by
  rw[ua];refine uI (um _ _) ?_;rw[uq];lia
 refine(zg rfl ⟨pd,d,rfl,hd.keep (.of s1),fun H2 q2 s2 hq2=>(zg rfl ⟨q2,qe,false,false,_,_,rfl,SqK.t hq2,SqK.t (s2 _ _ hqe),xP (xs:=d.uses.map V.str) (ys:=es.map V.bl) (by rw[ua,ua];exact hel) (fun j τ zs H'=>Same H2 H'/\(∃u v,τ=[some (.ref X.pu),sR pl,sR p,sR pd,sR qe,none,none,none,none,none,none,none,u,v])/\zs=(((d.uses.zip es).take j).filter (·.2)).map fun p=>V.str p.1) ⟨Same.refl _,⟨none,none,rfl⟩,rfl⟩ (fun j τ zs H' _ h=>⟨SqK.t (h.1 _ _ hq2),SqK.t (h.1 _ _ (s2 _ _ hqe))⟩) ?_ ?_⟩)⟩)
 ·rintro i v1 v2 T τ zs H3 hv1 hv2 hT ⟨s3,⟨u,v,rfl⟩,rfl⟩
  rw[ug]at hv1 hv2;obtain⟨y,hy,rfl⟩:=ue.mp hv1;obtain⟨e,he,rfl⟩:=ue.mp hv2;rw[wQ (Uc (z:=(y,e)).mpr ⟨hy,he⟩)];refine⟨T,(zg rfl ⟨SqT.of uX9,rfl,_,_,rfl,_,_,rfl,rfl,(zq rfl rfl ?_)⟩)⟩
  have:=fl i
  cases e
  ·exact iteF ⟨s3.new hT,⟨_,_,rfl⟩,(u6 _).symm⟩
  ·exact iteT (zg rfl ⟨by lia,s3.new hT,⟨_,_,rfl⟩,rfl⟩)
 rintro τ zs H3 ⟨s3,_,rfl⟩ lsp hlsp;rw[ua,ur (by lia)];have s4:Same H (upd H3 lsp (.lst (((d.uses.zip es).filter (·.2)).map fun p=>V.str p.1))):=((s1.trans s2).trans s3).new hlsp;have esp:((d.uses.zip es).filter (·.2)).map (fun p=>V.str p.1)=(upN d.uses es).map V.str:=by unfold upN;rw[UB];rfl
 rw[esp]at s4 ⊢;have hlsp4:=uX9 (H:=H3) (a:=lsp) (o:=.lst ((upN d.uses es).map V.str));have hqe4:=old (o:=.lst ((upN d.uses es).map V.str)) hlsp (s3 _ _ (s2 _ _ hqe));have nlsp:H lsp=none:=((s1.trans s2).trans s3).free hlsp;generalize upd H3 lsp (.lst ((upN d.uses es).map V.str))=H4 at *;have hP4:=hP.same s4;show r2_ D_ _ H4;subst hr2_;refine zdW fun r3_ hr3_=>?_;refine(zg rfl ⟨pd,d,rfl,hd.keep (.of s4),fun H5 q5 s5 hq5=>(zg rfl ⟨q5,qe,false,false,_,_,rfl,SqK.t hq5,SqK.t (s5 _ _ hqe4),xP (xs:=d.uses.map V.str) (ys:=es.map V.bl) (by rw[ua,ua];exact hel) (fun j τ zs H'=>Same H5 H'/\(∃u v,τ=[some (.ref X.pu),sR pl,sR p,sR pd,sR qe,sR lsp,none,none,none,none,none,none,u,v])/\zs=(((d.uses.zip es).take j).filter fun p=>!p.2).map fun p=>V.str p.1) ⟨Same.refl _,⟨none,none,rfl⟩,rfl⟩ (fun j τ zs H' _ h=>⟨SqK.t (h.1 _ _ hq5),SqK.t (h.1 _ _ (s5 _ _ hqe4))⟩) ?_ ?_⟩)⟩)
 ·rintro i v1 v2 T τ zs H6 hv1 hv2 hT ⟨s6,⟨u,v,rfl⟩,rfl⟩
  rw[ug]at hv1 hv2;obtain⟨y,hy,rfl⟩:=ue.mp hv1;obtain⟨e,he,rfl⟩:=ue.mp hv2;rw[wZ (Uc (z:=(y,e)).mpr ⟨hy,he⟩)];refine⟨T,(zg rfl ⟨SqT.of uX9,rfl,_,_,rfl,_,_,rfl,rfl,(zq rfl rfl ?_)⟩)⟩
  have:=flN i
  cases e
  ·exact iteT (zg rfl ⟨by lia,s6.new hT,⟨_,_,rfl⟩,rfl⟩)
  ·exact iteF ⟨s6.new hT,⟨_,_,rfl⟩,(u6 _).symm⟩
 rintro τ zs H6 ⟨s6,_,rfl⟩ llt hllt;rw[ua,ur (by lia)];have s7:Same H4 (upd H6 llt (.lst (((d.uses.zip es).filter fun p=>!p.2).map fun p=>V.str p.1))):=(s5.trans s6).new hllt;have elt:((d.uses.zip es).filter fun p=>!p.2).map (fun p=>V.str p.1)=(ltN d.uses es).map V.str:=by unfold ltN;rw[UB];rfl
 rw[elt]at s7 ⊢;have hllt7:=uX9 (H:=H6) (a:=llt) (o:=.lst ((ltN d.uses es).map V.str));generalize upd H6 llt (.lst ((ltN d.uses es).map V.str))=H7 at *;have s07:=s4.trans s7;have hP7:=hP.same s07;refine(zg rfl ⟨pl,X.cL,dxl,_,_,rfl,s07 _ _ hpl,L.cl,L.a2,rfl,ixT (s07 _ _ hqn) aI1 (ixL (s07 _ _ hlnn) aI0 ?_)⟩);have hrl:r.length<=2000000:=uI (UP _ _) hS.nb;have hNt:Nt H7 (b.mk X.ns) wv:=hNb.nt.keep (.of s07);show r3_ D_ _ H7;subst hr3_;refine Yo fun r4_ hr4_=>?_;refine(zg rfl ⟨pl,X.cL,dxl,_,_,rfl,s07 _ _ hpl,L.cl,L.a3,rfl,ln,rfl,⟨_,SqL.of (s07 _ _ hln)⟩,ym (xs:=r.map V.str) (fun j τ zs H'=>H7=H'/\(∃u,τ=[some (.ref X.pu),sR pl,sR p,sR pd,sR qe,sR lsp,sR llt,some wv,none,none,none,none,u])/\zs=((r.take j).filter fun y=>!ahB X.ns b y && decide (y∉ltN d.uses es)).map V.str) ⟨rfl,⟨none,rfl⟩,rfl⟩ (fun j τ zs H' _ h=>SqL.of (h.1 ▸ s07 _ _ hln)) ?_ ?_⟩)
 ·rintro j v τ zs H8 hv ⟨rfl,⟨u,rfl⟩,rfl⟩
  obtain⟨y,hy,rfl⟩:=L2.gM hv;rw[y0 hy];have hfl:(((r.take j).filter fun y=>!ahB X.ns b y && decide (y∉ltN d.uses es)).map V.str).length < sizeLine:=by
   rw[ua];refine uQ (um _ _) ?_;rw[uq];lia
  refine(zg rfl ⟨X.pu,X.dx,(zg rfl ⟨hP7.o,rfl,(zq rfl rfl ⟨X.pu,X.dx,X.od,X.bd,y,m,b.mk X.ns,wv,X.ns,rfl,hP7.o,hP7.b,hS.ln y (uw hy),hNt,(zg rfl ?_)⟩)⟩)⟩);show if(!ahB X.ns b y)=true then _ else _
  cases hah:ahB X.ns b y
  ·refine iteT (zq rfl rfl ⟨llt,(zg rfl ⟨.inl (SqL.of hllt7),rfl,xD _,(zg rfl ?_)⟩)⟩)
   rw[if_pos rfl,inVs];by_cases c2:y∈ltN d.uses es
   ·rw[decide_eq_true c2]
    exact iteF ⟨rfl,⟨_,rfl⟩,by simp[c2]⟩
   ·rw[decide_eq_false c2]
    exact iteT (zg rfl ⟨hfl,rfl,⟨_,rfl⟩,by simp[c2]⟩)
  ·exact iteF (iteF ⟨rfl,⟨_,rfl⟩,by simp⟩)
 rintro τ zs H8 ⟨rfl,_,rfl⟩ lf hlf;rw[ua,Uj];have efr:(r.filter fun y=>!ahB X.ns b y && decide (y∉ltN d.uses es))=frL X.ns X.ow d b r:=by unfold frL;rw[hes]
 rw[efr];have s8:=s07.new (o:=.lst ((frL X.ns X.ow d b r).map V.str)) hlf;have hlf8:=uX9 (H:=H7) (a:=lf) (o:=.lst ((frL X.ns X.ow d b r).map V.str));have hlsp8:=old (o:=.lst ((frL X.ns X.ow d b r).map V.str)) hlf (s7 _ _ hlsp4);have hqe8:=old (o:=.lst ((frL X.ns X.ow d b r).map V.str)) hlf (s7 _ _ hqe4);generalize upd H7 lf (.lst ((frL X.ns X.ow d b r).map V.str))=H8 at *;have hP8:=hP.same s8;have hul:(upN d.uses es).length<=41:=by
  have:=fl d.uses.length
  rw[ur (by lia),ua]at this;unfold upN;rw[ua];exact this
 have hbz:=b.sz_pos';have hmz:m+41*(b.sz+1)<=LIMT:=by
  have:=hS.mz
  rw[Bd.sz]at this;exact this
 show r4_ D_ _ H8;subst hr4_;refine Yo fun r5_ hr5_=>?_;refine(zg rfl ⟨X.pu,X.dx,(zg rfl ⟨hP8.o,rfl,(zq rfl rfl ⟨X.pu,X.dx,X.od,X.bd,lsp,lf,upN d.uses es,frL X.ns X.ow d b r,m,rfl,hP8.o,hlsp8,hlf8,by lia,by lia,?_,fun H9 t9 ls9 lp9 qs9 k9 o9 ht9 nls nlp hls9 hlp9 hal9=>?_⟩)⟩)⟩)
 ·intro y hy
  unfold upN at hy;obtain⟨z,hz,rfl⟩:=uu.mp hy;exact x0.sh _ (hun _ (Uv (uW.mp hz).1).1)
 have hsl:=yD (frL X.ns X.ow d b r) (upN d.uses es) m;have esp:spn (frL X.ns X.ow d b r) (upN d.uses es) m=spL X.ns X.ow d b r m:=by unfold spL;rw[hes]
 rw[esp]at hsl o9 hls9 hal9;have hP9:=hP8.cnt k9 o9;have k89:KM X.M H8 H9:=fun b u n e=>k9 b u (fun z=>n (.inl z)) e;have k09:KM X.M H H9:=(KM.of s8).trans k89;have t09:Tups H H9:=hP.tups k09;have hpl9:=k09 _ _ (hP.noI hpl) hpl;have hln9:=k09 _ _ (hP.noL hln) hln;generalize hSP:spL X.ns X.ow d b r m=S at *;obtain⟨st,prs,m2⟩:=S;dsimp only at hsl o9 hls9 hlp9 hal9 hP9
 show r5_ D_ _ H9;subst hr5_;refine Yo fun r6_ hr6_=>?_;refine(zg rfl ⟨pl,X.cL,dxl,_,_,rfl,hpl9,L.cl,L.a3,rfl,ln,rfl,⟨_,SqL.of hln9⟩,ym (xs:=r.map V.str) (fun j τ zs H'=>H9=H'/\(∃u,τ=[some (.ref X.pu),sR pl,sR p,sR pd,sR qe,sR lsp,sR llt,some wv,sR lf,sR t9,none,none,u])/\zs=((r.take j).filter fun y=>decide (y∉st)).map V.str) ⟨rfl,⟨none,rfl⟩,rfl⟩ (fun j τ zs H' _ h=>SqL.of (h.1 ▸ hln9)) ?_ ?_⟩)
 ·rintro j v τ zs H10 hv ⟨rfl,⟨u,rfl⟩,rfl⟩
  obtain⟨y,hy,rfl⟩:=L2.gM hv;rw[y0 hy];have hfl:(((r.take j).filter fun y=>decide (y∉st)).map V.str).length < sizeLine:=by
   rw[ua];refine uQ (um _ _) ?_;rw[uq];lia
  refine(zq rfl rfl (ixT ht9 aI0 ⟨ls9,(zg rfl ⟨.inl (SqL.of hls9),rfl,xD _,(zg rfl ?_)⟩)⟩));rw[if_pos rfl,inVs];by_cases c2:y∈st
  ·rw[decide_eq_true c2]
   exact iteF ⟨rfl,⟨_,rfl⟩,by simp[c2]⟩
  ·rw[decide_eq_false c2]
   exact iteT (zg rfl ⟨hfl,rfl,⟨_,rfl⟩,by simp[c2]⟩)
 rintro τ zs H10 ⟨rfl,_,rfl⟩ l10 h10;rw[ua,Uj];have s10:=zo (o:=.lst ((r.filter fun y=>decide (y∉st)).map V.str)) h10;refine(zg rfl (ixT (s10 _ _ (t09 _ _ hp)) aI1 ⟨sN1,fun l11 h11=>⟨l10,l11,(zC rfl rfl ⟨old h11 uX9,uX9,?_,fun l12 h12=>?_⟩)⟩⟩))
 ·rw[ua]
  have:=um (fun y=>decide (y∉st)) r
  show _+1<=_;lia
 have e12:(r.filter fun y=>decide (y∉st)).map V.str++[V.str x]=(stL r st x).map V.str:=by unfold stL;rw[ut];rfl
 rw[e12];have s12:Same H9 (upd (upd (upd H9 l10 (.lst ((r.filter fun y=>decide (y∉st)).map V.str))) l11 (.lst [.str x])) l12 (.lst ((stL r st x).map V.str))):=(s10.new h11).new h12;have n12:H9 l12=none:=(s10.new h11).free h12;have hl12:=uX9 (H:=upd (upd H9 l10 (.lst ((r.filter fun y=>decide (y∉st)).map V.str))) l11 (.lst [.str x])) (a:=l12) (o:=.lst ((stL r st x).map V.str));generalize upd (upd (upd H9 l10 (.lst ((r.filter fun y=>decide (y∉st)).map V.str))) l11 (.lst [.str x])) l12 (.lst ((stL r st x).map V.str))=H12 at *;have t012:=t09.trans (.of s12);have hqe12:=s12 _ _ (k89 _ _ (hP8.noT hqe8) hqe8);show r6_ D_ _ H12;subst hr6_;refine(zq rfl rfl (zg rfl (ixT (s12 _ _ ht9) aI0 ⟨pd,qe,ls9,d,es,st,rfl,hd.keep t012,hqe12,s12 _ _ hls9,hel,?_,fun H13 qd s13 hqd=>?_⟩)))
 ·rw[hsl.1]
  unfold upN;rw[ua]
 have hqd:IsHd H13 (hdD X.ow d st) qd:=by unfold hdD;rw[hes];exact hqd
 have s913:=s12.trans s13;have t013:=t09.trans (.of s913);refine(zg rfl (ixT (t013 _ _ hp) aI3 (zq rfl rfl ?_)));intro pk dk hpk hdk npk;refine⟨pk,dk,.ref pb,wv,.ref l12,rfl,uX9,fun H15 k15 h15=>⟨rfl,sN1,fun l16 h16=>?_⟩⟩;have s1315:Same H13 H15:=fun b u e=>k15 b u (zi e hpk) (by rw[zj (zi e hpk),zj (zi e hdk)];exact e);have s16:Same H9 (upd H15 l16 (.lst [.ref pk])):=(s913.trans s1315).new h16;have s1316:Same H13 (upd H15 l16 (.lst [.ref pk])):=s1315.new h16;have n16:H9 l16=none:=(s913.trans s1315).free h16;have hl16:=uX9 (H:=H15) (a:=l16) (o:=.lst [.ref pk]);have hpk16:=old (o:=.lst [.ref pk]) h16 h15;generalize upd H15 l16 (.lst [.ref pk])=H16 at *;have hP16:=hP9.same s16;refine yQ hP16.t6 (by unfold ls6;exact .head _) (fun p hp _=>by unfold ls6 at hp;rw[uo.mp hp]) fun H17 fl cc ct k17 T17 hfl nfT ncT hfl17 hcc=>?_;refine⟨sN2,fun rr hrr=>?_⟩;have k18:KM (·=X.T6) H16 (upd H17 rr (.tup [.ref l16,.ref fl])):=fun b u n e=>old hrr (k17 b u n e);have hP18:=hP16.tb6 x0 k18 (T17.same (zo hrr _));have hr18:=uX9 (H:=H17) (a:=rr) (o:=.tup [.ref l16,.ref fl]);have hf18:=old (o:=.tup [.ref l16,.ref fl]) hrr hfl17;have hc18:=old (o:=.tup [.ref l16,.ref fl]) hrr hcc;generalize upd H17 rr (.tup [.ref l16,.ref fl])=H18 at *;subst hD_;refine⟨[(s.heap.objs.size+6,.ref t9),(s.heap.objs.size+5,.ref qd),(s.heap.objs.size+4,.ref p)],fun x hx=>?_,fun H19 pb1=>?_⟩
 ·simp only[uk,Up,or_false]at hx
  rcases hx with rfl|rfl|rfl
  ·exact⟨9,"spending",rfl,rfl,rfl,.inl rfl⟩
  ·exact⟨11,"done",rfl,rfl,rfl,.inl rfl⟩
  ·exact⟨2,"body",rfl,rfl,rfl,.inl rfl⟩
 have s19:=Pub.same pb1;have hP19:=hP18.same s19;have k16:KM X.M H16 H19:=fun b u n e=>s19 _ _ (k18 b u (fun z=>n (.inr (.inr (.inr (.inl z))))) e);have k9':KM X.M H9 H19:=(KM.of s16).trans k16;have k019:KM X.M H H19:=k09.trans k9';have t019:=hP.tups k019;have t919:=hP9.tups k9';have f12:H l12=none:=k09.free (fun z=>hP9.ne z n12) n12;have f16:H l16=none:=k09.free (fun z=>hP9.ne z n16) n16;have flp:H lp9=none:=s8.free nlp;have hlp19:=k9' _ _ (hP9.noL hlp9) hlp9;have hl12':=s13 _ _ hl12;have hl1216:=s1316 _ _ hl12';have hl1219:=k16 _ _ (hP16.noL hl1216) hl1216;have hl1619:=k16 _ _ (hP16.noL hl16) hl16;have hqd19:IsHd H19 (hdD X.ow d st) qd:=hqd.keep ((Tups.of s1316).trans (hP16.tups k16));have hbs:=hS.sz;have hnb:=hS.nb;rw[Bd.sz]at hbs;rw[Bd.binds]at hnb;refine q H19 rr l16 fl [.ref pk] (fun b=>R b\/b=l12\/b=l16\/b=lp9) k019 (by rw[midP,hSP];exact hP19) (s19 _ _ hr18) f16 hl1619 (fun _ z=>.inl z) ?_ ?_ (.inr (.inr (.inl rfl))) ?_ ⟨_,s19 _ _ hf18⟩ ?_
 ·rintro b (z|rfl|rfl|rfl)
  ·exact .inl z
  ·exact .inr f12
  ·exact .inr f16
  ·exact .inr flp
 ·rintro b (z|rfl|rfl|rfl)
  ·cases e:H b with
   |none=>exact absurd e (hRd b z)
   |some u=>rw[k019 b u (hRM b z) e];simp
  ·rw[hl1219];simp
  ·rw[hl1619];simp
  ·rw[hlp19];simp
 ·rw[kP,hSP]
  refine .cons ⟨⟨fun y hy=>?_,hokb,?_,?_,?_⟩,pk,dk,pb,l12,wv,rfl,k16 _ _ (hP16.noI hpk16) hpk16,hb'.keep t019,hNb.keep ⟨t019,fun a xs ra e=>k019 a _ (hP.noL e) e,fun _ z=>.inl z⟩,hl1219,.inr (.inl rfl)⟩ .nil
  ·unfold stL at hy
   rcases uy.mp hy with hy|hy
   ·exact hS.ln y (uW.mp hy).1
   ·rw[uo.mp hy];exact hxn
  ·show m2+41*b.sz<=LIMT
   lia
  ·show b.sz<=400000
   lia
  ·show(stL r st x).length+b.binds.length<=2000000
   unfold stL
   have:=um (fun y=>decide (y∉st)) r
   rw[uf,uO];rw[ui]at hnb;lia
 ·intro H' R2 z sub rl rs Q2 hrl hcs q2
  rw[kP,hSP]at hcs;rw[pcP,hSP]at q2;dsimp only at q2
  cases hcs with
  |@cons _ v0 _ _ hv0 hcs =>
  cases hcs;have g:∀{b:Addr}{u:HO},H19 b=some u->(∀ps,u≠.tbl ps)->(∀C dx fs,u≠.ins C dx fs)->(∀xs,u≠.lst xs)->H' b=some u:=fun{b u} e n1 n2 n3=>z b u e (hP19.no e n1 fun k=>by unfold PO;exact n2 _ _ _) fun xs y=>absurd y (n3 xs);have tz:Tups H19 H':=fun b xs e=>g e (by intro _ z;cases z) (by intro _ _ _ z;cases z) (by intro _ z;cases z);have cel:∀{c:Addr}{v:V},Cel H19 c v->Cel H' c v:=fun⟨o,e⟩=>⟨o,g e (by intro _ z;cases z) (by intro _ _ _ z;cases z) (by intro _ z;cases z)⟩;have C:Clo H' (cl6 (s.heap.objs.size+6) (s.heap.objs.size+5) (s.heap.objs.size+4)) ["spending","done","body"] [.ref t9,.ref qd,.ref p]:=by
   refine x9 (cl:=[("spending",s.heap.objs.size+6),("done",s.heap.objs.size+5),("body",s.heap.objs.size+4)]) (by show(["spending","done","body"]:lS).Nodup;decide +kernel) (by simp) rfl fun i p v e1 e2=>?_
   match i,e1,e2 with
   |0,e1,e2=>cases e1;cases e2;exact cel (pb1.cel (_,_) (.head _))
   |1,e1,e2=>cases e1;cases e2;exact cel (pb1.cel (_,_) (.tail _ (.head _)))
   |2,e1,e2=>cases e1;cases e2;exact cel (pb1.cel (_,_) (.tail _ (.tail _ (.head _))))
   |i+3,e1,_=>simp at e1
  have hcA:∀a∈(cl6 (s.heap.objs.size+6) (s.heap.objs.size+5) (s.heap.objs.size+4)).map (·.2),∃v,Cel H' a v:=fun a ha=>by
   obtain⟨p,hp,rfl⟩:=uu.mp ha;exact C.all p hp
  have tp:=tz.trans (yj hcA);have ml:∀{b:Addr}{xs:List V},H' b=some (.lst xs)->z7 H' ((cl6 (s.heap.objs.size+6) (s.heap.objs.size+5) (s.heap.objs.size+4)).map (·.2)) b=some (.lst xs):=fun e=>zJ hcA e (by intro _ _ _ z;cases z);have hlpz:=z _ _ hlp19 (hP19.noL hlp19) (fun _ _=>.inr (.inr (.inr rfl)));refine x8 (k:=1) zdg (.all (us1 fun _=>rfl)) (g (s19 _ _ hf18) (by intro _ z;unfold FunO at z;cases z) (by intro _ _ _ z;unfold FunO at z;cases z) (by intro _ z;unfold FunO at z;cases z)) (g (s19 _ _ hc18) (by intro _ z;unfold CodO at z;cases z) (by intro _ _ _ z;unfold CodO at z;cases z) (by intro _ z;unfold CodO at z;cases z)) C fun A2 outer2 s2 hr2=>?_;refine⟨_,cA GW hr2 (jA2 (zn K (jv 1)) (zB (jA4 zw (zn K (jv 3)) (jv 2) (zQ K (jv 0))))),?_⟩;refine(zg rfl (ixT (tp _ _ (t919 _ _ ht9)) aI1 (zg rfl (ixT (tp _ _ (t019 _ _ hp)) aI1 (zq rfl rfl (ixL (ml hrl) aI0 ⟨sN4,fun tl htl=>?_⟩))))));have sm:=zo (o:=.tup [.str "let",.str x,.ref qd,v0]) htl;refine⟨lp9,prs,qs9,.lt x (hdD X.ow d st) _,.ref tl,rfl,old htl (ml hlpz),hal9.imp fun _ _ e=>old htl (tp _ _ (t919 _ _ e)),⟨tl,qd,(zg rfl ⟨uX9,hqd19.keep (tp.trans (.of sm)),hv0.keep ((yj hcA).trans (.of sm))⟩)⟩,fun H3 v3 s3 h3 hnn=>?_⟩;exact q2 _ v3 (xa (sm.trans s3)) (h3.keep fun b xs e=>yS hnn e)
mutual
def UsB:Bd->Prop
 |.give _=>True
 |.lt _ d b=>d.uses.length<=41/\UsB b
 |.iff _ a b=>UsB a/\UsB b
 |.case _ as=>UsA as
def UsA:Arms->Prop
 |.nil=>True
 |.cons _ _ b r=>UsB b/\UsA r
end
mutual
theorem IsB.us{H:Hp}:∀{b:Bd}{p:Addr},IsB H b p->UsB b
 |_,_,.give _=>by unfold UsB;trivial
 |_,_,.lt _ d b=>by unfold UsB;exact⟨d.usl,IsB.us b⟩
 |_,_,.iff _ a b=>by unfold UsB;exact⟨IsB.us a,IsB.us b⟩
 |_,_,.case _ _ _ a=>by unfold UsB;exact IsA.us a
theorem IsA.us{H:Hp}:∀{as:Arms}{ps:List Addr},IsA H as ps->UsA as
 |_,_,.nil=>by unfold UsA;trivial
 |_,_,.cons _ _ b r=>by unfold UsA;exact⟨IsB.us b,IsA.us r⟩
end
theorem Wq(xs:lS)(es:List Bool):(upN xs es).length<=xs.length:=by
 unfold upN;rw[ua];refine uI (um _ _) ?_;rw[Ue];exact Nat.min_le_left _ _
mutual
theorem j4(ns:lS)(ow:Str->List Bool):∀(b:Bd)(l:lS)(m:Nat),UsB b->(hB ns ow b l m).2<=m+41*b.sz
 |.give x,l,m,_=>by
  rw[hB,Bd.sz]
  have:=(yD (rO ns (.give x) l) [x] m).2.2.1
  simp at this ⊢
  lia
 |.lt x d b,l,m,h=>by
  unfold UsB at h;rw[hB,Bd.sz];have h1:=j4 ns ow b (stL (rO ns (.lt x d b) l) (spL ns ow d b (rO ns (.lt x d b) l) m).1 x) (spL ns ow d b (rO ns (.lt x d b) l) m).2.2 h.2;have h2:(spL ns ow d b (rO ns (.lt x d b) l) m).2.2<=m+(upN d.uses (ends ow d)).length:=(yD _ _ m).2.2.1;have h3:=Wq d.uses (ends ow d);have h4:=h.1;dsimp only
  lia
 |.iff x a b,l,m,h=>by
  unfold UsB at h;rw[hB,Bd.sz];have h1:=j4 ns ow a (rO ns (.iff x a b) l) m h.1;have h2:=j4 ns ow b (rO ns (.iff x a b) l) (hB ns ow a (rO ns (.iff x a b) l) m).2 h.2;dsimp only
  lia
 |.case x as,l,m,h=>by
  unfold UsB at h;rw[hB,Bd.sz];have h1:=zbM ns ow x (rO ns (.case x as) l) as m h;dsimp only
  lia
theorem zbM(ns:lS)(ow:Str->List Bool)(x:Str)(r:lS):∀(as:Arms)(m:Nat),UsA as->(hA ns ow x r as m).2<=m+41*as.sz
 |.nil,m,_=>by rw[hA];exact UP _ _
 |.cons t xs b as,m,h=>by
  unfold UsA at h;rw[hA,Arms.sz];have h1:=j4 ns ow b (stA (tkB ns x r b) x r xs) m h.1;have h2:=zbM ns ow x r as (hB ns ow b (stA (tkB ns x r b) x r xs) m).2 h.2;dsimp only
  lia
end
theorem J6(X:HX)(x:Str)(r:lS):∀(as:Arms)(m i:Nat)(a:Str×lS×Bd),as.al[i]?=some a->UsA as->OkA X as->∃mi,(kA X.ns X.ow x r as m)[i]?=some ⟨a.2.2,stA (tkB X.ns x r a.2.2) x r a.2.1,mi⟩/\mi+41*a.2.2.sz<=m+41*as.sz/\a.2.2.sz<=as.sz/\a.2.1.length+a.2.2.binds.length<=as.binds.length/\OkB X a.2.2/\∀y∈a.2.1,y∈X.ns
 |.nil,m,i,a,h,_,_=>by unfold Arms.al at h;simp at h
 |.cons t xs b as,m,0,a,h,hu,ho=>by
  unfold Arms.al at h;simp at h
  subst h;unfold OkA at ho;rw[kA,Arms.sz,Arms.binds];refine⟨m,rfl,?_,?_,?_,ho.1.2,ho.1.1⟩
  ·show m+41*b.sz<=_
   lia
  ·show b.sz<=_
   lia
  ·rw[uf,uf]
   show xs.length+b.binds.length<=_;lia
 |.cons t xs b as,m,i+1,a,h,hu,ho=>by
  unfold Arms.al at h;unfold UsA at hu;unfold OkA at ho;obtain⟨mi,h1,h2,h3,h4,h5⟩:=J6 X x r as (hB X.ns X.ow b (stA (tkB X.ns x r b) x r xs) m).2 i a (by simpa using h) hu.2 ho.2;have h6:=j4 X.ns X.ow b (stA (tkB X.ns x r b) x r xs) m hu.1;rw[kA,Arms.sz,Arms.binds];refine⟨mi,by simpa using h1,by lia,by lia,?_,h5⟩;rw[uf,uf];lia
theorem Wr:∀as:Arms,as.ways=as.al.map (·.2)
 |.nil=>rfl
 |.cons t xs b r=>by unfold Arms.ways Arms.al;rw[Wr r];rfl
theorem zbN:∀as:Arms,as.al.length<=as.sz
 |.nil=>uj _
 |.cons t xs b r=>by
  unfold Arms.al;rw[Arms.sz,ui]
  have:=zbN r
  lia
theorem zdh{c c2:Bool}(h1:∀Q':VK,Q' (.bl c) H->ta σ H Q')(h2:c=true->∀Q':VK,Q' (.bl c2) H->tb σ H Q')(hq:Q (.bl (c && c2)) H):Vp ta tb σ H Q:=by
 refine h1 _ ⟨c,rfl,?_⟩;cases c
 ·exact iteF hq
 ·exact iteT (h2 rfl _ hq)
theorem zdi{u:TS}(h:te σ H fun v H1=>g v σ H1 fun σ2 H2=>u D σ2 H2):tSeq (tAsg te g) u D σ H:=h
theorem zaY{t:TE}{u:TS}(h:t σ H fun _ H1=>u D σ H1):tSeq (Vs t) u D σ H:=h
theorem zdj{c:Bool}{a b:V}{l:Addr}(hi:σ[i]?=some (some (.ref l)))(hj:σ[j]?=some (some (.bl c)))(hl:H l=some (.lst xs))(hn:xs.length < sizeLine)(hq:Q .non (upd H l (.lst (xs++[if c then a else b])))):tBM K "list" Zg (tVar i) (yh (tIf (tB (tVar j)) (tC a) (tC b)) tNil) σ H Q:=by
 refine⟨_,hi,.inl ⟨rfl,_,SqL.of hl⟩,_,hj,(zg rfl ?_)⟩;cases c
 ·exact iteF ⟨l,(zC rfl rfl ⟨hl,hn,hq⟩)⟩
 ·exact iteT ⟨l,(zC rfl rfl ⟨hl,hn,hq⟩)⟩
def cl7(c1 c2:Addr):List (Str×Addr):=[("modes",c1),("body",c2)]
theorem zdk:LamScope ["results","modes","body"] ["results"] ["modes","body"] (lmS j3):=⟨rfl,rfl,rfl,by decide +kernel,rfl,by decide +kernel,by decide +kernel,by decide +kernel,by decide +kernel⟩
theorem scBegCase:FnScope ["putter","place","body","modes","within","arm","note","takes","stay"] lS3 (zp wI):=.ok
theorem Vj:(["putter","place","body","modes","within","arm","note","takes","stay","name"]:lS).Nodup:=by decide +kernel
theorem XO(F:FunC K "begun_case" wI c f fd)(hB:BMn mg base)(hc:Ub K c X.T7=true)(x0:XOk X)(N:Pn K X.cP)(L:Ln K X.cL)(GA:Me P w K mg base CX0 1 X.cP "is_ahead" lS20 (spAhd X.cP))(GL:Ma P w K mg base CX0 1 "Place" X.cL lS7 (spPlInit X.cL))(GH:Ca P w K mg base CX0 1 "held_arms" lS23 spHeldArms)(m_zip:mg "zip"=none)(m_list:mg "list"=none):FnOk P w K mg base CX0 3 f fd lS3 (spBeg P w K mg base 2 X fun b=>∃x as,b=.case x as):=by
 refine F.byR scBegCase (fun vs H Q E h=>?_) (fun A outer s H vs Q E hr h fresh=>?_)
 ·obtain⟨pl,dxl,p,ln,vn,b,r,m,R,rfl,_⟩:=h
  rfl
 obtain⟨pl,dxl,p,ln,vn,b0,r,m,R,rfl,⟨x,as,rfl⟩,hpl,hb,hN,hln,hRl,hS,hP,hRd,hRM,q⟩:=h;have hr1:Room 1 _:=hr.mono (by decide);refine⟨_,
  (zW (sE 2 scBegCase.nd (zK K (jv 1)))
  (zW (sE 3 scBegCase.nd (zD zL))
  (zW (sE 4 scBegCase.nd (zD zL))
  (zW (yt PassesOwn.leaving rfl (yI K rfl m_zip (jA2 (zn K (jv 2)) (zn K (zK K (jv 1))))) (zN K rfl (zu (gN 5 scBegCase.nd) (zu (gN 6 scBegCase.nd) zM)))
   (zh (sE 7 scBegCase.nd (Xk (yO (Xr K) (zn K (jv 2)) (zK K (jv 1)) (by with_unfolding_all rfl)) (vJ (zcB (vM (jv 0) N.cl GA hr1 yJ (jA2 (zn K (jv 2)) (jv 6)))))))
   (zh (yw (yP uF uS uT yi (jv 3) (jA1 (ww (yr (jv 7)) zw zw))))
   (zh (yx ["name"] (i:=8) scBegCase.nd rfl (Or.inl rfl) rfl (zR K (zK K (jv 1))) (fun _ _ _ _ _=>(gN 9 Vj)) (fun _ _ _ _ _=>(z5 (jW.pt (wu (xn (yr (jv 7))) (xM (tN vd (jv 9) (zn K (jv 2)))))))) (fun _ _ _ _ _=>(jv 9)))
   (zk (yw (yP uF uS uT yi (jv 4) (jA1 (ve GL hr rfl yJ (jA3 (zn K (jv 5)) (jv 6) (zA yz (jv 8) (zS (yK K) rfl m_list Ut (jA1 (zn K (jv 5)))))))))))))))
  (xO (zB (jA2 (jv 4) (xl (params:=lmP j3) (body:=lmB j3) (scope:=lmS j3) (pos:=xE j3) (T:=X.T7) (qual:=zbL) (cl:=cl7 (s.heap.objs.size+3) (s.heap.objs.size+2)) hB rfl hc rfl)))))))),?_⟩
 have sl:=zO;obtain⟨pa,ps,hp,hpa,hps,hA⟩:∃pa ps,H p=some (.tup [.str "case",.str x,.ref pa])/\H pa=some (.tup (ps.map V.ref))/\0 < ps.length/\IsA H as ps:=by
  cases hb with
  |case a b c d=>exact⟨_,_,a,b,c,d⟩
 have hus:UsA as:=by have:=hb.us;unfold UsB at this;exact this
 have hok:OkA X as:=hS.ok;obtain⟨ws,⟨qn,lnn,rfl,hqn,hRn,hlnn⟩,hNa⟩:=id hN;have hNs:=IsNA.ways.mp hNa;unfold IsNs at hNs;rw[Wr]at hNs;have hal:=hA.al;have pl1:=hal.len;have wl1:=hNs.len;rw[ua]at wl1;have asz:=zbN as;have hbs:=hS.sz;rw[Bd.sz]at hbs;have hmz:=hS.mz;rw[Bd.sz]at hmz;have hnb:=hS.nb;rw[Bd.binds]at hnb;refine cutE fun D_ hD_=>?_;refine zbA fun r1_ hr1_=>?_;refine(zg rfl ⟨pl,X.cL,dxl,_,_,rfl,hpl,L.cl,L.a1,rfl,sN0,fun lm hlm=>⟨sN0,fun lw hlw=>?_⟩⟩);have s1:Same H (upd (upd H lm (.lst [])) lw (.lst [])):=(zo hlm _).new hlw;have flw:H lw=none:=(zo hlm (.lst [])).free hlw;have nmw:lm≠lw:=zi uX9 hlw;have hlm1:=old (o:=.lst []) hlw (uX9 (H:=H) (a:=lm) (o:=.lst []));have hlw1:=uX9 (H:=upd H lm (.lst [])) (a:=lw) (o:=.lst []);generalize upd (upd H lm (.lst [])) lw (.lst [])=H1 at *;have nRm:¬ R lm:=fun z=>hRd _ z hlm;have nRw:¬ R lw:=fun z=>hRd _ z flw;show r1_ D_ _ H1;subst hr1_;refine Yo fun r2_ hr2_=>?_;refine(zg rfl (ixT (s1 _ _ hp) aI2 (zg rfl ⟨pl,X.cL,dxl,_,_,rfl,s1 _ _ hpl,L.cl,L.a2,rfl,ixT (s1 _ _ hqn) aI1 ⟨pa,lnn,false,true,_,_,rfl,SqK.t (s1 _ _ hpa),SqK.l (s1 _ _ hlnn),vk (xs:=ps.map V.ref) (ys:=ws) (by rw[ua];lia) (fun i σ H'=>(∃a n t u,σ=[some (.ref X.pu),sR pl,sR p,sR lm,sR lw,a,n,t,u])/\Same H H'/\H' lm=some (.lst ((as.al.take i).map fun a=>V.str (yG (tkB X.ns x r a.2.2))))/\∃(vs:List V)(R':Addr->Prop),H' lw=some (.lst vs)/\(∀b,R b->R' b)/\(∀b,R' b->R b\/H b=none)/\(∀b,R' b->H' b≠none)/\¬ R' lm/\¬ R' lw/\All2 (ITk X H' R') ((kA X.ns X.ow x r as m).take i) vs) ⟨⟨none,none,none,none,rfl⟩,s1,hlm1,[],R,hlw1,fun _ z=>z,fun _ z=>.inl z,fun b z=>?_,nRm,nRw,.nil⟩ (fun i σ H' _ h=>⟨SqK.t (h.2.1 _ _ hpa),SqK.l (h.2.1 _ _ hlnn)⟩) ?_ ?_⟩⟩)))
 ·cases e:H b with
  |none=>exact absurd e (hRd b z)
  |some u=>rw[s1 b u e];simp
 ·rintro i v1 nv T σ H2 hv1 hv2 hT ⟨⟨a0,n0,t0,u0,rfl⟩,s2,hlm2,vs,R',hlw2,sub,new,pre,nRm',nRw',hk⟩
  obtain⟨p0,hp0,rfl⟩:=L2.gM hv1;obtain⟨a,ha,q0,r0,g1,g2,g3⟩:=hal.get hp0;obtain⟨a',ha',hNi⟩:=hNs.get hv2;have ea:a'=a.2:=by rw[ug,ha]at ha';exact(uZ.inj ha').symm
  subst ea;obtain⟨mi,k1,k2,k3,k4,k5,k6⟩:=J6 X x r as m i a ha hus hok;have s3:=s2.new (o:=.tup [.ref p0,nv]) hT;refine⟨T,(zg rfl ⟨SqT.of uX9,rfl,_,_,rfl,_,_,rfl,rfl,?_⟩)⟩;have hk3:All2 (ITk X (upd H2 T (.tup [.ref p0,nv])) R') ((kA X.ns X.ow x r as m).take i) vs:=hk.imp fun _ _ h=>⟨h.1,ITp.keep h.2 (hP.same s2) (fun b u e _ _=>old hT e) fun _ z=>z⟩;have pre3:∀b,R' b->upd H2 T (.tup [.ref p0,nv]) b≠none:=fun b z=>by
   cases e:H2 b with
   |none=>exact absurd e (pre b z)
   |some u=>rw[old hT e];simp
  have hlm3:=old (o:=.tup [.ref p0,nv]) hT hlm2;have hlw3:=old (o:=.tup [.ref p0,nv]) hT hlw2;dsimp only
  generalize upd H2 T (.tup [.ref p0,nv])=H3 at *;have hP3:=hP.same s3;refine Jd fun E_ hE_=>?_;refine zdi (zdh (c:=decide (x∈r)) (c2:=!ahB X.ns a.2.2 x) (fun Q' h=>(zg rfl (ixT (s3 _ _ hp) aI1 (zg rfl ⟨pl,X.cL,dxl,_,_,rfl,s3 _ _ hpl,L.cl,L.a3,rfl,ln,(zg rfl ⟨.inl (SqL.of (s3 _ _ hln)),rfl,xD r,?_⟩)⟩)))) (fun c Q' h=>(zg rfl ⟨X.pu,X.dx,(zg rfl ⟨hP3.o,rfl,(zg rfl (ixT (s3 _ _ hp) aI1 (zg rfl ⟨X.pu,X.dx,X.od,X.bd,x,m,a.2.2.mk X.ns,nv,X.ns,rfl,hP3.o,hP3.b,hS.ln x (of_decide_eq_true c),hNi.nt.keep (.of s3),(zg rfl (h))⟩)))⟩)⟩)) ?_)
  ·rw[if_neg (show ¬ (false=true) by decide),inVs]
   exact h
  change tSeq _ _ _ _ _
  have etk:(decide (x∈r) && !ahB X.ns a.2.2 x)=tkB X.ns x r a.2.2:=rfl;rw[etk];generalize htk:tkB X.ns x r a.2.2=tk at *;have il:=(ud.mp ha).1;refine zaY (zdj (i:=3) (j:=7) (c:=tk) rfl rfl hlm3 (by rw[ua,uq];lia) ?_);have emo:((as.al.take i).map fun a=>V.str (yG (tkB X.ns x r a.2.2)))++[if tk then V.str "take"else V.str "look"]=(as.al.take (i+1)).map fun a=>V.str (yG (tkB X.ns x r a.2.2)):=by
   rw[uD,ha,ut];show _=_++[V.str (yG (tkB X.ns x r a.2.2))];rw[htk];cases tk<;>rfl
  rw[emo];have s4:=s3.put (o:=.lst ((as.al.take (i+1)).map fun a=>V.str (yG (tkB X.ns x r a.2.2)))) hlm;have hlm4:=uX9 (H:=H3) (a:=lm) (o:=.lst ((as.al.take (i+1)).map fun a=>V.str (yG (tkB X.ns x r a.2.2))));have hlw4:upd H3 lm (.lst ((as.al.take (i+1)).map fun a=>V.str (yG (tkB X.ns x r a.2.2)))) lw=some (.lst vs):=by rw[zj nmw.symm];exact hlw3
  have hk4:All2 (ITk X (upd H3 lm (.lst ((as.al.take (i+1)).map fun a=>V.str (yG (tkB X.ns x r a.2.2))))) R') ((kA X.ns X.ow x r as m).take i) vs:=hk3.imp fun _ _ h=>⟨h.1,ITp.keep h.2 hP3 (fun b u e _ hl=>by
   by_cases z:b=lm
   ·rw[z,hlm3]at e
    exact absurd (z ▸ hl _ (uZ.inj e).symm) nRm'
   ·rw[zj z];exact e) fun _ z=>z⟩
  have pre4:∀b,R' b->upd H3 lm (.lst ((as.al.take (i+1)).map fun a=>V.str (yG (tkB X.ns x r a.2.2)))) b≠none:=fun b z=>by
   have nb:b≠lm:=fun y=>nRm' (by rw[<- y];exact z);rw[zj nb];exact pre3 b z
  generalize upd H3 lm (.lst ((as.al.take (i+1)).map fun a=>V.str (yG (tkB X.ns x r a.2.2))))=H4 at *;have hP4:=hP.same s4;have hrl:r.length<=2000000:=uI (UP _ _) hS.nb;refine(zg rfl ⟨pl,X.cL,dxl,_,_,rfl,s4 _ _ hpl,L.cl,L.a3,rfl,ln,rfl,⟨_,SqL.of (s4 _ _ hln)⟩,ym (xs:=r.map V.str) (fun j τ zs H'=>H4=H'/\(∃u,τ=[some (.ref X.pu),sR pl,sR p,sR lm,sR lw,sR p0,some nv,some (.bl tk),u0,u])/\zs=((r.take j).filter fun y=>!tk || decide (y≠x)).map V.str) ⟨rfl,⟨none,rfl⟩,rfl⟩ (fun j τ zs H' _ h=>SqL.of (h.1 ▸ s4 _ _ hln)) ?_ ?_⟩)
  ·rintro j v τ zs H5 hv ⟨rfl,⟨u,rfl⟩,rfl⟩
   obtain⟨y,hy,rfl⟩:=L2.gM hv;rw[y0 hy];have hfl:(((r.take j).filter fun y=>!tk || decide (y≠x)).map V.str).length < sizeLine:=by
    rw[ua];refine uQ (um _ _) ?_;rw[uq];lia
   refine(zq rfl rfl ?_);cases tk
   ·exact iteT (iteT (zg rfl ⟨hfl,rfl,⟨_,rfl⟩,rfl⟩))
   ·refine iteF (zq rfl rfl (ixT (s4 _ _ hp) aI1 ⟨rfl,(zg rfl ?_)⟩))
    by_cases c2:y=x
    ·rw[c2,decide_eq_true rfl]
     exact iteF ⟨rfl,⟨_,rfl⟩,by simp⟩
    ·rw[decide_eq_false (fun z=>c2 (V.str.inj z))]
     exact iteT (zg rfl ⟨hfl,rfl,⟨_,rfl⟩,by simp[c2]⟩)
  rintro τ zs H5 ⟨rfl,_,rfl⟩ l5 h5;rw[ua,Uj];have s5:=zo (o:=.lst ((r.filter fun y=>!tk || decide (y≠x)).map V.str)) h5;have s05:=s4.trans s5;refine(zg rfl ⟨.inl ⟨rfl,_,SqL.of (s5 _ _ hlw4)⟩,(zg rfl (ixT (s05 _ _ g1) aI2 (zq rfl rfl (zg rfl (ixT (s05 _ _ g1) aI1 ⟨q0,(zg rfl ⟨.inr (SqT.of (s05 _ _ g2)),fun l6 h6=>⟨l5,l6,(zC rfl rfl ⟨old h6 uX9,uX9,?_,fun l7 h7=>?_⟩)⟩⟩)⟩)))))⟩)
  ·rw[ua,ua]
   have:=um (fun y=>!tk || decide (y≠x)) r
   lia
  have e7:((r.filter fun y=>!tk || decide (y≠x)).map V.str)++a.2.1.map V.str=(stA tk x r a.2.1).map V.str:=by unfold stA;rw[ut]
  rw[e7];have s7:Same H4 (upd (upd (upd H4 l5 (.lst ((r.filter fun y=>!tk || decide (y≠x)).map V.str))) l6 (.lst (a.2.1.map V.str))) l7 (.lst ((stA tk x r a.2.1).map V.str))):=(s5.new h6).new h7;have n7:H4 l7=none:=(s5.new h6).free h7;have hl7:=uX9 (H:=upd (upd H4 l5 (.lst ((r.filter fun y=>!tk || decide (y≠x)).map V.str))) l6 (.lst (a.2.1.map V.str))) (a:=l7) (o:=.lst ((stA tk x r a.2.1).map V.str));generalize upd (upd (upd H4 l5 (.lst ((r.filter fun y=>!tk || decide (y≠x)).map V.str))) l6 (.lst (a.2.1.map V.str))) l7 (.lst ((stA tk x r a.2.1).map V.str))=H7 at *;intro pk dk hpk hdk npk;refine⟨pk,dk,.ref r0,nv,.ref l7,rfl,uX9,fun H8 k8 h8=>⟨rfl,?_⟩⟩;have s78:Same H7 H8:=fun b u e=>k8 b u (zi e hpk) (by rw[zj (zi e hpk),zj (zi e hdk)];exact e);have s48:=s7.trans s78;have hkl:=hk4.len;rw[uq]at hkl;refine⟨lw,(zC rfl rfl ⟨s48 _ _ hlw4,by lia,?_⟩)⟩;have n7m:l7≠lm:=fun z=>by rw[z,hlm4]at n7;cases n7
  have n7w:l7≠lw:=fun z=>by rw[z,hlw4]at n7;cases n7
  have npw:pk≠lw:=fun z=>by rw[z,s7 _ _ hlw4]at hpk;cases hpk
  have f7:H l7=none:=s4.free n7;have s9:Same H (upd H8 lw (.lst (vs++[.ref pk]))):=(s4.trans s48).put flw;have hl79:upd H8 lw (.lst (vs++[.ref pk])) l7=some (.lst ((stA tk x r a.2.1).map V.str)):=by rw[zj n7w];exact s78 _ _ hl7
  have hpk9:upd H8 lw (.lst (vs++[.ref pk])) pk=some (LO X.cL dk (.ref r0) nv (.ref l7)):=by rw[zj npw];exact h8
  subst hE_;refine⟨⟨_,_,_,_,rfl⟩,s9,by rw[zj nmw];exact s48 _ _ hlm4,vs++[.ref pk],fun b=>R' b\/b=l7,uX9,fun b z=>.inl (sub b z),?_,?_,?_,?_,?_⟩
  ·rintro b (z|rfl)
   ·exact new b z
   ·exact .inr f7
  ·rintro b (z|rfl)
   ·have nb:b≠lw:=fun y=>nRw' (by rw[<- y];exact z)
    rw[zj nb];cases e:H4 b with
    |none=>exact absurd e (pre4 b z)
    |some u=>rw[s48 _ _ e];simp
   ·rw[hl79];simp
  ·rintro(z|z)
   ·exact nRm' z
   ·exact n7m z.symm
  ·rintro(z|z)
   ·exact nRw' z
   ·exact n7w z.symm
  ·rw[uD,k1]
   refine All2.app (hk4.imp fun _ _ h=>⟨h.1,ITp.keep h.2 hP4 (fun b u e _ hl=>?_) fun _ z=>.inl z⟩) (.cons ⟨⟨fun y hy=>?_,k5,?_,?_,?_⟩,pk,dk,r0,l7,nv,rfl,hpk9,g3.keep (.of s9),hNi.keep ⟨.of s9,fun a xs _ e=>s9 _ _ e,fun b z=>.inl (sub b z)⟩,hl79,.inr rfl⟩ .nil)
   ·by_cases z:b=lw
    ·rw[z,hlw4]at e
     exact absurd (z ▸ hl _ (uZ.inj e).symm) nRw'
    ·rw[zj z];exact s48 _ _ e
   ·unfold stA at hy
    rcases uy.mp hy with hy|hy
    ·exact hS.ln y (uW.mp hy).1
    ·exact k6 y hy
   ·show mi+41*a.2.2.sz<=LIMT
    lia
   ·show a.2.2.sz<=400000
    lia
   ·show(stA tk x r a.2.1).length+a.2.2.binds.length<=2000000
    unfold stA
    have:=um (fun y=>!tk || decide (y≠x)) r
    rw[uf];lia
 rintro σ H2 ⟨⟨a0,n0,t0,u0,rfl⟩,s2,hlm2,vs,R',hlw2,sub,new,pre,nRm',nRw',hk⟩;have el:as.al.take (ps.map V.ref).length=as.al:=ur (by rw[ua];lia);have el2:(kA X.ns X.ow x r as m).take (ps.map V.ref).length=kA X.ns X.ow x r as m:=ur (by rw[XM,ua];lia);rw[el]at hlm2;rw[el2]at hk;have hP2:=hP.same s2;show r2_ D_ _ H2;subst hr2_;refine(zg rfl (yQ hP2.t7 (by unfold ls7;exact .head _) (fun p hp _=>by unfold ls7 at hp;rw[uo.mp hp]) fun H3 fl cc ct k3 T3 hfl nfT ncT hfl3 hcc=>⟨sN2,fun rr hrr=>?_⟩));have k18:KM (·=X.T7) H2 (upd H3 rr (.tup [.ref lw,.ref fl])):=fun b u n e=>old hrr (k3 b u n e);have hP18:=hP2.tb7 x0 k18 (T3.same (zo hrr _));have hr18:=uX9 (H:=H3) (a:=rr) (o:=.tup [.ref lw,.ref fl]);have hf18:=old (o:=.tup [.ref lw,.ref fl]) hrr hfl3;have hc18:=old (o:=.tup [.ref lw,.ref fl]) hrr hcc;generalize upd H3 rr (.tup [.ref lw,.ref fl])=H18 at *;subst hD_;refine⟨[(s.heap.objs.size+3,.ref lm),(s.heap.objs.size+2,.ref p)],fun x hx=>?_,fun H19 pb1=>?_⟩
 ·simp only[uk,Up,or_false]at hx
  rcases hx with rfl|rfl
  ·exact⟨3,"modes",rfl,rfl,rfl,.inl rfl⟩
  ·exact⟨2,"body",rfl,rfl,rfl,.inl rfl⟩
 have s19:=Pub.same pb1;have hP19:=hP18.same s19;have k2':KM X.M H2 H19:=fun b u n e=>s19 _ _ (k18 b u (fun z=>n (.inr (.inr (.inr (.inr z))))) e);have k019:KM X.M H H19:=(KM.of s2).trans k2';have t019:=hP.tups k019;have hlm19:=k2' _ _ (hP2.noL hlm2) hlm2;have hlw19:=k2' _ _ (hP2.noL hlw2) hlw2;refine q H19 rr lw fl vs (fun b=>R' b\/b=lw\/b=lm) k019 hP19 (s19 _ _ hr18) flw hlw19 (fun b z=>.inl (sub b z)) ?_ ?_ (.inr (.inl rfl)) ?_ ⟨_,s19 _ _ hf18⟩ ?_
 ·rintro b (z|rfl|rfl)
  ·exact new b z
  ·exact .inr flw
  ·exact .inr hlm
 ·rintro b (z|rfl|rfl)
  ·cases e:H2 b with
   |none=>exact absurd e (pre b z)
   |some u =>
    rcases new b z with y|y
    ·rw[k2' b u (hRM b y) e];simp
    ·rw[k2' b u (fun y'=>hP.ne y' y) e];simp
  ·rw[hlw19];simp
  ·rw[hlm19];simp
 ·rw[kP]
  exact hk.imp fun _ _ h=>⟨h.1,ITp.keep h.2 hP2 (fun b u e n _=>k2' b u n e) fun _ z=>.inl z⟩
 ·intro H' R2 z sub2 rl rs Q2 hrl hcs q2
  rw[kP]at hcs;rw[pcP,zbI]at q2;have g:∀{b:Addr}{u:HO},H19 b=some u->(∀ps,u≠.tbl ps)->(∀C dx fs,u≠.ins C dx fs)->(∀xs,u≠.lst xs)->H' b=some u:=fun{b u} e n1 n2 n3=>z b u e (hP19.no e n1 fun k=>by unfold PO;exact n2 _ _ _) fun xs y=>absurd y (n3 xs);have tz:Tups H19 H':=fun b xs e=>g e (by intro _ z;cases z) (by intro _ _ _ z;cases z) (by intro _ z;cases z);have cel:∀{c:Addr}{v:V},Cel H19 c v->Cel H' c v:=fun⟨o,e⟩=>⟨o,g e (by intro _ z;cases z) (by intro _ _ _ z;cases z) (by intro _ z;cases z)⟩;have C:Clo H' (cl7 (s.heap.objs.size+3) (s.heap.objs.size+2)) ["modes","body"] [.ref lm,.ref p]:=by
   refine x9 (cl:=[("modes",s.heap.objs.size+3),("body",s.heap.objs.size+2)]) (by show(["modes","body"]:lS).Nodup;decide +kernel) (by simp) rfl fun i p v e1 e2=>?_
   match i,e1,e2 with
   |0,e1,e2=>cases e1;cases e2;exact cel (pb1.cel (_,_) (.head _))
   |1,e1,e2=>cases e1;cases e2;exact cel (pb1.cel (_,_) (.tail _ (.head _)))
   |i+2,e1,_=>simp at e1
  have hcA:∀a∈(cl7 (s.heap.objs.size+3) (s.heap.objs.size+2)).map (·.2),∃v,Cel H' a v:=fun a ha=>by
   obtain⟨p,hp,rfl⟩:=uu.mp ha;exact C.all p hp
  have tp:=(t019.trans tz).trans (yj hcA);have ml:∀{b:Addr}{xs:List V},H' b=some (.lst xs)->z7 H' ((cl7 (s.heap.objs.size+3) (s.heap.objs.size+2)).map (·.2)) b=some (.lst xs):=fun e=>zJ hcA e (by intro _ _ _ z;cases z);have hlmz:=z _ _ hlm19 (hP19.noL hlm19) (fun _ _=>.inr (.inr rfl));refine x8 (k:=1) zdk (.all (us1 fun _=>rfl)) (g (s19 _ _ hf18) (by intro _ z;unfold FunO at z;cases z) (by intro _ _ _ z;unfold FunO at z;cases z) (by intro _ z;unfold FunO at z;cases z)) (g (s19 _ _ hc18) (by intro _ z;unfold CodO at z;cases z) (by intro _ _ _ z;unfold CodO at z;cases z) (by intro _ z;unfold CodO at z;cases z)) C fun A2 outer2 s2 hr2=>?_;refine⟨_,zB (jA3 zw (zn K (jv 2)) (cA GH hr2 (jA3 (zn K (jv 2)) (jv 1) (jv 0)))),?_⟩;refine(zg rfl (ixT (tp _ _ hp) aI1 (zg rfl (ixT (tp _ _ hp) aI2 (zq rfl rfl ⟨pa,lm,rl,as,ps,as.al.map fun a=>tkB X.ns x r a.2.2,(kA X.ns X.ow x r as m).map (Pk.code X.ns X.ow),rs,rfl,tp _ _ hpa,hA.keep tp,?_,ml hrl,hcs.imp fun _ _ h=>h.keep (yj hcA),by rw[ua],by rw[ua,XM],by lia,fun H5 q5 zs s5 hq5 hz5=>⟨sN3,fun tl htl hnn=>?_⟩⟩)))))
  ·rw[UB]
   exact ml hlmz
  have sm:=zo (o:=.tup [.str "case",.str x,.ref q5]) htl;refine q2 _ _ (xa (s5.trans sm)) (IsHc.keep (fun b xs e=>yS hnn e) ?_);exact⟨tl,q5,zs,rfl,uX9,sm _ _ hq5,hz5.keep (.of sm)⟩
def cl5(c1:Addr):List (Str×Addr):=[("body",c1)]
def cl8(c1:Addr):List (Str×Addr):=[("spending",c1)]
theorem zdl:LamScope ["results","body"] ["results"] ["body"] (lmS jX):=⟨rfl,rfl,rfl,by decide +kernel,rfl,by decide +kernel,by decide +kernel,by decide +kernel,by decide +kernel⟩
theorem zdm:LamScope ["results","spending"] ["results"] ["spending"] (lmS jY):=⟨rfl,rfl,rfl,by decide +kernel,rfl,by decide +kernel,by decide +kernel,by decide +kernel,by decide +kernel⟩
theorem Pub.nil{H3:Hp}(h:Pub H H3 []):H3=H:=funext fun b=>h.old b (by simp)
theorem scBegPiece:FnScope ["putter","place","body","within","spending"] lS3 (zp xu):=.ok
theorem jd:(["putter","place","body","within","spending","way","note"]:lS).Nodup:=by decide +kernel
theorem YN(F:FunC K "begun_piece" xu c f fd)(hB:BMn mg base)(hc:Ub K c X.T5=true)(x0:XOk X)(N:Pn K X.cP)(L:Ln K X.cL)(GLt:Ca P w K mg base CX0 3 "begun_let" lS3 (spBeg P w K mg base 2 X fun b=>∃x d b',b=.lt x d b'))(GCs:Ca P w K mg base CX0 3 "begun_case" lS3 (spBeg P w K mg base 2 X fun b=>∃x as,b=.case x as))(GS:Me P w K mg base CX0 2 X.cP "spent" lS24 (spSpent X.cP))(GL:Ma P w K mg base CX0 1 "Place" X.cL lS7 (spPlInit X.cL))(GW:Ca P w K mg base CX0 1 "with_holds" ["pairs","body"] spHolds)(m_zip:mg "zip"=none)(m_tuple:mg "tuple"=none):FnOk P w K mg base CX0 4 f fd lS3 (spBeg P w K mg base 2 X fun _=>True):=by
 refine F.byR scBegPiece (fun vs H Q E h=>?_) (fun A outer s H vs Q E hr h fresh=>?_)
 ·obtain⟨pl,dxl,p,ln,vn,b,r,m,R,rfl,_⟩:=h
  rfl
 obtain⟨pl,dxl,p,ln,vn,b0,r,m,R,rfl,_,hpl,hb,hN,hln,hRl,hS,hP,hRd,hRM,q⟩:=h;have hr2:Room 2 _:=hr.mono (by decide);refine⟨_,
  (zW (sE 2 scBegPiece.nd (zK K (jv 1)))
  (V8 (tN zI (zn K (jv 2)) zw) (xO (cA GLt hr (jA2 (jv 0) (jv 1))))
  (V8 (tN zI (zn K (jv 2)) zw) (xO (cA GCs hr (jA2 (jv 0) (jv 1))))
  (V8 (tN zI (zn K (jv 2)) zw)
   (zW (yx ["way","note"] (i:=3) scBegPiece.nd rfl (Or.inl rfl) rfl (yI K rfl m_zip (jA2 (yL wO (jv 2) (yX zt) yW) (zn K (zK K (jv 1))))) (fun _ _ _ _ _=>(zN K (n:=2) rfl (zu (gN 5 jd) (zu (gN 6 jd) zM)))) (fun _ _ _ _ _=>yn) (fun _ _ _ _ _=>(ve GL hr2 rfl yJ (jA3 (jv 5) (jv 6) (zK K (jv 1))))))
   (xO (zB (jA2 (jv 3) (xl (params:=lmP jX) (body:=lmB jX) (scope:=lmS jX) (pos:=xE jX) (T:=X.T5) (qual:=Wp) (cl:=cl5 (s.heap.objs.size+2)) hB rfl hc rfl)))))
  (zW (sE 4 scBegPiece.nd (vM (jv 0) N.cl GS hr2 yJ (jA2 (zD (jA1 (zn K (jv 2)))) (zK K (jv 1)))))
  (xO (zB (jA2 (zD zL) (xl (params:=lmP jY) (body:=lmB jY) (scope:=lmS jY) (pos:=xE jY) (T:=X.T5) (qual:=Wp) (cl:=cl8 (s.heap.objs.size+3)) hB rfl hc rfl))))))))),?_⟩
 have sl:=zO;refine(zg rfl ⟨pl,X.cL,dxl,_,_,rfl,hpl,L.cl,L.a1,rfl,?_⟩);cases b0 with
 |lt x d b =>
  obtain⟨pd,pb,hp⟩:∃pd pb,H p=some (.tup [.str "let",.str x,.ref pd,.ref pb]):=by cases hb with|lt a _ _=>exact⟨_,_,a⟩
  refine(zg rfl (ixT hp aI0 ⟨rfl,(zg rfl (iteT ?_))⟩));exact(zq rfl rfl ⟨pl,dxl,p,ln,vn,_,r,m,R,rfl,⟨x,d,b,rfl⟩,hpl,hb,hN,hln,hRl,hS,hP,hRd,hRM,fun H' qq l fl vs R' a1 a2 a3 a4 a5 a6 a7 a8 a9 a10 a11 a12=>⟨[],(fun _ h=>by cases h),fun H3 pb=>by rw[Pub.nil pb];exact q H' qq l fl vs R' a1 a2 a3 a4 a5 a6 a7 a8 a9 a10 a11 a12⟩⟩)
 |case x as =>
  obtain⟨pa,hp⟩:∃pa,H p=some (.tup [.str "case",.str x,.ref pa]):=by cases hb with|case a _ _ _=>exact⟨_,a⟩
  refine(zg rfl (ixT hp aI0 ⟨rfl,(zg rfl (iteF ?_))⟩));refine(zg rfl (ixT hp aI0 ⟨rfl,(zg rfl (iteT ?_))⟩));exact(zq rfl rfl ⟨pl,dxl,p,ln,vn,_,r,m,R,rfl,⟨x,as,rfl⟩,hpl,hb,hN,hln,hRl,hS,hP,hRd,hRM,fun H' qq l fl vs R' a1 a2 a3 a4 a5 a6 a7 a8 a9 a10 a11 a12=>⟨[],(fun _ h=>by cases h),fun H3 pb=>by rw[Pub.nil pb];exact q H' qq l fl vs R' a1 a2 a3 a4 a5 a6 a7 a8 a9 a10 a11 a12⟩⟩)
 |iff x a b =>
  obtain⟨pa,pb,hp,ha,hb2⟩:∃pa pb,H p=some (.tup [.str "if",.str x,.ref pa,.ref pb])/\IsB H a pa/\IsB H b pb:=by cases hb with|iff u v w=>exact⟨_,_,u,v,w⟩
  obtain⟨wa,wb,⟨qn,lnn,rfl,hqn,hRn,hlnn⟩,hNa,hNb⟩:=id hN;have hok:OkB X a/\OkB X b:=hS.ok;have hmz:=hS.mz;rw[Bd.sz]at hmz;have hbs:=hS.sz;rw[Bd.sz]at hbs;have hnb:=hS.nb;rw[Bd.binds,uf]at hnb;have hle:=j4 X.ns X.ow a r m ha.us;refine(zg rfl (ixT hp aI0 ⟨rfl,(zg rfl (iteF ?_))⟩));refine(zg rfl (ixT hp aI0 ⟨rfl,(zg rfl (iteF ?_))⟩));refine(zg rfl (ixT hp aI0 ⟨rfl,(zg rfl (iteT ?_))⟩));have hkid:∀(i:Nat)(v1 v2:V),[V.ref pa,V.ref pb][i]?=some v1->[wa,wb][i]?=some v2->∃(t:Pk)(pk:Addr),(kP X.ns X.ow (.iff x a b) r m)[i]?=some t/\v1=.ref pk/\t.l=r/\IsB H t.b pk/\IsN X.ns H R t.b v2/\Side X t.b r t.m:=fun i v1 v2 g1 g2=>by
   match i,g1,g2 with
   |0,g1,g2 =>
    cases g1;cases g2;exact⟨⟨a,r,m⟩,pa,rfl,rfl,rfl,ha,hNa,hS.ln,hok.1,(by show m+41*a.sz<=LIMT;lia),(by show a.sz<=400000;lia),(by show r.length+a.binds.length<=2000000;lia)⟩
   |1,g1,g2 =>
    cases g1;cases g2;exact⟨⟨b,r,(GN.hB X.ns X.ow a r m).2⟩,pb,rfl,rfl,rfl,hb2,hNb,hS.ln,hok.2,(by show(GN.hB X.ns X.ow a r m).2+41*b.sz<=LIMT;lia),(by show b.sz<=400000;lia),(by show r.length+b.binds.length<=2000000;lia)⟩
   |i+2,g1,_=>simp at g1
  refine(zg rfl ⟨2,rfl,p,(zg rfl ⟨hp,fun p3 H1 s1 h3=>?_⟩)⟩);have s1:Same H H1:=s1;have h3:H1 p3=some (.tup [.ref pa,.ref pb]):=h3;refine(zg rfl ⟨pl,X.cL,dxl,_,_,rfl,s1 _ _ hpl,L.cl,L.a2,rfl,ixT (s1 _ _ hqn) aI1 ⟨p3,lnn,false,true,_,_,rfl,SqK.t h3,SqK.l (s1 _ _ hlnn),xP (xs:=[.ref pa,.ref pb]) (ys:=[wa,wb]) rfl (fun j τ zs H'=>Same H1 H'/\(∃u v,τ=[some (.ref X.pu),sR pl,sR p,none,none,u,v])/\All2 (ITk X H' R) ((kP X.ns X.ow (.iff x a b) r m).take j) zs) ⟨Same.refl _,⟨none,none,rfl⟩,.nil⟩ (fun j τ zs H' _ h=>⟨SqK.t (h.1 _ _ h3),SqK.l (h.1 _ _ (s1 _ _ hlnn))⟩) ?_ ?_⟩⟩)
  ·rintro i v1 v2 T τ zs H3 g1 g2 hT ⟨s3,⟨u,v,rfl⟩,hk⟩
   obtain⟨t,pk0,k1,rfl,k2,k3,k4,k5⟩:=hkid i v1 v2 g1 g2;have hkl:=hk.len;rw[uq]at hkl;have hil:i < 2:=(ud.mp g1).1;have s4:=s3.new (o:=.tup [.ref pk0,v2]) hT;have s34:=zo (o:=.tup [.ref pk0,v2]) hT;refine⟨T,(zg rfl ⟨SqT.of uX9,rfl,_,_,rfl,_,_,rfl,rfl,?_⟩)⟩;generalize upd H3 T (.tup [.ref pk0,v2])=H4 at *;have s04:=s1.trans s4;refine(zq rfl rfl (zg rfl ⟨pl,X.cL,dxl,_,_,rfl,s04 _ _ hpl,L.cl,L.a3,rfl,fun pk dk hpk hdk npk=>⟨pk,dk,.ref pk0,v2,.ref ln,rfl,uX9,fun H8 k8 h8=>⟨rfl,by lia,?_⟩⟩⟩));have s48:Same H4 H8:=fun b u e=>k8 b u (zi e hpk) (by rw[zj (zi e hpk),zj (zi e hdk)];exact e);have s08:=s04.trans s48;refine⟨s4.trans s48,⟨_,_,rfl⟩,?_⟩;rw[uD,k1];refine All2.app (hk.imp fun _ _ h=>⟨h.1,ITp.keep h.2 (hP.same (s1.trans s3)) (fun b u e _ _=>s48 _ _ (s34 _ _ e)) fun _ z=>z⟩) (.cons ⟨by rw[k2];exact k5,pk,dk,pk0,ln,v2,rfl,h8,k3.keep (.of s08),k4.keep ⟨.of s08,fun a xs _ e=>s08 _ _ e,fun _ z=>z⟩,by rw[k2];exact s08 _ _ hln,hRl⟩ .nil)
  rintro τ zs H5 ⟨s5,_,hk⟩ l5 h5;have hk:All2 (ITk X H5 R) (kP X.ns X.ow (.iff x a b) r m) zs:=hk;have s05:=s1.trans s5;have f5:H l5=none:=s05.free h5;have s6:=s05.new (o:=.lst zs) h5;have hl5:=uX9 (H:=H5) (a:=l5) (o:=.lst zs);have hk6:All2 (ITk X (upd H5 l5 (.lst zs)) R) (kP X.ns X.ow (.iff x a b) r m) zs:=hk.imp fun _ _ h=>⟨h.1,ITp.keep h.2 (hP.same s05) (fun b u e _ _=>old h5 e) fun _ z=>z⟩;generalize upd H5 l5 (.lst zs)=H6 at *;have hP6:=hP.same s6;refine(zg rfl (yQ hP6.t5 (by unfold ls5;exact .head _) (fun p hp _=>by unfold ls5 at hp;simp at hp;rcases hp with rfl|rfl<;>rfl) fun H7 fl cc ct k7 T7 hfl nfT ncT hfl7 hcc=>⟨sN2,fun rr hrr=>?_⟩));have k18:KM (·=X.T5) H6 (upd H7 rr (.tup [.ref l5,.ref fl])):=fun b u n e=>old hrr (k7 b u n e);have hP18:=hP6.tb5 x0 k18 (T7.same (zo hrr _));have hr18:=uX9 (H:=H7) (a:=rr) (o:=.tup [.ref l5,.ref fl]);have hf18:=old (o:=.tup [.ref l5,.ref fl]) hrr hfl7;have hc18:=old (o:=.tup [.ref l5,.ref fl]) hrr hcc;generalize upd H7 rr (.tup [.ref l5,.ref fl])=H18 at *;refine⟨[(s.heap.objs.size+2,.ref p)],fun x hx=>?_,fun H19 pb1=>?_⟩
  ·rw[uo.mp hx]
   exact⟨2,"body",rfl,rfl,rfl,.inl rfl⟩
  have s19:=Pub.same pb1;have hP19:=hP18.same s19;have k16:KM X.M H6 H19:=fun b u n e=>s19 _ _ (k18 b u (fun z=>n (.inr (.inr (.inl z)))) e);have k019:KM X.M H H19:=(KM.of s6).trans k16;have t019:=hP.tups k019;have hl519:=k16 _ _ (hP6.noL hl5) hl5;refine q H19 rr l5 fl zs (fun b=>R b\/b=l5) k019 hP19 (s19 _ _ hr18) f5 hl519 (fun _ z=>.inl z) ?_ ?_ (.inr rfl) (hk6.imp fun _ _ h=>⟨h.1,ITp.keep h.2 hP6 (fun b u e n _=>k16 b u n e) fun _ z=>.inl z⟩) ⟨_,s19 _ _ hf18⟩ ?_
  ·rintro b (z|rfl)
   ·exact .inl z
   ·exact .inr f5
  ·rintro b (z|rfl)
   ·cases e:H b with
    |none=>exact absurd e (hRd b z)
    |some u=>rw[k019 b u (hRM b z) e];simp
   ·rw[hl519];simp
  ·intro H' R2 z sub rl rs Q2 hrl hcs q2
   rw[kP]at hcs;rw[pcP]at q2;cases hcs with
   |@cons _ u1 _ _ hu1 hcs =>
   cases hcs with
   |@cons _ u2 _ _ hu2 hcs =>
   cases hcs;have g:∀{b:Addr}{u:HO},H19 b=some u->(∀ps,u≠.tbl ps)->(∀C dx fs,u≠.ins C dx fs)->(∀xs,u≠.lst xs)->H' b=some u:=fun{b u} e n1 n2 n3=>z b u e (hP19.no e n1 fun k=>by unfold PO;exact n2 _ _ _) fun xs y=>absurd y (n3 xs);have tz:Tups H19 H':=fun b xs e=>g e (by intro _ z;cases z) (by intro _ _ _ z;cases z) (by intro _ z;cases z);have C:Clo H' (cl5 (s.heap.objs.size+2)) ["body"] [.ref p]:=by
    refine x9 (cl:=[("body",s.heap.objs.size+2)]) (by show(["body"]:lS).Nodup;decide +kernel) (by simp) rfl fun i p v e1 e2=>?_
    match i,e1,e2 with
    |0,e1,e2 =>
     cases e1;cases e2;obtain⟨o,e⟩:=pb1.cel (_,_) (.head _);exact⟨o,g e (by intro _ z;cases z) (by intro _ _ _ z;cases z) (by intro _ z;cases z)⟩
    |i+1,e1,_=>simp at e1
   have hcA:∀a∈(cl5 (s.heap.objs.size+2)).map (·.2),∃v,Cel H' a v:=fun a ha=>by
    obtain⟨p,hp,rfl⟩:=uu.mp ha;exact C.all p hp
   have tp:=(t019.trans tz).trans (yj hcA);have ml:∀{b:Addr}{xs:List V},H' b=some (.lst xs)->z7 H' ((cl5 (s.heap.objs.size+2)).map (·.2)) b=some (.lst xs):=fun e=>zJ hcA e (by intro _ _ _ z;cases z);refine x8 (k:=1) zdl (.all (us1 fun _=>rfl)) (g (s19 _ _ hf18) (by intro _ z;unfold FunO at z;cases z) (by intro _ _ _ z;unfold FunO at z;cases z) (by intro _ z;unfold FunO at z;cases z)) (g (s19 _ _ hc18) (by intro _ z;unfold CodO at z;cases z) (by intro _ _ _ z;unfold CodO at z;cases z) (by intro _ z;unfold CodO at z;cases z)) C fun A2 outer2 s2 hr2=>?_;refine⟨_,zA wx (yL wO (jv 1) yW (yX zt)) (zS (zH K) rfl m_tuple uN (jA1 (jv 0))),?_⟩;refine(zg rfl ⟨2,rfl,p,(zg rfl ⟨tp _ _ hp,fun p4 H4 s4 h4=>(zg rfl ⟨rl,(zg rfl (.inl ⟨SqL.of (s4 _ _ (ml hrl)),fun t4 f4=>?_⟩))⟩)⟩)⟩);have s4:Same (z7 H' ((cl5 (s.heap.objs.size+2)).map (·.2))) H4:=s4;refine⟨p4,t4,[.str "if",.str x],(zg rfl ⟨rfl,SqT.of (old f4 h4),SqT.of uX9,(by intro z;cases z),sN4,(fun e=>by simp at e),fun _ pd fd' hnn=>?_⟩)⟩;have s6:=(s4.new (o:=.tup [u1,u2]) f4).new (o:=.tup ([.str "if",.str x]++[u1,u2])) fd';refine q2 _ _ (xa s6) (IsHc.keep (fun b xs e=>yS hnn e) ?_);exact⟨pd,u1,u2,rfl,uX9,hu1.keep ((yj hcA).trans (.of s6)),hu2.keep ((yj hcA).trans (.of s6))⟩
 |give x =>
  have hp:H p=some (.tup [.str "give",.str x]):=by cases hb with|give a=>exact a
  refine(zg rfl (ixT hp aI0 ⟨rfl,(zg rfl (iteF ?_))⟩));refine(zg rfl (ixT hp aI0 ⟨rfl,(zg rfl (iteF ?_))⟩));refine(zg rfl (ixT hp aI0 ⟨rfl,(zg rfl (iteF ?_))⟩));have hxn:x∈X.ns:=hS.ok;have hmz:=hS.mz;rw[Bd.sz]at hmz;refine(zg rfl ⟨X.pu,X.dx,(zg rfl ⟨hP.o,rfl,(zg rfl (ixT hp aI1 ⟨sN1,fun lx hlx=>?_⟩))⟩)⟩);have s1:=zo (o:=.lst [.str x]) hlx;refine(zg rfl ⟨pl,X.cL,dxl,_,_,rfl,s1 _ _ hpl,L.cl,L.a3,rfl,X.pu,X.dx,X.od,X.bd,lx,ln,[x],r,m,rfl,s1 _ _ hP.o,uX9,s1 _ _ hln,by show m+1<=LIMT;lia,by show 1<=100;decide,fun y hy=>?_,fun H9 t9 ls9 lp9 qs9 k9 o9 ht9 nls nlp hls9 hlp9 hal9=>?_⟩)
  ·rw[uo.mp hy];exact x0.sh _ hxn
  have hP1:=hP.same s1;generalize upd H lx (.lst [.str x])=H1 at *;have hP9:=hP1.cnt k9 o9;have k09:KM X.M H H9:=fun b u n e=>k9 b u (fun z=>n (.inl z)) (s1 _ _ e);have hsl:=yD r [x] m;generalize hSP:spn r [x] m=S at *;obtain⟨st,prs,m2⟩:=S;dsimp only at hsl o9 hls9 hlp9 hal9 hP9
  obtain⟨s0,rfl⟩:∃s0,st=[s0]:=List.length_eq_one_iff.mp hsl.1;refine⟨sN0,fun l16 h16=>?_⟩;have s16:=zo (o:=.lst []) h16;have hP16:=hP9.same s16;have hl16:=uX9 (H:=H9) (a:=l16) (o:=.lst []);generalize upd H9 l16 (.lst [])=H16 at *;refine yQ hP16.t5 (by unfold ls5;exact .tail _ (.head _)) (fun p hp _=>by unfold ls5 at hp;simp at hp;rcases hp with rfl|rfl<;>rfl) fun H17 fl cc ct k17 T17 hfl nfT ncT hfl17 hcc=>?_;refine⟨sN2,fun rr hrr=>?_⟩;have k18:KM (·=X.T5) H16 (upd H17 rr (.tup [.ref l16,.ref fl])):=fun b u n e=>old hrr (k17 b u n e);have hP18:=hP16.tb5 x0 k18 (T17.same (zo hrr _));have hr18:=uX9 (H:=H17) (a:=rr) (o:=.tup [.ref l16,.ref fl]);have hf18:=old (o:=.tup [.ref l16,.ref fl]) hrr hfl17;have hc18:=old (o:=.tup [.ref l16,.ref fl]) hrr hcc;generalize upd H17 rr (.tup [.ref l16,.ref fl])=H18 at *;refine⟨[(s.heap.objs.size+3,.ref t9)],fun x hx=>?_,fun H19 pb1=>?_⟩
  ·rw[uo.mp hx]
   exact⟨4,"spending",rfl,rfl,rfl,.inl rfl⟩
  have s19:=Pub.same pb1;have hP19:=hP18.same s19;have k16:KM X.M H16 H19:=fun b u n e=>s19 _ _ (k18 b u (fun z=>n (.inr (.inr (.inl z)))) e);have k9':KM X.M H9 H19:=(KM.of s16).trans k16;have k019:KM X.M H H19:=k09.trans k9';have t919:=hP9.tups k9';have f16:H l16=none:=k09.free (fun z=>hP9.ne z h16) h16;have fls:H ls9=none:=s1.free nls;have flp:H lp9=none:=s1.free nlp;have hls19:=k9' _ _ (hP9.noL hls9) hls9;have hlp19:=k9' _ _ (hP9.noL hlp9) hlp9;have hl1619:=k16 _ _ (hP16.noL hl16) hl16;refine q H19 rr l16 fl [] (fun b=>R b\/b=l16\/b=ls9\/b=lp9) k019 (by rw[midP,hSP];exact hP19) (s19 _ _ hr18) f16 hl1619 (fun _ z=>.inl z) ?_ ?_ (.inr (.inl rfl)) (by rw[kP];exact .nil) ⟨_,s19 _ _ hf18⟩ ?_
  ·rintro b (z|rfl|rfl|rfl)
   ·exact .inl z
   ·exact .inr f16
   ·exact .inr fls
   ·exact .inr flp
  ·rintro b (z|rfl|rfl|rfl)
   ·cases e:H b with
    |none=>exact absurd e (hRd b z)
    |some u=>rw[k019 b u (hRM b z) e];simp
   ·rw[hl1619];simp
   ·rw[hls19];simp
   ·rw[hlp19];simp
  ·intro H' R2 z sub rl rs Q2 hrl hcs q2
   rw[pcP,hSP]at q2;dsimp only at q2
   have g:∀{b:Addr}{u:HO},H19 b=some u->(∀ps,u≠.tbl ps)->(∀C dx fs,u≠.ins C dx fs)->(∀xs,u≠.lst xs)->H' b=some u:=fun{b u} e n1 n2 n3=>z b u e (hP19.no e n1 fun k=>by unfold PO;exact n2 _ _ _) fun xs y=>absurd y (n3 xs);have tz:Tups H19 H':=fun b xs e=>g e (by intro _ z;cases z) (by intro _ _ _ z;cases z) (by intro _ z;cases z);have C:Clo H' (cl8 (s.heap.objs.size+3)) ["spending"] [.ref t9]:=by
    refine x9 (cl:=[("spending",s.heap.objs.size+3)]) (by show(["spending"]:lS).Nodup;decide +kernel) (by simp) rfl fun i p v e1 e2=>?_
    match i,e1,e2 with
    |0,e1,e2 =>
     cases e1;cases e2;obtain⟨o,e⟩:=pb1.cel (_,_) (.head _);exact⟨o,g e (by intro _ z;cases z) (by intro _ _ _ z;cases z) (by intro _ z;cases z)⟩
    |i+1,e1,_=>simp at e1
   have hcA:∀a∈(cl8 (s.heap.objs.size+3)).map (·.2),∃v,Cel H' a v:=fun a ha=>by
    obtain⟨p,hp,rfl⟩:=uu.mp ha;exact C.all p hp
   have tp:=(t919.trans tz).trans (yj hcA);have ml:∀{b:Addr}{xs:List V},H' b=some (.lst xs)->z7 H' ((cl8 (s.heap.objs.size+3)).map (·.2)) b=some (.lst xs):=fun e=>zJ hcA e (by intro _ _ _ z;cases z);have hlpz:=z _ _ hlp19 (hP19.noL hlp19) (fun _ _=>.inr (.inr (.inr rfl)));have hlsz:=z _ _ hls19 (hP19.noL hls19) (fun _ _=>.inr (.inr (.inl rfl)));refine x8 (k:=1) zdm (.all (us1 fun _=>rfl)) (g (s19 _ _ hf18) (by intro _ z;unfold FunO at z;cases z) (by intro _ _ _ z;unfold FunO at z;cases z) (by intro _ z;unfold FunO at z;cases z)) (g (s19 _ _ hc18) (by intro _ z;unfold CodO at z;cases z) (by intro _ _ _ z;unfold CodO at z;cases z) (by intro _ z;unfold CodO at z;cases z)) C fun A2 outer2 s2 hr2=>?_;refine⟨_,cA GW hr2 (jA2 (zn K (jv 1)) (zB (jA2 zw (zQ K (zn K (jv 1)))))),?_⟩;refine(zg rfl (ixT (tp _ _ ht9) aI1 (zg rfl (ixT (tp _ _ ht9) aI0 (ixL (ml hlsz) aI0 ⟨sN2,fun tl htl=>?_⟩)))));have sm:=zo (o:=.tup [.str "give",.str s0]) htl;refine⟨lp9,prs,qs9,.give s0,.ref tl,rfl,old htl (ml hlpz),hal9.imp fun _ _ e=>old htl (tp _ _ e),⟨tl,rfl,uX9⟩,fun H3 v3 s3 h3 hnn=>?_⟩;exact q2 _ v3 (xa (sm.trans s3)) (h3.keep fun b xs e=>yS hnn e)
def cl4(c1 c2:Addr):List (Str×Addr):=[("finish",c1),("drops",c2)]
theorem zdn:LamScope ["results","finish","drops"] ["results"] ["finish","drops"] (lmS jV):=⟨rfl,rfl,rfl,by decide +kernel,rfl,by decide +kernel,by decide +kernel,by decide +kernel,by decide +kernel⟩
section
variable(P:Program)(w:World)(K:ub)(mg:Str->Option Value)(base:Heap)(X:HX)
inductive spBegPl(vs:List V)(H:Hp)(Q:VK)(e_3:XK):Prop
 |mk (v:V) (t:Pk):(∃R:Addr->Prop,vs=[.ref X.pu,v]/\ITk X H R t v/\POk X t.m H/\(∀b,R b->H b≠none)/\(∀b,R b->¬ X.M b)/\∀(H':Hp)(q l fl:Addr)(vs:List V)(R':Addr->Prop),KM X.M H H'->POk X (t.mid X.ns X.ow) H'->H' q=some (.tup [.ref l,.ref fl])->H l=none->H' l=some (.lst vs)->(∀b,R b->R' b)->(∀b,R' b->R b\/H b=none)->(∀b,R' b->H' b≠none)->R' l->All2 (ITk X H' R') (t.kids X.ns X.ow) vs->Fin P w K mg base 3 X H' R' ((t.kids X.ns X.ow).map (Pk.code X.ns X.ow)) (t.code X.ns X.ow) fl->Q (.ref q) H')->spBegPl vs H Q e_3
end
theorem scBegPlace:FnScope ["putter","place","drops","rest","pair","finish"] lS3 (zp xW):=.ok
theorem jf:(["putter","place","drops","rest","pair","finish","name"]:lS).Nodup:=by decide +kernel
theorem YO(F:FunC K "begun_place" xW c f fd)(hB:BMn mg base)(hc:Ub K c X.T4=true)(x0:XOk X)(N:Pn K X.cP)(L:Ln K X.cL)(GA:Me P w K mg base CX0 1 X.cP "is_ahead" lS20 (spAhd X.cP))(GP:Ca P w K mg base CX0 4 "begun_piece" lS3 (spBeg P w K mg base 2 X fun _=>True))(GL:Ma P w K mg base CX0 1 "Place" X.cL lS7 (spPlInit X.cL))(GD:Ca P w K mg base CX0 1 "with_drops" ["names","body"] spDrops):FnOk P w K mg base CX0 5 f fd lS3 (spBegPl P w K mg base X):=by
 refine F.byR scBegPlace (fun vs H Q E h=>?_) (fun A outer s H vs Q E hr h fresh=>?_)
 ·obtain⟨v,t,R,rfl,_⟩:=h
  rfl
 obtain⟨v,⟨b,l,m⟩,R,rfl,⟨hS,pl,dxl,p,ln,vn,rfl,hpl,hb,hN,hln,hRl⟩,hP,hRd,hRM,q⟩:=h;dsimp only at hS hb hN hln hP
 have hr1:Room 1 _:=hr.mono (by decide);have hr2:Room 2 _:=hr.mono (by decide);refine⟨_,
  (zW (sE 2 scBegPlace.nd (yf ["name"] rfl (zR K (zK K (jv 1))) (fun _ _ _ _ _=>(gN 6 jf)) (fun _ _ _ _ _=>(z5 (xn (yr (vM (jv 0) N.cl GA hr1 yJ (jA2 (jv 6) (zK K (jv 1)))))))) (fun _ _ _ _ _=>(jv 6))))
  (zW (yx ["name"] (i:=3) scBegPlace.nd rfl (Or.inl rfl) rfl (zR K (zK K (jv 1))) (fun _ _ _ _ _=>(gN 6 jf)) (fun _ _ _ _ _=>(z5 (yr (vM (jv 0) N.cl GA hr1 yJ (jA2 (jv 6) (zK K (jv 1))))))) (fun _ _ _ _ _=>(jv 6)))
  (zW (sE 4 scBegPlace.nd (cA GP hr (jA2 (jv 0) (ve GL hr2 rfl yJ (jA3 (zK K (jv 1)) (zK K (jv 1)) (jv 3))))))
  (zW (sE 5 scBegPlace.nd (zn K (jv 4)))
  (xO (zB (jA2 (zn K (jv 4)) (xl (params:=lmP jV) (body:=lmB jV) (scope:=lmS jV) (pos:=xE jV) (T:=X.T4) (qual:=zbJ) (cl:=cl4 (s.heap.objs.size+4) (s.heap.objs.size+3)) hB rfl hc rfl)))))))),?_⟩
 have sl:=zO;have hll:l.length<=2000000:=uI (UP _ _) hS.nb;have hNt:Nt H (b.mk X.ns) vn:=hN.nt;refine(zg rfl ⟨pl,X.cL,dxl,_,_,rfl,hpl,L.cl,L.a3,rfl,ln,rfl,⟨_,SqL.of hln⟩,ym (xs:=l.map V.str) (fun j τ zs H'=>H=H'/\(∃u,τ=[some (.ref X.pu),sR pl,none,none,none,none,u])/\zs=((l.take j).filter fun y=>!ahB X.ns b y).map V.str) ⟨rfl,⟨none,rfl⟩,rfl⟩ (fun j τ zs H' _ h=>SqL.of (h.1 ▸ hln)) ?_ ?_⟩)
 ·rintro j v τ zs H8 hv ⟨rfl,⟨u,rfl⟩,rfl⟩
  obtain⟨y,hy,rfl⟩:=L2.gM hv;rw[y0 hy];have hfl:(((l.take j).filter fun y=>!ahB X.ns b y).map V.str).length < sizeLine:=by
   rw[ua];refine uQ (um _ _) ?_;rw[uq];lia
  refine(zg rfl ⟨X.pu,X.dx,(zg rfl ⟨hP.o,rfl,(zq rfl rfl ⟨pl,X.cL,dxl,_,_,rfl,hpl,L.cl,L.a2,rfl,X.pu,X.dx,X.od,X.bd,y,m,b.mk X.ns,vn,X.ns,rfl,hP.o,hP.b,hS.ln y (uw hy),hNt,(zg rfl ?_)⟩)⟩)⟩);show if(!ahB X.ns b y)=true then _ else _
  cases hah:ahB X.ns b y
  ·exact iteT (zg rfl ⟨hfl,rfl,⟨_,rfl⟩,rfl⟩)
  ·exact iteF ⟨rfl,⟨_,rfl⟩,(u6 _).symm⟩
 rintro τ zs H8 ⟨rfl,_,rfl⟩ ld hld;rw[ua,Uj];have s1:=zo (o:=.lst ((l.filter fun y=>!ahB X.ns b y).map V.str)) hld;have hld1:=uX9 (H:=H) (a:=ld) (o:=.lst ((l.filter fun y=>!ahB X.ns b y).map V.str));generalize upd H ld (.lst ((l.filter fun y=>!ahB X.ns b y).map V.str))=H1 at *;have hP1:=hP.same s1;refine(zg rfl ⟨pl,X.cL,dxl,_,_,rfl,s1 _ _ hpl,L.cl,L.a3,rfl,ln,rfl,⟨_,SqL.of (s1 _ _ hln)⟩,ym (xs:=l.map V.str) (fun j τ zs H'=>H1=H'/\(∃u,τ=[some (.ref X.pu),sR pl,sR ld,none,none,none,u])/\zs=((l.take j).filter fun y=>ahB X.ns b y).map V.str) ⟨rfl,⟨none,rfl⟩,rfl⟩ (fun j τ zs H' _ h=>SqL.of (h.1 ▸ s1 _ _ hln)) ?_ ?_⟩)
 ·rintro j v τ zs H8 hv ⟨rfl,⟨u,rfl⟩,rfl⟩
  obtain⟨y,hy,rfl⟩:=L2.gM hv;rw[y0 hy];have hfl:(((l.take j).filter fun y=>ahB X.ns b y).map V.str).length < sizeLine:=by
   rw[ua];refine uQ (um _ _) ?_;rw[uq];lia
  refine(zg rfl ⟨X.pu,X.dx,(zg rfl ⟨hP1.o,rfl,(zq rfl rfl ⟨pl,X.cL,dxl,_,_,rfl,s1 _ _ hpl,L.cl,L.a2,rfl,X.pu,X.dx,X.od,X.bd,y,m,b.mk X.ns,vn,X.ns,rfl,hP1.o,hP1.b,hS.ln y (uw hy),hNt.keep (.of s1),(zg rfl ?_)⟩)⟩)⟩);show if(ahB X.ns b y)=true then _ else _
  cases hah:ahB X.ns b y
  ·exact iteF ⟨rfl,⟨_,rfl⟩,(u6 _).symm⟩
  ·exact iteT (zg rfl ⟨hfl,rfl,⟨_,rfl⟩,rfl⟩)
 rintro τ zs H8 ⟨rfl,_,rfl⟩ lr hlr;rw[ua,Uj];have s2:=s1.new (o:=.lst ((rO X.ns b l).map V.str)) hlr;have s12:=zo (o:=.lst ((rO X.ns b l).map V.str)) hlr;have flr:H lr=none:=s1.free hlr;have hlr2:=uX9 (H:=H1) (a:=lr) (o:=.lst ((rO X.ns b l).map V.str));have hld2:=s12 _ _ hld1;have elr:(l.filter fun y=>ahB X.ns b y)=rO X.ns b l:=rfl;rw[elr];generalize upd H1 lr (.lst ((rO X.ns b l).map V.str))=H2 at *;refine(zq rfl rfl ⟨pl,X.cL,dxl,_,_,rfl,s2 _ _ hpl,L.cl,L.a1,rfl,(zg rfl ⟨pl,X.cL,dxl,_,_,rfl,s2 _ _ hpl,L.cl,L.a2,rfl,(zg rfl (fun pk dk hpk hdk npk=>⟨pk,dk,.ref p,vn,.ref lr,rfl,uX9,fun H3 k3 h3=>⟨rfl,?_⟩⟩))⟩)⟩);have s23:Same H2 H3:=fun b u e=>k3 b u (zi e hpk) (by rw[zj (zi e hpk),zj (zi e hdk)];exact e);have s03:=s2.trans s23;have hP3:=hP.same s03;have hlr3:=s23 _ _ hlr2;have hld3:=s23 _ _ hld2;have fl3:=um (fun y=>ahB X.ns b y) l;rw[elr]at fl3;have nM3:∀b,(R b\/b=lr\/b=ld)->¬ X.M b:=fun b z=>by
  rcases z with z|rfl|rfl
  ·exact hRM b z
  ·exact hP3.noL hlr3
  ·exact hP3.noL hld3
 refine⟨pk,dk,p,lr,vn,b,rO X.ns b l,m,fun b=>R b\/b=lr\/b=ld,rfl,trivial,h3,hb.keep (.of s03),hN.keep ⟨.of s03,fun a xs _ e=>s03 _ _ e,fun _ z=>.inl z⟩,hlr3,.inr (.inl rfl),⟨fun y hy=>hS.ln y (uW.mp hy).1,hS.ok,hS.mz,hS.sz,by have:=hS.nb;lia⟩,hP3,?_,nM3,fun H4 q4 l4 fl4 vs4 R4 k4 hP4 hq4 f4 hl4 sub4 new4 pre4 rl4 hk4 hfl4 fin4=>?_⟩
 ·rintro b (z|rfl|rfl)
  ·cases e:H b with
   |none=>exact absurd e (hRd b z)
   |some u=>rw[s03 b u e];simp
  ·rw[hlr3];simp
  ·rw[hld3];simp
 have nM4:∀b,R4 b->¬ X.M b:=fun b z=>by
  rcases new4 b z with y|y
  ·exact nM3 b y
  ·exact fun y'=>hP3.ne y' y
 have hld4:=k4 _ _ (hP3.noL hld3) hld3;have rld:R4 ld:=sub4 ld (.inr (.inr rfl));refine(zg rfl (ixT hq4 aI1 ?_));refine(zg rfl (ixT hq4 aI0 ?_));refine yQ hP4.t4 (by unfold ls4;exact .head _) (fun p hp _=>by unfold ls4 at hp;rw[uo.mp hp]) fun H5 fl cc ct k5 T5 hfl nfT ncT hfl5 hcc=>⟨sN2,fun rr hrr=>?_⟩;have k18:KM (·=X.T4) H4 (upd H5 rr (.tup [.ref l4,.ref fl])):=fun b u n e=>old hrr (k5 b u n e);have hP18:=hP4.tb4 x0 k18 (T5.same (zo hrr _));have hr18:=uX9 (H:=H5) (a:=rr) (o:=.tup [.ref l4,.ref fl]);have hf18:=old (o:=.tup [.ref l4,.ref fl]) hrr hfl5;have hc18:=old (o:=.tup [.ref l4,.ref fl]) hrr hcc;generalize upd H5 rr (.tup [.ref l4,.ref fl])=H18 at *;refine⟨[(s.heap.objs.size+4,.ref fl4),(s.heap.objs.size+3,.ref ld)],fun x hx=>?_,fun H19 pb1=>?_⟩
 ·simp only[uk,Up,or_false]at hx
  rcases hx with rfl|rfl
  ·exact⟨5,"finish",rfl,rfl,rfl,.inl rfl⟩
  ·exact⟨2,"drops",rfl,rfl,rfl,.inl rfl⟩
 have s19:=Pub.same pb1;have hP19:=hP18.same s19;have k418:KM X.M H4 H18:=fun b u n e=>k18 b u (fun z=>n (.inr (.inl z))) e;have k419:KM X.M H4 H19:=k418.trans (.of s19);have k019:KM X.M H H19:=((KM.of s03).trans k4).trans k419;have hl419:=k419 _ _ (hP4.noL hl4) hl4;have hld19:=k419 _ _ (hP4.noL hld4) hld4;refine q H19 rr l4 fl vs4 R4 k019 hP19 (s19 _ _ hr18) (s03.free f4) hl419 (fun b z=>sub4 b (.inl z)) ?_ ?_ rl4 (hk4.imp fun _ _ h=>⟨h.1,ITp.keep h.2 hP4 (fun b u e n _=>k419 b u n e) fun _ z=>z⟩) ?_
 ·intro b z
  rcases new4 b z with(y|rfl|rfl)|y
  ·exact .inl y
  ·exact .inr flr
  ·exact .inr hld
  ·exact .inr (s03.free y)
 ·intro b z
  cases e:H4 b with
  |none=>exact absurd e (pre4 b z)
  |some u=>rw[k419 b u (nM4 b z) e];simp
 ·intro H' R2 z sub rl rs Q2 hrl hcs q2
  have q2:∀H'' v,Same H' H''->IsHc H'' (wD (dO X.ns b l) (pcP X.ns X.ow b (rO X.ns b l) m)) v->Q2 v H'':=fun H'' v a e=>q2 H'' v a (by show IsHc H'' (GN.hB X.ns X.ow b l m).1 v;rw[zd5];exact e);have g:∀{b:Addr}{u:HO},H19 b=some u->(∀ps,u≠.tbl ps)->(∀C dx fs,u≠.ins C dx fs)->(∀xs,u≠.lst xs)->H' b=some u:=fun{b u} e n1 n2 n3=>z b u e (hP19.no e n1 fun k=>by unfold PO;exact n2 _ _ _) fun xs y=>absurd y (n3 xs);have cel:∀{c:Addr}{v:V},Cel H19 c v->Cel H' c v:=fun⟨o,e⟩=>⟨o,g e (by intro _ z;cases z) (by intro _ _ _ z;cases z) (by intro _ z;cases z)⟩;have C:Clo H' (cl4 (s.heap.objs.size+4) (s.heap.objs.size+3)) ["finish","drops"] [.ref fl4,.ref ld]:=by
   refine x9 (cl:=[("finish",s.heap.objs.size+4),("drops",s.heap.objs.size+3)]) (by show(["finish","drops"]:lS).Nodup;decide +kernel) (by simp) rfl fun i p v e1 e2=>?_
   match i,e1,e2 with
   |0,e1,e2=>cases e1;cases e2;exact cel (pb1.cel (_,_) (.head _))
   |1,e1,e2=>cases e1;cases e2;exact cel (pb1.cel (_,_) (.tail _ (.head _)))
   |i+2,e1,_=>simp at e1
  have hcA:∀a∈(cl4 (s.heap.objs.size+4) (s.heap.objs.size+3)).map (·.2),∃v,Cel H' a v:=fun a ha=>by
   obtain⟨p,hp,rfl⟩:=uu.mp ha;exact C.all p hp
  have ml:∀{b:Addr}{xs:List V},H' b=some (.lst xs)->z7 H' ((cl4 (s.heap.objs.size+4) (s.heap.objs.size+3)).map (·.2)) b=some (.lst xs):=fun e=>zJ hcA e (by intro _ _ _ z;cases z);have hldz:=z _ _ hld19 (hP19.noL hld19) (fun _ _=>rld);have zm:Kz X.M R4 H4 (z7 H' ((cl4 (s.heap.objs.size+4) (s.heap.objs.size+3)).map (·.2))):=fun a u e n hl=>by
   have e18:=k418 a u n e;rw[zZ]
   ·exact z a u (s19 _ _ e18) n hl
   ·intro y
    have:a∈([(s.heap.objs.size+4,V.ref fl4),(s.heap.objs.size+3,V.ref ld)]:List (Addr×V)).map (·.1):=y
    obtain⟨x,hx,rfl⟩:=uu.mp this;rw[pb1.non x hx]at e18;cases e18
  refine x8 (k:=2) zdn (.all (us1 fun _=>rfl)) (g (s19 _ _ hf18) (by intro _ z;unfold FunO at z;cases z) (by intro _ _ _ z;unfold FunO at z;cases z) (by intro _ z;unfold FunO at z;cases z)) (g (s19 _ _ hc18) (by intro _ z;unfold CodO at z;cases z) (by intro _ _ _ z;unfold CodO at z;cases z) (by intro _ z;unfold CodO at z;cases z)) C fun A2 outer2 s2 hr2=>?_;refine⟨_,zbz GD (hr2.mono (by decide)) rfl yJ (jA2 (jv 2) (vO hr2 (jv 1) yJ (jA1 (jv 0)))),?_⟩;refine(zg rfl (wM (f:=fl4) (vs:=[.ref rl]) rfl (fun _ h=>(zg rfl (h))) (fin4 _ R4 zm (fun _ h=>h) rl rs _ (ml hrl) (hcs.imp fun _ _ h=>h.keep (yj hcA)) fun H6 v6 s6 h6=>?_)));refine⟨ld,dO X.ns b l,pcP X.ns X.ow b (rO X.ns b l) m,v6,rfl,s6 _ _ (ml hldz),h6,fun H7 v7 s7 h7 hnn=>?_⟩;exact q2 _ v7 (xa (s6.trans s7)) (h7.keep fun b xs e=>yS hnn e)
end
theorem CanC.mono{k k':Nat}{vs:List V}{E:XK}(h:CanC P w K mg base k H f vs Q E)(e:k<=k'):CanC P w K mg base k' H f vs Q E:=by obtain⟨fd,ps,sp,F,r⟩:=h;exact⟨fd,ps,sp,F.mono e,r⟩
def KC(H H':Hp):Prop:=∀b u,H b=some u->(∀o c v,u≠.frz o (CelO c v))->H' b=some u
theorem KC.tups(k:KC H H'):Tups H H':=fun b xs e=>k _ _ e (by intro _ _ _ z;cases z)
theorem ITp.kc{b:Bd}{l:lS}{v:V}(h:ITp X H R b l v)(k:KC H H'):ITp X H' R b l v:=by
 obtain⟨pl,dxl,p,ln,vn,e,h1,h2,h3,h4,h5⟩:=h;exact⟨pl,dxl,p,ln,vn,e,k _ _ h1 (by intro _ _ _ z;unfold LO at z;cases z),h2.keep k.tups,h3.keep ⟨k.tups,fun a xs _ e=>k _ _ e (by intro _ _ _ z;cases z),fun _ z=>z⟩,k _ _ h4 (by intro _ _ _ z;cases z),h5⟩
theorem POk.kc(h:POk X m H)(k:KC H H'):POk X m H':=by
 have tb:∀{T ls},TbG T ls H->TbG T ls H':=fun{T ls} t=>t.keep (fun ps e=>k _ _ e (by intro _ _ _ z;cases z)) fun c q e=>k _ _ e (by intro _ _ _ z;unfold CodO at z;cases z);refine⟨k _ _ h.o (by intro _ _ _ z;unfold PO at z;cases z),k _ _ h.b (by intro _ _ _ z;cases z),?_,tb h.t4,tb h.t5,tb h.t6,tb h.t7⟩;obtain⟨kv,h1,h2⟩:=h.w;refine⟨kv,k _ _ h1 (by intro _ _ _ z;cases z),fun f hf=>?_⟩;obtain⟨a,g1,g2⟩:=h2 f hf;exact⟨a,g1,k _ _ g2 (by intro _ _ _ z;cases z)⟩
theorem POk.nl(h:POk X m H)(k:∀b u,H b=some u->(∀xs,u≠.lst xs)->H' b=some u):POk X m H':=by
 have tb:∀{T ls},TbG T ls H->TbG T ls H':=fun{T ls} t=>t.keep (fun ps e=>k _ _ e (by intro _ z;cases z)) fun c q e=>k _ _ e (by intro _ z;unfold CodO at z;cases z);refine⟨k _ _ h.o (by intro _ z;unfold PO at z;cases z),k _ _ h.b (by intro _ z;cases z),?_,tb h.t4,tb h.t5,tb h.t6,tb h.t7⟩;obtain⟨kv,h1,h2⟩:=h.w;refine⟨kv,k _ _ h1 (by intro _ z;cases z),fun f hf=>?_⟩;obtain⟨a,g1,g2⟩:=h2 f hf;exact⟨a,g1,k _ _ g2 (by intro _ z;cases z)⟩
theorem zbO(ns:lS)(ow:Str->List Bool)(x:Str)(r:lS):∀(as:Arms)(m:Nat),((kA ns ow x r as m).map fun t:Pk=>2*t.b.sz).sum<=2*as.sz
 |.nil,m=>by unfold kA;exact uM _
 |.cons t xs b as,m=>by
  have:=zbO ns ow x r as (hB ns ow b (stA (tkB ns x r b) x r xs) m).2
  rw[kA,uC,Uy,Arms.sz];show 2*b.sz+_<=_;lia
theorem zaZ(ns:lS)(ow:Str->List Bool)(t:Pk):((t.kids ns ow).map fun t:Pk=>2*t.b.sz).sum+2<=2*t.b.sz:=by
 obtain⟨b,l,m⟩:=t;unfold Pk.kids;dsimp only
 cases b with
 |give x=>rw[kP,Bd.sz];exact uj _
 |lt x d b=>rw[kP,Bd.sz];simp;lia
 |iff x a b=>rw[kP,Bd.sz];simp;lia
 |case x as =>
  have:=zbO ns ow x (rO ns (.case x as) l) as m
  rw[kP,Bd.sz];lia
def wR:Expr:=match zP wG with
 |[_,_,_,.Assign _ e _,_]=>J5 e
 |_=>.Constant .none 0 ⟨0,0,0,0⟩
def Ws:Str:=("held_def":Str)++(".<locals>.":Str)++("<lambda>":Str)
def ls9:List (Pos×Str):=[(xE wR,Ws)]
def cl9(c1:Addr):List (Str×Addr):=[("putter",c1)]
theorem zdo:LamScope ["place","putter"] ["place"] ["putter"] (lmS wR):=⟨rfl,rfl,rfl,by decide +kernel,rfl,by decide +kernel,by decide +kernel,by decide +kernel,by decide +kernel⟩
structure HOk(mg:Str->Option Value)(X:HX)(fl c1 cc:Addr)(ct:Value)(m:Nat)(H:Hp):Prop where
 p:POk X m H
 f:H fl=some (FunO fl (lamC mg Ws (lmP wR) (lmB wR) (lmS wR) (cl9 c1) cc ct))
 c:H cc=some (CodO cc Ws)
 e:Cel H c1 (.ref X.pu)
theorem HOk.keep{m':Nat}(h:HOk mg X fl c1 cc ct m H)(p:POk X m' H')(k:KM X.M H H'):HOk mg X fl c1 cc ct m' H':=by
 obtain⟨o,e⟩:=h.e;exact⟨p,k _ _ (h.p.noF h.f) h.f,k _ _ (h.p.noC h.c) h.c,o,k _ _ (h.p.no e (by intro _ z;cases z) (by intro _ z;unfold PO at z;cases z)) e⟩
def zdp(GP:Ca P w K mg base CX0 5 "begun_place" lS3 (spBegPl P w K mg base X))(fl c1 cc:Addr)(ct:Value):WoD P w K mg base 6 where
 Tk:=Pk
 M:=X.M
 fb:=fl
 wt:=fun t=>2*t.b.sz
 kids:=Pk.kids X.ns X.ow
 wk:=zaZ X.ns X.ow
 IT:=fun H R=>ITk X H fun b=>R b/\b≠c1
 IR:=fun H _ t v=>IsHc H (t.code X.ns X.ow) v
 IF:=fun H R t v=>∃f,v=.ref f/\Fin P w K mg base 3 X H (fun b=>R b/\b≠c1) ((t.kids X.ns X.ow).map (Pk.code X.ns X.ow)) (t.code X.ns X.ow) f
 S:=Nat
 pre:=Pk.m
 mid:=Pk.mid X.ns X.ow
 post:=Pk.post X.ns X.ow
 chn:=Pk.chn X.ns X.ow
 Ok:=HOk mg X fl c1 cc ct
 itk:=fun h ok z sub=>⟨h.1,ITp.keep h.2 ok.p (fun b u e n l=>z b u e n fun xs y=>(l xs y).1) fun b y=>⟨sub b y.1,y.2⟩⟩
 irk:=fun h ok z _=>h.keep fun b xs e=>z b _ e (ok.p.noT e) (by intro _ z;cases z)
 ifk:=fun⟨f,e,h⟩ _ z sub=>⟨f,e,fun H' R' z' sub'=>h H' R' (fun b u e n l=>z' b u (z b u e n fun xs y=>(l xs y).1) n fun xs y=>⟨sub b (l xs y).1,(l xs y).2⟩) fun b y=>sub' b ⟨sub b y.1,y.2⟩⟩
 okk:=fun{H H' s} ok z=>by
  have g:∀b u,H b=some u->(∀xs,u≠.lst xs)->H' b=some u:=fun b u e n=>z b u e fun xs q=>absurd q (n xs);obtain⟨o,e⟩:=ok.e;exact⟨ok.p.nl g,g _ _ ok.f (by intro _ z;unfold FunO at z;cases z),g _ _ ok.c (by intro _ z;unfold CodO at z;cases z),o,g _ _ e (by intro _ z;cases z)⟩
 okM:=fun ok z=>ok.p.ne z
 beg:=fun{H R t v Q} h ok hRd hRM q=>by
  have C:Clo H (cl9 c1) ["putter"] [.ref X.pu]:=by
   refine x9 (cl:=[("putter",c1)]) (by show(["putter"]:lS).Nodup;decide +kernel) (by simp) rfl fun i p v e1 e2=>?_
   match i,e1,e2 with
   |0,e1,e2=>cases e1;cases e2;exact ok.e
   |i+1,e1,_=>simp at e1
  have hcA:∀a∈(cl9 c1).map (·.2),∃v,Cel H a v:=fun a ha=>by
   obtain⟨p,hp,rfl⟩:=uu.mp ha;exact C.all p hp
  have kc:KC H (z7 H ((cl9 c1).map (·.2))):=fun b u e n=>zJ hcA e n;refine x8 (k:=5) zdo (.all (us1 fun _=>rfl)) ok.f ok.c C fun A2 outer2 s2 hr2=>?_;refine⟨_,cA GP hr2 (jA2 (jv 1) (jv 0)),?_⟩;have mo:∀{b:Addr},b≠c1->b∉(cl9 c1).map (·.2):=fun{b} n z=>n (by unfold cl9 at z;simpa using z);have pm:=ok.p.kc kc;refine(zq rfl rfl ⟨v,t,fun b=>R b/\b≠c1,rfl,⟨h.1,h.2.kc kc⟩,pm,fun b z=>by rw[zZ (mo z.2)];exact hRd b z.1,fun b z=>hRM b z.1,fun H' r l f2 vs R' k1 p1 hr hl hl1 sub new pre rl hk hfin hnn=>?_⟩);have hn1:H' c1=none:=hnn c1 (by unfold cl9;simp);have sp:Same H' (xr H' H ((cl9 c1).map (·.2))):=fun b u e=>yS hnn e;have ne1:∀{b:Addr},H' b≠none->b≠c1:=fun{b} n z=>n (by rw[z];exact hn1);have km:KM X.M H (xr H' H ((cl9 c1).map (·.2))):=fun b u n e=>by
   by_cases z:b∈(cl9 c1).map (·.2)
   ·rw[wE z];exact e
   ·rw[yM z]
    exact k1 b u n (by rw[zZ z];exact e)
  have out:∀{b:Addr},H' b≠none->z7 H ((cl9 c1).map (·.2)) b=none->H b=none:=fun{b} n e=>by
   rw[zZ (mo (ne1 n))]at e;exact e
  refine q _ r l f2 vs (fun b=>R' b\/R b) km (ok.keep (p1.same sp) km) (sp _ _ hr) (out (by rw[hl1];simp) hl) (sp _ _ hl1) (fun b z=>.inr z) ?_ ?_ (.inl rl) ?_ ⟨f2,rfl,?_⟩
  ·rintro b (z|z)
   ·rcases new b z with y|y
    ·exact .inl y.1
    ·exact .inr (out (pre b z) y)
   ·exact .inl z
  ·rintro b (z|z)
   ·cases e:H' b with
    |none=>exact absurd e (pre b z)
    |some u=>rw[sp b u e];simp
   ·cases e:H b with
    |none=>exact absurd e (hRd b z)
    |some u=>rw[km b u (hRM b z) e];simp
  ·exact hk.imp fun _ _ h=>⟨h.1,ITp.keep h.2 p1 (fun b u e _ _=>sp b u e) fun b z=>⟨.inl z,ne1 (pre b z)⟩⟩
  ·intro H2 R2 z2 sub2
   exact hfin H2 R2 (fun b u e n l=>z2 b u (sp b u e) n fun xs y=>⟨.inl (l xs y),ne1 (by rw[e];simp)⟩) fun b z=>sub2 b ⟨.inl z,ne1 (pre b z)⟩
 fin:=fun{H R t f2 rl rs Q} hh ok hRd hRM hRr hrl hrs q=>by
  obtain⟨f,e,hf⟩:=hh;cases e;refine(hf H (fun b=>R b/\b≠c1) (fun b u e _ _=>e) (fun _ z=>z) rl rs Q hrl (All2.mapl hrs) fun H' v s1 h1=>?_).mono (by decide);refine q H' v R (.of s1) (ok.keep (ok.p.same s1) (.of s1)) (fun _ z=>z) (fun _ z=>.inl z) (fun b z=>?_) h1;cases e:H b with
  |none=>exact absurd e (hRd b z)
  |some u=>rw[s1 b u e];simp
structure TT where
 t1:Addr
 t2:Addr
 t3:Addr
 t4:Addr
 t5:Addr
 t6:Addr
 t7:Addr
def TT.M(t:TT)(b:Addr):Prop:=b=t.t1\/b=t.t2\/b=t.t3\/b=t.t4\/b=t.t5\/b=t.t6\/b=t.t7
structure TT.Ok(t:TT)(H:Hp):Prop where
 n:Tbs t.t1 t.t2 H
 h:TbG t.t3 ls9 H
 a:TbG t.t4 ls4 H
 b:TbG t.t5 ls5 H
 c:TbG t.t6 ls6 H
 d:TbG t.t7 ls7 H
theorem TT.Ok.keep{t:TT}(h:t.Ok H)(k:∀{T ls},TbG T ls H->(T=t.t1\/T=t.t2\/T=t.t3\/T=t.t4\/T=t.t5\/T=t.t6\/T=t.t7)->TbG T ls H'):t.Ok H' :=
 ⟨⟨k h.n.t1 (.inl rfl),k h.n.t2 (.inr (.inl rfl))⟩,k h.h (.inr (.inr (.inl rfl))),k h.a (.inr (.inr (.inr (.inl rfl)))),k h.b (.inr (.inr (.inr (.inr (.inl rfl))))),k h.c (.inr (.inr (.inr (.inr (.inr (.inl rfl)))))),k h.d (.inr (.inr (.inr (.inr (.inr (.inr rfl))))))⟩
theorem TT.Ok.same{t:TT}(h:t.Ok H)(s:Same H H'):t.Ok H':=h.keep fun a _=>a.same s
theorem TT.Ok.no{t:TT}(h:t.Ok H){u:HO}(e:H b=some u)(n:∀ps,u≠.tbl ps):¬ t.M b:=by
 rintro(z|z|z|z|z|z|z)
 ·exact h.n.t1.no e n z
 ·exact h.n.t2.no e n z
 ·exact h.h.no e n z
 ·exact h.a.no e n z
 ·exact h.b.no e n z
 ·exact h.c.no e n z
 ·exact h.d.no e n z
theorem xv:∀(l acc:lS)(x:Str),x∈once acc l↔x∈acc\/x∈l
 |[],acc,x=>by unfold once;simp
 |y::l,acc,x=>by
  unfold once;rw[xv l];split
  ·rename_i h
   constructor
   ·rintro(a|a)
    ·exact .inl a
    ·exact .inr (.tail _ a)
   ·rintro(a|a)
    ·exact .inl a
    ·rcases uk.mp a with rfl|a
     ·exact .inl h
     ·exact .inr a
  ·simp[or_assoc]
def resR(H:Hp)(R:Addr->Prop)(a:Addr):Prop:=R a/\∃xs,H a=some (.lst xs)
mutual
theorem IsN.res{ns:lS}{H:Hp}{R:Addr->Prop}:∀{b:Bd}{v:V},IsN ns H R b v->IsN ns H (resR H R) b v
 |.give x,v,⟨q,l,e,a,b,c⟩=>⟨q,l,e,a,⟨b,_,c⟩,c⟩
 |.lt x d b,v,⟨w,⟨q,l,e,a,r,c⟩,h⟩=>⟨w,⟨q,l,e,a,⟨r,_,c⟩,c⟩,IsN.res h⟩
 |.iff x a b,v,⟨w,u,⟨q,l,e,a',r,c⟩,h1,h2⟩=>⟨w,u,⟨q,l,e,a',⟨r,_,c⟩,c⟩,IsN.res h1,IsN.res h2⟩
 |.case x as,v,⟨ws,⟨q,l,e,a,r,c⟩,h⟩=>⟨ws,⟨q,l,e,a,⟨r,_,c⟩,c⟩,IsNA.res h⟩
theorem IsNA.res{ns:lS}{H:Hp}{R:Addr->Prop}:∀{as:Arms}{ws:List V},IsNA ns H R as ws->IsNA ns H (resR H R) as ws
 |.nil,ws,h=>h
 |.cons _ _ b r,ws,⟨w,ws',e,g,i⟩=>⟨w,ws',e,IsN.res g,IsNA.res i⟩
end
def nsOf(d:Df):lS:=once [] (d.ns++d.b.binds)
def IsHF(H:Hp)(ow:Str->List Bool)(d:Df)(r:Addr):Prop:=∃q1 q2 v,H r=some (.tup [.str d.z,.ref q1,.ref q2,v])/\H q1=some (.tup (d.ns.map V.str))/\H q2=some (.tup ((ow d.z).map V.bl))/\IsHc H (hB (nsOf d) ow d.b (upN d.ns (ow d.z)) 0).1 v
theorem IsHF.keep{d:Df}{r:Addr}(h:IsHF H ow d r)(t:Tups H H'):IsHF H' ow d r:=by obtain⟨q1,q2,v,a,b,c,e⟩:=h;exact⟨q1,q2,v,t _ _ a,t _ _ b,t _ _ c,e.keep t⟩
structure DfOk(ow:Str->List Bool)(N:lS)(d:Df):Prop where
 z:d.z∈N
 l:(ow d.z).length=d.ns.length
 n:d.ns.length<=3
 s:d.b.sz<=400000
 a:(nsOf d).length<=1000
 u:(nsOf d).Nodup
 h:∀x∈nsOf d,x.length<=1000
 b:∀X:HX,X.ns=nsOf d->X.ow=ow->X.N=N->OkB X d.b
inductive spHeldDef(t:TT)(vs:List V)(H:Hp)(Q:VK)(e_3:XK):Prop
 |mk (p:Addr) (od:Addr) (d:Df) (ow:Str->List Bool):(∃N:lS,vs=[.ref p,.ref od]/\IsF H d p/\OwA H od ow N/\DfOk ow N d/\t.Ok H/\∀H' r,KM t.M H H'->t.Ok H'->IsHF H' ow d r->Q (.ref r) H')->spHeldDef t vs H Q e_3
section
theorem scHeldDef:FnScope ["one","owns","putter","params","begin","body"] ["one","owns"] (zp wG):=.ok
theorem j5:(["one","owns","putter","params","begin","body","param","own"]:lS).Nodup:=by decide +kernel
theorem XQ{t:TT}(F:FunC K "held_def" wG c f fd)(hB:BMn mg base)(hc:Ub K c t.t3=true)(nd:[t.t1,t.t2,t.t3,t.t4,t.t5,t.t6,t.t7].Nodup)(N:Pn K cP)(L:Ln K cL)(GPu:Ma P w K mg base CX0 3 "Putter" cP lS25 (spPuInit cP))(GL:Ma P w K mg base CX0 1 "Place" cL lS7 (spPlInit cL))(GNo:Ca P w K mg base CX0 6 "noted" lS19 (spNoted t.t1 t.t2))(GWo:Ca P w K mg base CX0 7 "worked_out" lS26 (spWorked P w K mg base 6))(GP:∀X:HX,XOk X->X.cP=cP->X.cL=cL->X.T4=t.t4->X.T5=t.t5->X.T6=t.t6->X.T7=t.t7->Ca P w K mg base CX0 5 "begun_place" lS3 (spBegPl P w K mg base X))(m_zip:mg "zip"=none)(m_tuple:mg "tuple"=none):FnOk P w K mg base CX0 8 f fd ["one","owns"] (spHeldDef t):=by
 refine F.by scHeldDef (fun vs H Q E h=>?_) (fun A outer s H vs Q E hr h=>?_)
 ·obtain⟨p,od,d,ow,N,rfl,_⟩:=h
  rfl
 obtain⟨p,od,d,ow,NN,rfl,hF,hO,hD,hT,q⟩:=h;have hr2:Room 2 _:=hr.mono (by decide);have hr4:Room 4 _:=hr.mono (by decide);have hr6:Room 6 _:=hr.mono (by decide);refine⟨_,
  (zh (sE 2 scHeldDef.nd (ve GPu hr4 rfl yJ (jA2 (jv 0) (jv 1))))
  (zh (yx ["param","own"] (i:=3) scHeldDef.nd rfl (Or.inl rfl) rfl (yI K rfl m_zip (jA2 (zn K (jv 0)) (yZ hr (jv 1) (zn K (jv 0))))) (fun _ _ _ _ _=>(zN K (n:=2) rfl (zu (gN 6 j5) (zu (gN 7 j5) zM)))) (fun _ _ _ _ _=>(z5 (yr (jv 7)))) (fun _ _ _ _ _=>(jv 6)))
  (zh (sE 4 scHeldDef.nd (ve GL hr2 rfl yJ (jA3 (zn K (jv 0)) (cA GNo hr6 (jA2 (zn K (jv 0)) (zK K (jv 2)))) (jv 3))))
  (zh (sE 5 scHeldDef.nd (Jb (E:=E0) GWo hr scHeldDef.nd rfl (fun _=>rfl) (jA2 (jv 4) (xl (params:=lmP wR) (body:=lmB wR) (scope:=lmS wR) (pos:=xE wR) (T:=t.t3) (qual:=Ws) (cl:=cl9 (s.heap.objs.size+1)) hB rfl hc rfl))))
  (zk (zv (zB (jA4 (zn K (jv 0)) (zn K (jv 0)) (zS (zH K) rfl m_tuple uN (jA1 (yZ hr (jv 1) (zn K (jv 0))))) (jv 5))))))))),?_⟩
 have sl:=zO;obtain⟨pq,pb,hp,hpq,hpb⟩:=hF.ex;obtain⟨kv,hkv,hN⟩:=id hO;obtain⟨ao,ga,hao⟩:=hN _ hD.z;have hn3:=hD.n;have hol:=hD.l;refine(zq rfl rfl (fun pu dxp hpu hdx npd=>⟨pu,dxp,p,od,d,rfl,uX9,?_,by lia,by have:=hD.s;lia,hD.a,hD.u,fun H1 bd k1 fbd hbd1 hpu1=>⟨rfl,?_⟩⟩))
 ·exact hF.keep fun b xs e=>by rw[zj (zi e hpu),zj (zi e hdx)];exact e
 have s1:Same H H1:=fun b u e=>k1 b u (zi e hpu) (by rw[zj (zi e hpu),zj (zi e hdx)];exact e);have zl:(d.ns.zip (ow d.z)).length=d.ns.length:=by rw[Ue,hol,tJ]
 refine(zg rfl (ixT (s1 _ _ hp) aI1 (zq rfl rfl (ixT (s1 _ _ hp) aI0 ⟨od,.ref ao,rfl,(show DGet H1 od (kV (.inr d.z)) (some (.ref ao))from ga ▸ DGet.k (s1 _ _ hkv)),pq,ao,false,false,_,_,rfl,SqK.t (s1 _ _ hpq),SqK.t (s1 _ _ hao),xP (xs:=d.ns.map V.str) (ys:=(ow d.z).map V.bl) (by rw[ua,ua];exact hol.symm) (fun j τ zs H'=>Same H1 H'/\(∃u v,τ=[sR p,sR od,sR pu,none,none,none,u,v])/\zs=(((d.ns.zip (ow d.z)).take j).filter (·.2)).map fun p=>V.str p.1) ⟨Same.refl _,⟨none,none,rfl⟩,rfl⟩ (fun j τ zs H' _ h=>⟨SqK.t (h.1 _ _ (s1 _ _ hpq)),SqK.t (h.1 _ _ (s1 _ _ hao))⟩) ?_ ?_⟩))))
 ·rintro i v1 v2 T τ zs H3 hv1 hv2 hTT ⟨s3,⟨u,v,rfl⟩,rfl⟩
  rw[ug]at hv1 hv2;obtain⟨y,hy,rfl⟩:=ue.mp hv1;obtain⟨e,he,rfl⟩:=ue.mp hv2;rw[wQ (Uc (z:=(y,e)).mpr ⟨hy,he⟩)];refine⟨T,(zg rfl ⟨SqT.of uX9,rfl,_,_,rfl,_,_,rfl,rfl,(zq rfl rfl ?_)⟩)⟩;have hfl:((((d.ns.zip (ow d.z)).take i).filter (·.2)).map fun p=>V.str p.1).length < sizeLine:=by
   rw[ua];refine uQ (um _ _) ?_;rw[uq];lia
  cases e
  ·exact iteF ⟨s3.new hTT,⟨_,_,rfl⟩,(u6 _).symm⟩
  ·exact iteT (zg rfl ⟨hfl,s3.new hTT,⟨_,_,rfl⟩,rfl⟩)
 rintro τ zs H3 ⟨s3,_,rfl⟩ lpar hlpar;rw[ua,ur (by lia)];have epr:((d.ns.zip (ow d.z)).filter (·.2)).map (fun p=>V.str p.1)=(upN d.ns (ow d.z)).map V.str:=by unfold upN;rw[UB];rfl
 rw[epr];have s14:Same H1 (upd H3 lpar (.lst ((upN d.ns (ow d.z)).map V.str))):=s3.new hlpar;have hlp4:=uX9 (H:=H3) (a:=lpar) (o:=.lst ((upN d.ns (ow d.z)).map V.str));generalize upd H3 lpar (.lst ((upN d.ns (ow d.z)).map V.str))=H4 at *;have s04:=s1.trans s14;have hT4:=hT.same s04;refine(zg rfl (ixT (s04 _ _ hp) aI2 (zg rfl (ixT (s04 _ _ hp) aI2 (zg rfl ⟨pu,cP,dxp,_,_,rfl,s14 _ _ hpu1,N.cl,N.a2,rfl,pb,bd,d.b,nsOf d,rfl,hpb.keep (.of s04),hD.s,s14 _ _ hbd1,hT4.n,fun H5 vn R5 k5 n5 hN5=>(zg rfl (fun pk dk hpk hdk npk=>⟨pk,dk,.ref pb,vn,.ref lpar,rfl,uX9,fun H6 k6 h6=>⟨rfl,?_⟩⟩))⟩)))));have k5':KM t.M H4 H5:=fun b u n e=>k5 b u (fun z=>n (z.imp_right .inl)) e;have s56:Same H5 H6:=fun b u e=>k6 b u (zi e hpk) (by rw[zj (zi e hpk),zj (zi e hdk)];exact e);have nm:[t.t1,t.t2,t.t3,t.t4,t.t5,t.t6,t.t7].Nodup:=nd;simp at nm
 obtain⟨⟨n12,n13,n14,n15,n16,n17⟩,⟨n23,n24,n25,n26,n27⟩,⟨n34,n35,n36,n37⟩,⟨n45,n46,n47⟩,⟨n56,n57⟩,n67⟩:=nm;have k56:KM t.M H4 H6:=k5'.trans (.of s56);have kp5:∀{b:Addr}{u:HO},H4 b=some u->(∀ps,u≠.tbl ps)->H6 b=some u:=fun{b u} e n=>k56 b u (hT4.no e n) e;have tb5:∀{T ls},TbG T ls H4->T≠t.t1->T≠t.t2->TbG T ls H5:=fun{T ls} a m1 m2=>a.keep (fun ps e=>k5 _ _ (fun z=>z.elim m1 m2) e) fun c q e=>k5' _ _ (hT4.no e (by intro _ z;unfold CodO at z;cases z)) e;have hT6:t.Ok H6:=⟨n5.same s56,(tb5 hT4.h (fun z=>n13 z.symm) (fun z=>n23 z.symm)).same s56,(tb5 hT4.a (fun z=>n14 z.symm) (fun z=>n24 z.symm)).same s56,(tb5 hT4.b (fun z=>n15 z.symm) (fun z=>n25 z.symm)).same s56,(tb5 hT4.c (fun z=>n16 z.symm) (fun z=>n26 z.symm)).same s56,(tb5 hT4.d (fun z=>n17 z.symm) (fun z=>n27 z.symm)).same s56⟩;have t06:Tups H H6:=fun b xs e=>kp5 (s04 _ _ e) (by intro _ z;cases z);have hP6:POk ⟨cP,cL,pu,dxp,od,bd,t.t4,t.t5,t.t6,t.t7,nsOf d,ow,NN⟩ 0 H6:=⟨kp5 (s14 _ _ hpu1) (by intro _ z;unfold PO at z;cases z),kp5 (s14 _ _ hbd1) (by intro _ z;cases z),hO.keep fun b u e n1 _ _=>kp5 (s04 _ _ e) n1,hT6.a,hT6.b,hT6.c,hT6.d⟩;have hlp6:=kp5 hlp4 (by intro _ z;cases z);have hN6:=(IsN.res hN5).keep (R':=resR H5 R5) ⟨.of s56,fun a xs _ e=>s56 _ _ e,fun _ z=>z⟩;generalize hX:(⟨cP,cL,pu,dxp,od,bd,t.t4,t.t5,t.t6,t.t7,nsOf d,ow,NN⟩:HX)=X at *;have xok:XOk X:=by
  subst hX;exact⟨by simp[n45,n46,n47,n56,n57,n67],hD.h⟩
 have GP':=GP X xok (by rw[<- hX]) (by rw[<- hX]) (by rw[<- hX]) (by rw[<- hX]) (by rw[<- hX]) (by rw[<- hX]);refine(zg rfl (yQ hT6.h (by unfold GN.ls9;exact .head _) (fun p hp _=>by unfold GN.ls9 at hp;rw[uo.mp hp]) fun H7 fl cc ct k7 T7 hfl nfT ncT hfl7 hcc=>?_));refine⟨[(s.heap.objs.size+1,.ref pu)],fun x hx=>?_,fun H8 pb8=>?_⟩
 ·rw[uo.mp hx]
  exact⟨2,"putter",rfl,rfl,rfl,.inl rfl⟩
 have e4:X.T4=t.t4:=by rw[<- hX]
 have e5:X.T5=t.t5:=by rw[<- hX]
 have e6:X.T6=t.t6:=by rw[<- hX]
 have e7:X.T7=t.t7:=by rw[<- hX]
 have epu:X.pu=pu:=by rw[<- hX]
 have ecL:X.cL=cL:=by rw[<- hX]
 have ens:X.ns=nsOf d:=by rw[<- hX]
 have eow:X.ow=ow:=by rw[<- hX]
 have s78:=Pub.same pb8;have hP7:POk X 0 H7:=⟨k7 _ _ (hT6.h.no hP6.o (by intro _ z;unfold PO at z;cases z)) hP6.o,k7 _ _ (hT6.h.no hP6.b (by intro _ z;cases z)) hP6.b,hP6.w.keep fun b u e n1 _ _=>k7 b u (hT6.h.no e n1) e,yA hP6.t4 k7 (by rw[e4];exact fun z=>n34 z.symm) hT6.h,yA hP6.t5 k7 (by rw[e5];exact fun z=>n35 z.symm) hT6.h,yA hP6.t6 k7 (by rw[e6];exact fun z=>n36 z.symm) hT6.h,yA hP6.t7 k7 (by rw[e7];exact fun z=>n37 z.symm) hT6.h⟩;have hP8:=hP7.same s78;have ok8:HOk mg X fl (s.heap.objs.size+1) cc ct 0 H8:=⟨hP8,s78 _ _ hfl7,s78 _ _ hcc,by rw[epu];exact pb8.cel (_,_) (.head _)⟩;have kp7:∀{b:Addr}{u:HO},H6 b=some u->(∀ps,u≠.tbl ps)->H8 b=some u:=fun{b u} e n=>s78 _ _ (k7 b u (hT6.h.no e n) e);have t68:Tups H6 H8:=fun b xs e=>kp7 e (by intro _ z;cases z);have hlp8:=kp7 hlp6 (by intro _ z;cases z);have notc:∀{b:Addr}{xs:List V},H8 b=some (.lst xs)->b≠s.heap.objs.size+1:=fun{b xs} e z=>by
  obtain⟨o,e2⟩:=pb8.cel (s.heap.objs.size+1,.ref pu) (.head _);rw[z]at e;rw[show H8 (s.heap.objs.size+1)=_ from e2]at e;cases e
 have hRl:∀b,resR H5 R5 b\/b=lpar->∃xs,H8 b=some (.lst xs):=fun b z=>by
  rcases z with⟨_,xs,e⟩|rfl
  ·exact⟨xs,kp7 (s56 _ _ e) (by intro _ z;cases z)⟩
  ·exact⟨_,hlp8⟩
 have hbl:=Bd.binds_len d.b;have hsz:=hD.s;have hul:=Wq d.ns (ow d.z);refine⟨zdp GP' fl (s.heap.objs.size+1) cc ct,.ref pk,⟨d.b,upN d.ns (ow d.z),0⟩,fun b=>resR H5 R5 b\/b=lpar,rfl,⟨⟨fun y hy=>?_,hD.b X ens eow (by rw[<- hX]),?_,hD.s,?_⟩,pk,dk,pb,lpar,vn,rfl,?_,hpb.keep (t06.trans t68),?_,hlp8,.inr rfl,notc hlp8⟩,ok8,fun b z=>?_,fun b z=>?_,?_,.inl ⟨⟨_,ok8.f⟩,hP8.noF ok8.f⟩,fun H9 v9 R9 k9 ok9 _ hv9 hcel=>?_⟩
 ·rw[ens]
  unfold upN at hy;obtain⟨z,hz,rfl⟩:=uu.mp hy;unfold nsOf;rw[xv];exact .inr (uU _ (Uv (uW.mp hz).1).1)
 ·show 0+41*d.b.sz<=LIMT
  unfold LIMT;lia
 ·show(upN d.ns (ow d.z)).length+d.b.binds.length<=2000000
  lia
 ·rw[ecL]
  exact kp7 h6 (by intro _ z;unfold LO at z;cases z)
 ·rw[ens]
  exact hN6.keep ⟨t68,fun a xs _ e=>kp7 e (by intro _ z;cases z),fun a z=>⟨.inl z,let ⟨xs,e⟩:=hRl a (.inl z);notc e⟩⟩
 ·obtain⟨xs,e⟩:=hRl b z
  rw[e];simp
 ·obtain⟨xs,e⟩:=hRl b z
  exact hP8.noL e
 ·show 2*d.b.sz<=10000000
  lia
 have hcA:∀a∈([(s.heap.objs.size+1,V.ref pu)]:List (Addr×V)).map (·.1),∃v,Cel H9 a v:=fun a ha=>by
  obtain⟨x,hx,rfl⟩:=uu.mp ha;exact⟨_,hcel x hx⟩
 have hv:IsHc H9 (GN.hB (nsOf d) ow d.b (upN d.ns (ow d.z)) 0).1 v9:=by
  rw[<- ens,<- eow];rw[<- eow]at hv9;exact hv9
 have kb:∀{b:Addr}{u:HO},H7 b=some u->¬ X.M b->z7 H9 (([(s.heap.objs.size+1,V.ref pu)]:List (Addr×V)).map (·.1)) b=some u:=fun{b u} e n=>by
  rw[zZ]
  ·exact k9 b u n (s78 _ _ e)
  ·intro z
   obtain⟨x,hx,rfl⟩:=uu.mp z;rw[pb8.non x hx]at e;cases e
 have k010:KM t.M H (z7 H9 (([(s.heap.objs.size+1,V.ref pu)]:List (Addr×V)).map (·.1))):=fun b u n e=>by
  refine kb (k7 b u (fun z=>n (.inr (.inr (.inl z)))) (k56 b u n (s04 _ _ e))) ?_;rintro(z|z|z|z|z)
  ·rw[z,epu,hpu]at e;cases e
  ·exact n (.inr (.inr (.inr (.inl (z.trans e4)))))
  ·exact n (.inr (.inr (.inr (.inr (.inl (z.trans e5))))))
  ·exact n (.inr (.inr (.inr (.inr (.inr (.inl (z.trans e6)))))))
  ·exact n (.inr (.inr (.inr (.inr (.inr (.inr (z.trans e7)))))))
 have t010:Tups H (z7 H9 (([(s.heap.objs.size+1,V.ref pu)]:List (Addr×V)).map (·.1))):=fun b xs e=>k010 b _ (hT.no e (by intro _ z;cases z)) e;have nX:∀{T ls},TbG T ls H7->T≠t.t4->T≠t.t5->T≠t.t6->T≠t.t7->¬ X.M T:=fun{T ls} a m4 m5 m6 m7=>by
  rintro(z|z|z|z|z)
  ·obtain⟨ps,h,_⟩:=a
   rw[z,hP7.o]at h;unfold PO at h;cases h
  ·exact m4 (z.trans e4)
  ·exact m5 (z.trans e5)
  ·exact m6 (z.trans e6)
  ·exact m7 (z.trans e7)
 have up:∀{T ls},TbG T ls H7->¬ X.M T->TbG T ls (z7 H9 (([(s.heap.objs.size+1,V.ref pu)]:List (Addr×V)).map (·.1))):=fun{T ls} a n=>a.keep (fun ps e=>kb e n) fun c q e=>kb e (hP7.noC e);have dn:∀{T ls},TbG T ls H9->TbG T ls (z7 H9 (([(s.heap.objs.size+1,V.ref pu)]:List (Addr×V)).map (·.1))):=fun{T ls} a=>a.keep (fun ps e=>zJ hcA e (by intro _ _ _ z;cases z)) fun c q e=>zJ hcA e (by intro _ _ _ z;unfold CodO at z;cases z);have g1:=yA hT6.n.t1 k7 n13 hT6.h;have g2:=yA hT6.n.t2 k7 n23 hT6.h;have ok10:t.Ok (z7 H9 (([(s.heap.objs.size+1,V.ref pu)]:List (Addr×V)).map (·.1))):=⟨⟨up g1 (nX g1 n14 n15 n16 n17),up g2 (nX g2 n24 n25 n26 n27)⟩,up T7 (nX T7 n34 n35 n36 n37),by rw[<- e4];exact dn ok9.p.t4,by rw[<- e5];exact dn ok9.p.t5,by rw[<- e6];exact dn ok9.p.t6,by rw[<- e7];exact dn ok9.p.t7⟩;have hv10:=hv.keep (yj hcA);have hkv10:=k010 _ _ (hT.no hkv (by intro _ z;cases z)) hkv;generalize z7 H9 (([(s.heap.objs.size+1,V.ref pu)]:List (Addr×V)).map (·.1))=H10 at *;refine(zg rfl (ixT (t010 _ _ hp) aI0 (zg rfl (ixT (t010 _ _ hp) aI1 (zq rfl rfl (ixT (t010 _ _ hp) aI0 ⟨od,.ref ao,rfl,(show DGet H10 od (kV (.inr d.z)) (some (.ref ao))from ga ▸ DGet.k hkv10),ao,(zg rfl (.inr ⟨SqT.of (t010 _ _ hao),(zg rfl ⟨sN4,fun r hr=>?_⟩)⟩))⟩))))));have sn:=zo (o:=.tup [.str d.z,.ref pq,.ref ao,v9]) hr;exact q _ r (k010.trans (.of sn)) (ok10.same sn) ⟨pq,ao,v9,uX9,sn _ _ (t010 _ _ hpq),sn _ _ (t010 _ _ hao),hv10.keep (.of sn)⟩
inductive spHeld(t:TT)(vs:List V)(H:Hp)(Q:VK)(e_3:XK):Prop
 |mk (pp:Addr) (pd:Addr) (od:Addr) (v0:V) (ps:List Addr) (dfs:List Df) (ow:Str->List Bool):(∃N:lS,vs=[.ref pp,.ref od]/\H pp=some (.tup [v0,.ref pd])/\H pd=some (.tup (ps.map V.ref))/\IsFs H dfs ps/\dfs.length<=1000/\OwA H od ow N/\(∀d∈dfs,DfOk ow N d)/\t.Ok H/\∀H' r q rs,KM t.M H H'->t.Ok H'->H' r=some (.tup [v0,.ref q])->H' q=some (.tup (rs.map V.ref))->All2 (IsHF H' ow) dfs rs->Q (.ref r) H')->spHeld t vs H Q e_3
theorem zdq:FnScope lS28 lS28 (zp Js):=.ok
theorem zdr:(["program","owns","one"]:lS).Nodup:=by decide +kernel
theorem za0{t:TT}(F:Fun K "held" "held" Js f fd)(GD:Ca P w K mg base CX0 8 "held_def" ["one","owns"] (spHeldDef t))(m_tuple:mg "tuple"=none):FnOk P w K mg base CX0 9 f fd lS28 (spHeld t):=by
 refine F.by zdq (fun vs H Q E h=>?_) (fun cdv A outer s H vs Q E hr h=>?_)
 ·obtain⟨pp,pd,od,v0,ps,dfs,ow,N,rfl,_⟩:=h
  rfl
 obtain⟨pp,pd,od,v0,ps,dfs,ow,N,rfl,hp,hpd,hFs,hlen,hO,hD,hT,q⟩:=h;refine⟨_,(zk (zv (zB (jA2 (zn K (jv 0)) (zS (zH K) rfl m_tuple uN (jA1 (yf ["one"] rfl (yH K (zn K (jv 0))) (fun _ _ _ _ _=>(gN 2 zdr)) (fun _ _ _ _ _=>yn) (fun _ _ _ _ _=>(cA GD hr (jA2 (jv 2) (jv 1))))))))))),?_⟩;have sl:=zO;have fl:=hFs.len;have tk:∀{H':Hp},KM t.M H H'->Tups H H':=fun k b xs e=>k _ _ (hT.no e (by intro _ z;cases z)) e;refine(zg rfl (ixT hp aI0 (zg rfl (ixT hp aI1 ⟨pd,rfl,⟨_,SqT.of hpd⟩,Zl (xs:=ps.map V.ref) (fun j τ zs H'=>KM t.M H H'/\t.Ok H'/\(∃u,τ=[sR pp,sR od,u])/\∃rs:List Addr,zs=rs.map V.ref/\All2 (IsHF H' ow) (dfs.take j) rs) ⟨KM.refl,hT,⟨none,rfl⟩,[],rfl,.nil⟩ (fun j τ zs H' _ h=>SqT.of (tk h.1 _ _ hpd)) ?_ ?_⟩))))
 ·rintro j v τ zs H1 hv ⟨k1,T1,⟨u,rfl⟩,rs,rfl,hrs⟩
  obtain⟨p0,hp0,rfl⟩:=L2.gM hv;obtain⟨d,hd,hF⟩:=hFs.get hp0;have rl:=hrs.len;rw[uq]at rl;refine(zq rfl rfl ⟨p0,od,d,ow,N,rfl,hF.keep (tk k1),hO.keep fun b u e n1 _ _=>k1 b u (hT.no e n1) e,hD d (uw hd),T1,fun H2 r k2 T2 h2=>⟨by rw[ua];lia,k1.trans k2,T2,⟨_,rfl⟩,rs++[r],by simp,?_⟩⟩);rw[uD,hd];exact All2.app (hrs.imp fun _ _ h=>h.keep fun b xs e=>k2 _ _ (T1.no e (by intro _ z;cases z)) e) (.cons h2 .nil)
 ·rintro τ zs H1 ⟨k1,T1,_,rs,rfl,hrs⟩ l hl
  rw[ua,ur (by lia)]at hrs;refine⟨l,(zg rfl (.inl ⟨SqL.of uX9,fun q2 hq2=>⟨sN2,fun r hr=>?_⟩⟩))⟩;have s1:Same H1 _:=(zo (o:=.lst (rs.map V.ref)) hl).new (o:=.tup (rs.map V.ref)) hq2;have s2:=s1.new (o:=.tup [v0,.ref q2]) hr;exact q _ r q2 rs (k1.trans (.of s2)) (T1.same s2) uX9 (old hr uX9) (hrs.imp fun _ _ h=>h.keep (.of s2))
theorem J7:∀{m:Nat},m≠0->∃i,m.testBit i=true:=fun{m} h=>by
 by_cases c:∃i,m.testBit i=true
 ·exact c
 ·exact absurd (Nat.eq_of_testBit_eq fun i=>by
   rw[tI];cases e:m.testBit i
   ·rfl
   ·exact absurd ⟨i,e⟩ c) h
theorem zds(nd:ns.Nodup){b:Bd}(hx:x∈ns):ahB ns b x=true↔b.fr x:=by
 unfold ahB;rw[bne_iff_ne]
 constructor
 ·intro h
  obtain⟨i,hi⟩:=J7 h;rw[Nat.testBit_and,uJ,wL nd,decide_eq_true_eq]at hi;obtain⟨y,h1,h2⟩:=(Bd.mk_bit nd i b).mp hi.1;rw[hi.2]at h1;cases h1;exact h2
 ·intro h e
  obtain⟨i,hi,e2⟩:=List.getElem_of_mem hx;have g:ns[i]?=some x:=by rw[uh hi,e2]
  have:(b.mk ns &&& bitN ns x).testBit i=true:=by
   rw[Nat.testBit_and,uJ,wL nd,decide_eq_true_eq];exact⟨(Bd.mk_bit nd i b).mpr ⟨x,g,h⟩,g⟩
  rw[e,tI]at this;cases this
def less:lS->lS->Option (lS)
 |l,[]=>some l
 |l,x::xs=>if x∈l then less (l.erase x) xs else none
def spr(fr:lS):lS->lS->Nat->lS×List (Str×Str)×Nat
 |_,[],m=>([],[],m)
 |st,x::r,m=>if x∈fr/\x∉st then(x::(spr fr (st++[x]) r m).1,(spr fr (st++[x]) r m).2)else(nnm x (m+1)::(spr fr (st++[nnm x (m+1)]) r (m+1)).1,(nnm x (m+1),x)::(spr fr (st++[nnm x (m+1)]) r (m+1)).2.1,(spr fr (st++[nnm x (m+1)]) r (m+1)).2.2)
theorem ZK(fr:lS):∀(xs st:lS)(ps:List (Str×Str))(m:Nat),xs.foldl (spS fr) (st,ps,m)=(st++(spr fr st xs m).1,ps++(spr fr st xs m).2.1,(spr fr st xs m).2.2)
 |[],st,ps,m=>by unfold spr;simp
 |x::xs,st,ps,m=>by
  rw[UI,spr];by_cases c:x∈fr/\x∉st
  ·rw[show spS fr (st,ps,m) x=(st++[x],ps,m)from if_pos c,if_pos c,ZK fr xs]
   simp
  ·rw[show spS fr (st,ps,m) x=(st++[nnm x (m+1)],ps++[(nnm x (m+1),x)],m+1)from if_neg c,if_neg c,ZK fr xs]
   simp
theorem xm(fr xs:lS)(m:Nat):spn fr xs m=spr fr [] xs m:=by
 unfold spn;rw[ZK];simp
theorem xb{fr:lS}:∀(xs st:lS)(m:Nat)(p:Str×Str),p∈(spr fr st xs m).2.1->p.2∈xs/\∃k,p.1=nnm p.2 k
 |[],st,m,p,h=>by unfold spr at h;cases h
 |x::xs,st,m,p,h=>by
  unfold spr at h;split at h
  ·obtain⟨a,b⟩:=xb xs _ m p h
   exact⟨.tail _ a,b⟩
  ·rcases uk.mp h with rfl|h
   ·exact⟨.head _,_,rfl⟩
   ·obtain⟨a,b⟩:=xb xs _ (m+1) p h
    exact⟨.tail _ a,b⟩
def rpr:lS->List Bool->lS->lS
 |x::xs,e::es,st=>if e then st.headD "" :: rpr xs es st.tail else x::rpr xs es st
 |_,_,_=>[]
theorem ZM(st:lS):∀(xs:lS)(es:List Bool)(acc:lS)(k:Nat),((xs.zip es).foldl (rpS st) (acc,k)).1=acc++rpr xs es (st.drop k)
 |[],es,acc,k=>by unfold rpr;simp
 |x::xs,[],acc,k=>by unfold rpr;simp
 |x::xs,e::es,acc,k=>by
  rw[List.zip_cons_cons,UI,rpr];cases e
  ·rw[show rpS st (acc,k) (x,false)=(acc++[x],k)from rfl,ZM st xs es]
   simp
  ·rw[show rpS st (acc,k) (x,true)=(acc++[st.getD k ""],k+1)from rfl,ZM st xs es,if_pos rfl,List.tail_drop]
   have:st.getD k ""=(st.drop k).headD "":=by rw[Ua,List.headD_eq_head?_getD,List.head?_drop]
   rw[this];simp
theorem vv(xs:lS)(es:List Bool)(st:lS):rpl xs es st=rpr xs es st:=by
 unfold rpl;rw[ZM];simp
theorem xw(x:Str)(xs:lS)(e:Bool)(es:List Bool):upN (x::xs) (e::es)=if e then x::upN xs es else upN xs es:=by
 unfold upN;cases e<;>simp
theorem xx(x:Str)(xs:lS)(e:Bool)(es:List Bool):ltN (x::xs) (e::es)=if e then ltN xs es else x::ltN xs es:=by
 unfold ltN;cases e<;>simp
theorem ZO:∀(xs:lS)(es:List Bool)(st:lS),xs.length=es.length->st.length=(upN xs es).length->upN (rpr xs es st) es=st
 |[],[],st,_,h=>by
  unfold rpr upN at *;simp at h
  rw[h]
  rfl
 |x::xs,e::es,st,hl,h=>by
  rw[rpr];rw[xw]at h;simp at hl
  cases e
  ·rw[if_neg (by decide),xw,if_neg (by decide)]
   rw[if_neg (by decide)]at h;exact ZO xs es st hl h
  ·rw[if_pos rfl,xw,if_pos rfl]
   rw[if_pos rfl]at h;cases st with
   |nil=>simp at h
   |cons s st =>
    rw[List.tail_cons,ZO xs es st hl (by simpa using h)]
    rfl
theorem vw:∀(xs:lS)(es:List Bool)(st:lS),xs.length=es.length->ltN (rpr xs es st) es=ltN xs es
 |[],[],st,_=>by unfold rpr;rfl
 |x::xs,e::es,st,hl=>by
  rw[rpr,xx];simp at hl
  cases e
  ·rw[if_neg (by decide),xx,if_neg (by decide),if_neg (by decide),vw xs es st hl]
  ·rw[if_pos rfl,xx,if_pos rfl,if_pos rfl,vw xs es st.tail hl]
theorem vx:∀(xs st:lS),st.length=xs.length->rpr xs (xs.map fun _=>true) st=st
 |[],st,h=>by
  unfold rpr;simp at h
  rw[h]
 |x::xs,st,h=>by
  cases st with
  |nil=>simp at h
  |cons s st =>
   rw[uC,rpr,if_pos rfl,List.tail_cons,vx xs st (by simpa using h)]
   rfl
theorem vy:∀xs:lS,upN xs (xs.map fun _=>true)=xs
 |[]=>rfl
 |x::xs=>by rw[uC,xw,if_pos rfl,vy xs]
def ups(ow:Str->List Bool):De->lS
 |.app w f xs=>if w="ask"then f::xs else if w="call"then upN xs (ow f)else xs
 |_=>[]
def yT(ow:Str->List Bool):De->lS
 |.op _ a b=>[a,b]
 |.app w f xs=>if w="call"then ltN xs (ow f)else[]
 |_=>[]
theorem zdt(hc:CaD N ow d)(h:st.length=(upN d.uses (ends ow d)).length):ups ow (hdD ow d st)=st/\∀y∈yT ow (hdD ow d st),y∈ltN d.uses (ends ow d):=by
 unfold hdD;rw[vv];cases d with
 |num i =>
  have:st=[]:=u5.mp h
  exact⟨this.symm,fun y hy=>by cases hy⟩
 |op w a b =>
  have e:st=[]:=u5.mp h;exact⟨e.symm,fun y hy=>hy⟩
 |app w f xs =>
  by_cases e:w="ask"
  ·subst e
   have ee:ends ow (.app "ask" f xs)=(f::xs).map fun _=>true:=by
    rw[<- zX (f:=f) (xs:=xs)];exact if_neg (t:=ow f) (show ¬ (("ask":Str)="call") by decide)
   rw[ee,zX,vy]at h;rw[ee,zX,vx _ _ h];cases st with
   |nil=>simp at h
   |cons s st =>
    rw[ZH];refine⟨by unfold ups;exact if_pos rfl,fun y hy=>?_⟩
    have:yT ow (.app "ask" s st)=[]:=by unfold yT;exact if_neg (by decide)
    rw[this]at hy;cases hy
  ·rw[wY e]
   rw[zV e]at h ⊢;by_cases e2:w="call"
   ·subst e2
    have ee:ends ow (.app "call" f xs)=ow f:=by unfold ends;exact if_pos rfl
    have hl:=(hc rfl).2;rw[ee]at h ⊢;have u:ups ow (.app "call" f (rpr xs (ow f) st))=upN (rpr xs (ow f) st) (ow f):=by
     show(if("call":Str)="ask"then f::rpr xs (ow f) st else if("call":Str)="call"then upN (rpr xs (ow f) st) (ow f)else rpr xs (ow f) st)=_;rw[if_neg (show ¬ (("call":Str)="ask") by decide),if_pos rfl]
    have l:yT ow (.app "call" f (rpr xs (ow f) st))=ltN (rpr xs (ow f) st) (ow f):=by unfold yT;exact if_pos rfl
    rw[u,l,ZO xs (ow f) st hl.symm h,vw xs (ow f) st hl.symm];exact⟨rfl,fun y hy=>hy⟩
   ·have ee:ends ow (.app w f xs)=xs.map fun _=>true:=by
     rw[show ends ow (.app w f xs)=(De.uses (.app w f xs)).map fun _=>true from if_neg e2,zV e]
    rw[ee,vy]at h;rw[ee,vx _ _ h];refine⟨?_,fun y hy=>?_⟩
    ·show(if w="ask"then f::st else if w="call"then upN st (ow f)else st)=st
     rw[if_neg e,if_neg e2]
    ·have:yT ow (.app w f st)=[]:=if_neg e2
     rw[this]at hy;cases hy
mutual
def wk(ow:Str->List Bool)(lent:lS):Hc->lS->Bool
 |.give x,l=>decide (l=[x])
 |.drop x b,l=>match less l [x]with
  |none=>false
  |some l'=>wk ow lent b l'
 |.lt x d b,l=>match less l (ups ow d)with
  |none=>false
  |some l'=>((yT ow d).all fun y=>decide (y∈l') || decide (y∈lent)) && wk ow lent b (l'++[x])
 |.hold n x b,l=>(decide (x∈l) || decide (x∈lent)) && wk ow lent b (l++[n])
 |.iff x a b,l=>(decide (x∈l) || decide (x∈lent)) && (wk ow lent a l && wk ow lent b l)
 |.case x as,l=>(decide (x∈l) || decide (x∈lent)) && wkA ow lent x as l
def wkA(ow:Str->List Bool)(lent:lS)(x:Str):Ha->lS->Bool
 |.nil,_=>true
 |.cons _ xs m b r,l=>(match (if m then less l [x]else some l)with
  |none=>false
  |some l'=>wk ow lent b (l'++xs)) && wkA ow lent x r l
end
theorem vz{xs:lS}(h:y∈upN xs es):y∈xs:=by
 unfold upN at h;obtain⟨z,hz,rfl⟩:=uu.mp h;exact(Uv (uW.mp hz).1).1
theorem za1{xs:lS}(h:y∈ltN xs es):y∈xs:=by
 unfold ltN at h;obtain⟨z,hz,rfl⟩:=uu.mp h;exact(Uv (uW.mp hz).1).1
def WdOk:De->Prop
 |.app w _ _=>w≠"num"/\w≠"op"
 |_=>True
inductive spLUps(vs:List V)(H:Hp)(Q:VK)(e_3:XK):Prop
 |mk (p:Addr) (od:Addr) (d:De) (ow:Str->List Bool):(∃N:lS,vs=[.ref p,.ref od]/\IsHd H d p/\WdOk d/\OwA H od ow N/\CaD N ow d/\d.uses.length<=100/\∀H' l,Same H H'->H l=none->H' l=some (.lst ((ups ow d).map V.str))->Q (.ref l) H')->spLUps vs H Q e_3
theorem XR{f0:Str}{xs:lS}(h:IsHd H (.app w0 f0 xs) p):∃q rest,H p=some (.tup (.str w0::.str f0::.ref q::rest))/\H q=some (.tup (xs.map V.str)):=by
 obtain⟨q,h1,h2⟩:=h;by_cases e:w0="make"
 ·rw[if_pos e]at h1;exact⟨q,_,h1,h2⟩
 ·rw[if_neg e]at h1;exact⟨q,_,h1,h2⟩
theorem zdu:FnScope lS2 lS2 (zp Jt):=.ok
theorem ZP:(["_law_deed_here","_law_owns_here","_law_name_here","_law_own"]:lS).Nodup:=by decide +kernel
theorem za2(F:Fun K "_law_ups" "_law_ups" Jt f fd)(m_list:mg "list"=none)(m_zip:mg "zip"=none):FnOk P w K mg base CX0 1 f fd lS2 spLUps:=by
 refine F.by zdu (fun vs H Q E h=>?_) (fun cdv A outer s H vs Q E hr h=>?_)
 ·obtain⟨p,od,d,ow,N,rfl,_⟩:=h
  rfl
 obtain⟨p,od,d,ow,N,rfl,hd,hw,hO,hc,hu,q⟩:=h;refine⟨_,
  (zh (zE (jW.pt (wu (tN zI (zn K (jv 0)) zw) (xM (tN zI (zn K (jv 0)) zw)))) (zk (zv (zD zL))) zx)
  (zh (zE (tN zI (zn K (jv 0)) zw) (zk (zv (zA yz (zD (jA1 (zn K (jv 0)))) (zS (yK K) rfl m_list Ut (jA1 (zn K (jv 0))))))) zx)
  (zh (zE (tN zI (zn K (jv 0)) zw) (zk (zv (yf ["_law_name_here","_law_own"] rfl (yI K rfl m_zip (jA2 (zn K (jv 0)) (yZ hr (jv 1) (zn K (jv 0))))) (fun _ _ _ _ _=>(zN K (n:=2) rfl (zu (gN 2 ZP) (zu (gN 3 ZP) zM)))) (fun _ _ _ _ _=>(z5 (yr (jv 3)))) (fun _ _ _ _ _=>(jv 2))))) zx)
  (zk (zv (zS (yK K) rfl m_list Ut (jA1 (zn K (jv 0))))))))),?_⟩
 have sl:=zO;cases d with
 |num i =>
  refine(zg rfl (ixT hd aI0 ⟨rfl,(zg rfl (iteT (iteT ⟨sN0,fun l hl=>?_⟩)))⟩));exact q _ l (zo hl _) hl uX9
 |op w0 a b =>
  refine(zg rfl (ixT hd aI0 ⟨rfl,(zg rfl (iteF (zg rfl (ixT hd aI0 ⟨rfl,(zg rfl (iteT ⟨sN0,fun l hl=>?_⟩))⟩))))⟩));exact q _ l (zo hl _) hl uX9
 |app w0 f0 xs =>
  obtain⟨qx,rest,hp,hq⟩:=XR hd;refine(zg rfl (ixT hp aI0 ⟨rfl,(zg rfl ?_)⟩));rw[decide_eq_false (fun e=>hw.1 (V.str.inj e))];refine iteF (zg rfl (ixT hp aI0 ⟨rfl,(zg rfl ?_)⟩));rw[decide_eq_false (fun e=>hw.2 (V.str.inj e))];refine iteF ?_;refine(zg rfl (ixT hp aI0 ⟨rfl,(zg rfl ?_)⟩));by_cases e:w0="ask"
  ·subst e
   refine iteT ?_;refine(zg rfl (ixT hp aI1 ⟨sN1,fun l1 h1=>(zg rfl (ixT (old h1 hp) aI2 ⟨qx,(zg rfl ⟨.inr (SqT.of (old h1 hq)),fun l2 h2=>⟨l1,l2,(zC rfl rfl ⟨old h2 uX9,uX9,?_,fun l3 h3=>?_⟩)⟩⟩)⟩))⟩))
   ·rw[zX,ui]at hu
    rw[ua];show 1+_<=_;lia
   ·have s3:=((zo (H:=H) h1 (.lst [.str f0])).new (o:=.lst (xs.map V.str)) h2)
    refine q _ l3 (s3.new h3) (s3.free h3) ?_;rw[uX9]
    have:ups ow (.app "ask" f0 xs)=f0::xs:=by unfold ups;exact if_pos rfl
    rw[this]
    rfl
  ·rw[decide_eq_false (fun z=>e (V.str.inj z))]
   refine iteF ?_;rw[zV e]at hu;refine(zg rfl (ixT hp aI0 ⟨rfl,(zg rfl ?_)⟩));by_cases e2:w0="call"
   ·subst e2
    refine iteT ?_;obtain⟨kv,hkv,hN⟩:=hO;obtain⟨hf,hfl⟩:=hc rfl;obtain⟨ao,ga,hao⟩:=hN _ hf;have eu:ups ow (.app "call" f0 xs)=upN xs (ow f0):=by
     show(if("call":Str)="ask"then f0::xs else if("call":Str)="call"then upN xs (ow f0)else xs)=_;rw[if_neg (show ¬ (("call":Str)="ask") by decide),if_pos rfl]
    have zl:(xs.zip (ow f0)).length=xs.length:=by rw[Ue,hfl,tJ]
    refine(zg rfl (ixT hp aI2 (zq rfl rfl (ixT hp aI1 ⟨od,.ref ao,rfl,(show DGet H od (kV (.inr f0)) (some (.ref ao))from ga ▸ DGet.k hkv),qx,ao,false,false,_,_,rfl,SqK.t hq,SqK.t hao,xP (xs:=xs.map V.str) (ys:=(ow f0).map V.bl) (by rw[ua,ua];exact hfl.symm) (fun j τ zs H'=>Same H H'/\(∃u v,τ=[sR p,sR od,u,v])/\zs=(((xs.zip (ow f0)).take j).filter (·.2)).map fun p=>V.str p.1) ⟨Same.refl _,⟨none,none,rfl⟩,rfl⟩ (fun j τ zs H' _ h=>⟨SqK.t (h.1 _ _ hq),SqK.t (h.1 _ _ hao)⟩) ?_ ?_⟩))))
    ·rintro i v1 v2 T τ zs H3 hv1 hv2 hT ⟨s3,⟨u,v,rfl⟩,rfl⟩
     rw[ug]at hv1 hv2;obtain⟨y,hy,rfl⟩:=ue.mp hv1;obtain⟨e,he,rfl⟩:=ue.mp hv2;rw[wQ (Uc (z:=(y,e)).mpr ⟨hy,he⟩)];refine⟨T,(zg rfl ⟨SqT.of uX9,rfl,_,_,rfl,_,_,rfl,rfl,(zq rfl rfl ?_)⟩)⟩;have hfl:((((xs.zip (ow f0)).take i).filter (·.2)).map fun p=>V.str p.1).length < sizeLine:=by
      rw[ua];refine uQ (um _ _) ?_;rw[uq];lia
     cases e
     ·exact iteF ⟨s3.new hT,⟨_,_,rfl⟩,(u6 _).symm⟩
     ·exact iteT (zg rfl ⟨hfl,s3.new hT,⟨_,_,rfl⟩,rfl⟩)
    rintro τ zs H3 ⟨s3,_,rfl⟩ l hl;rw[ua,ur (by lia)];refine q _ l (s3.new hl) (s3.free hl) ?_;rw[uX9,eu];unfold upN;rw[UB]
    rfl
   ·rw[decide_eq_false (fun z=>e2 (V.str.inj z))]
    refine iteF ?_;refine(zg rfl (ixT hp aI2 ⟨qx,(zg rfl ⟨.inr (SqT.of hq),fun l1 h1=>?_⟩)⟩));refine q _ l1 (zo h1 _) h1 ?_;rw[uX9]
    have:ups ow (.app w0 f0 xs)=xs:=(if_neg e).trans (if_neg e2)
    rw[this]
mutual
def Hc.dp:Hc->Nat
 |.give _=>1
 |.lt _ _ b=>b.dp+2
 |.hold _ _ b=>b.dp+1
 |.drop _ b=>b.dp+1
 |.iff _ a b=>max a.dp b.dp+1
 |.case _ as=>as.dp+2
def Ha.dp:Ha->Nat
 |.nil=>0
 |.cons _ _ _ b r=>max b.dp r.dp
end
mutual
def Hc.Ok(N:lS)(ow:Str->List Bool):Hc->Prop
 |.give _=>True
 |.lt _ d b=>(WdOk d/\CaD N ow d/\d.uses.length<=100)/\b.Ok N ow
 |.hold _ _ b=>b.Ok N ow
 |.drop _ b=>b.Ok N ow
 |.iff _ a b=>a.Ok N ow/\b.Ok N ow
 |.case _ as=>as.Ok N ow
def Ha.Ok(N:lS)(ow:Str->List Bool):Ha->Prop
 |.nil=>True
 |.cons _ ns _ b r=>(ns.length<=100/\b.Ok N ow)/\r.Ok N ow
end
theorem Hc.dp_pos:∀c:Hc,0 < c.dp
 |.give _=>by rw[Hc.dp];decide
 |.lt _ _ b=>by rw[Hc.dp];lia
 |.hold _ _ b=>by rw[Hc.dp];lia
 |.drop _ b=>by rw[Hc.dp];lia
 |.iff _ a b=>by rw[Hc.dp];lia
 |.case _ as=>by rw[Hc.dp];lia
theorem Bd.dp_pos:∀b:Bd,0 < b.dp
 |.give _=>by rw[Bd.dp];decide
 |.lt _ _ b=>by rw[Bd.dp];lia
 |.iff _ a b=>by rw[Bd.dp];lia
 |.case _ as=>by rw[Bd.dp];lia
theorem J8:∀{as:Arms}{i:Nat}{ns:lS}{b:Bd},as.ways[i]?=some (ns,b)->b.dp<=as.dp
 |.nil,i,ns,b,h=>by unfold Arms.ways at h;simp at h
 |.cons t xs c r,i,ns,b,h=>by
  unfold Arms.ways at h;rw[Arms.dp];cases i with
  |zero=>simp at h;rw[h.2];exact Nat.le_max_left _ _
  |succ i=>exact uI (J8 (as:=r) (i:=i) (by simpa using h)) (Nat.le_max_right _ _)
theorem YQ{l:Wy}{p:lS×Bd}(h:l[i]?=some p):wsz (l.take (i+1))=wsz (l.take i)+p.2.sz:=by
 rw[uD,h,vt]
 rfl
theorem J9(l:Wy)(i:Nat):wsz (l.take i)<=wsz l:=by
 have:=vt (l.take i) (l.drop i)
 rw[List.take_append_drop]at this;lia
inductive spNamed(n:Nat)(vs:List V)(H:Hp)(Q:VK)(e_3:XK):Prop
 |mk (p:Addr):(∃b:Bd,vs=[.ref p]/\IsB H b p/\b.dp<=n/\b.sz<=1000000/\∀(H':Hp)(r:Addr)(xs:lS),Same H H'->H r=none->H' r=some (.lst (xs.map V.str))->xs.length<=b.sz->Q (.ref r) H')->spNamed n vs H Q e_3
theorem scNamed:FnScope ["_law_body_here","_law_found","_law_tag","_law_names","_law_inner"] ["_law_body_here"] (zp vp):=.ok
theorem Vk(F:Fun K "_law_named" "_law_named" vp f fd):FnOk P w K mg base CX0 (1+0) f fd ["_law_body_here"] (spNamed 0):=by
 refine F.by scNamed (fun vs H Q E h=>?_) (fun cdv A outer s H vs Q E hr h=>?_)
 ·obtain⟨p,b,rfl,_⟩:=h
  rfl
 obtain⟨p,b,rfl,_,hd,_⟩:=h;exact absurd hd (Nat.not_le_of_gt b.dp_pos)
theorem Qa(F:Fun K "_law_named" "_law_named" vp f fd)(GN':Ca P w K mg base CX0 (1+n) "_law_named" ["_law_body_here"] (spNamed n)):FnOk P w K mg base CX0 (1+(n+1)) f fd ["_law_body_here"] (spNamed (n+1)):=by
 refine F.by scNamed (fun vs H Q E h=>?_) (fun cdv A outer s H vs Q E hr h=>?_)
 ·obtain⟨p,b,rfl,_⟩:=h
  rfl
 obtain⟨p,b,rfl,hI,hd,hz,q⟩:=h;have hrN:Room (1+n) _:=hr;refine⟨_,
  (zh (zE (tN zI (zn K (jv 0)) zw)
   (zk (zv (zD zL)))  zx)
  (zh (zE (tN zI (zn K (jv 0)) zw)
   (zh (sE 1 scNamed.nd (cA GN' hrN (jA1 (zn K (jv 0)))))
   (zh (zE (tN zI (zn K (zn K (jv 0))) zw)
    (zk (yw (yP uF uS uT yi (jv 1) (jA1 (zn K (zn K (jv 0)))))))  zx)
   (zk (zv (jv 1)))))  zx)
  (zh (zE (tN zI (zn K (jv 0)) zw)
   (zk (zv (zA yz (cA GN' hrN (jA1 (zn K (jv 0)))) (cA GN' hrN (jA1 (zn K (jv 0)))))))  zx)
  (zh (sE 1 scNamed.nd (zD zL))
  (zh (yt PassesOwn.never rfl (yH K (zn K (jv 0))) (zN K rfl (zu (gN 2 scNamed.nd) (zu (gN 3 scNamed.nd) (zu (gN 4 scNamed.nd) zM))))
   (zk (sE 1 scNamed.nd (zA yz (jv 1) (cA GN' hrN (jA1 (jv 4)))))))
  (zk (zv (jv 1)))))))),?_⟩
 have sl:=zO;cases hI with
 |@give x p hp =>
  refine(yV rfl hp ⟨sN0,fun l1 h1=>?_⟩);exact q _ l1 [] (zo h1 _) h1 uX9 (uM _)
 |@lt x d b p q0 r hp hD hb =>
  rw[Bd.dp]at hd;rw[Bd.sz]at hz q;refine(ya rfl hp (yV rfl hp ?_));refine(zg rfl (ixT hp aI3 ⟨r,b,rfl,hb,by lia,by lia,fun H1 l1 xs s1 f1 h1 hxl=>?_⟩));have hD1:=hD.keep (.of s1);have hp1:=s1 _ _ hp;cases hD1 with
  |num h2 =>
   refine(zg rfl (ixT hp1 aI2 (ixT h2 aI0 ⟨rfl,(zg rfl (iteF (nxtC (zg rfl ?_))))⟩)));exact q _ l1 xs s1 f1 h1 (by lia)
  |op h2 =>
   refine(zg rfl (ixT hp1 aI2 (ixT h2 aI0 ⟨rfl,(zg rfl (iteF (nxtC (zg rfl ?_))))⟩)));exact q _ l1 xs s1 f1 h1 (by lia)
  |@app w0 f0 ys _ qy hw h2 h3 =>
   refine(zg rfl (ixT hp1 aI2 (ixT h2 aI0 ⟨rfl,(zg rfl ?_)⟩)));by_cases c:w0="func"
   ·rw[decide_eq_true (congrArg V.str c)]
    refine iteT ?_;refine(zg rfl ⟨.inl ⟨rfl,_,SqL.of h1⟩,(zg rfl (ixT hp1 aI2 (ixT h2 aI1 ⟨l1,(zC rfl rfl ⟨h1,by rw[ua];lia,(zg rfl ?_)⟩)⟩)))⟩);refine q _ l1 (xs++[f0]) (s1.put f1) f1 ?_ (by rw[uf,uO];lia);rw[uX9,ut]
    rfl
   ·rw[decide_eq_false fun z=>c (V.str.inj z)]
    refine iteF (nxtC (zg rfl ?_));exact q _ l1 xs s1 f1 h1 (by lia)
 |@iff x a b p q0 r hp h1 h2 =>
  rw[Bd.dp]at hd;rw[Bd.sz]at hz q;refine(ya rfl hp (ya rfl hp ?_));refine(yV rfl hp ?_);refine(zg rfl (ixT hp aI2 ⟨q0,a,rfl,h1,by lia,by lia,fun H1 l1 xs s1 f1 g1 hxl=>?_⟩));refine(zg rfl (ixT (s1 _ _ hp) aI3 ⟨r,b,rfl,h2.keep (.of s1),by lia,by lia,fun H2 l2 ys s2 f2 g2 hyl=>?_⟩));refine⟨l1,l2,(zC rfl rfl ⟨s2 _ _ g1,g2,by rw[ua,ua];lia,fun l3 h3=>?_⟩)⟩;have s02:=s1.trans s2;refine q _ l3 (xs++ys) (s02.new h3) (s02.free h3) (by rw[uX9,ut]) (by rw[uf];lia)
 |@case x as ps p q0 hp hq hps hA =>
  rw[Bd.dp]at hd;rw[Bd.sz]at hz q;have az:=Arms.wsz as;refine(ya rfl hp (ya rfl hp ?_));refine(ya rfl hp ⟨sN0,fun l1 h1=>?_⟩);have s1:=zo (o:=.lst []) h1;refine(zg rfl (ixT (s1 _ _ hp) aI2 ⟨q0,rfl,⟨_,SqT.of (s1 _ _ hq)⟩,xi (xs:=ps.map V.ref) (fun i σ H'=>Same H H'/\∃r xs,(∃y1 y2 y3,σ=[sR p,sR r,y1,y2,y3])/\H r=none/\H' r=some (.lst (xs.map V.str))/\xs.length<=wsz (as.ways.take i)) ⟨s1,l1,[],⟨_,_,_,rfl⟩,h1,uX9,uM _⟩ (fun i σ H' _ h=>SqT.of (h.1 _ _ hq)) ?_ ?_⟩))
  ·rintro i v σ H4 hv ⟨s4,r,xs,⟨y1,y2,y3,rfl⟩,fr,hr4,hxl⟩
   obtain⟨pa,hpa,rfl⟩:=L2.gM hv;obtain⟨t,qa,ra,ns,b,g1,g2,g3,g4⟩:=hA.get hpa;have bd:=J8 g1;have wl:=J9 as.ways (i+1);rw[YQ g1]at wl;refine⟨_,_,rfl,SqT.of (s4 _ _ g2),rfl,_,_,rfl,_,_,rfl,_,_,rfl,rfl,?_⟩;refine(zq rfl rfl ⟨ra,b,rfl,g4.keep (.of s4),by lia,by show b.sz<=_;simp only at wl;lia,fun H5 l5 ys s5 f5 h5 hyl=>?_⟩);refine⟨r,l5,(zC rfl rfl ⟨s5 _ _ hr4,h5,by rw[ua,ua];simp only at wl;lia,fun l6 h6=>?_⟩)⟩;have s05:=s4.trans s5;exact⟨s05.new h6,l6,xs++ys,⟨_,_,_,rfl⟩,s05.free h6,by rw[uX9,ut],by rw[YQ g1,uf];show _<=_+b.sz;lia⟩
  ·rintro σ H4 ⟨s4,r,xs,⟨y1,y2,y3,rfl⟩,fr,hr4,hxl⟩
   have wl:=J9 as.ways (ps.map V.ref).length;exact(zg rfl (q _ r xs s4 fr hr4 (by lia)))
theorem Vl{l:lS}(h:l.Nodup)(e:l[i]?=some x):x∉l.take i:=by
 intro m;obtain⟨j,hj,e2⟩:=List.mem_iff_getElem.mp m;obtain⟨hi,e1⟩:=ud.mp e;rw[uq]at hj;rw[List.getElem_take]at e2
 have:=(List.getElem_inj (h₀:=by lia) (h₁:=hi) h).mp (e2.trans e1.symm)
 lia
theorem Qb(kvs:List (Key×V))(k:Key)(v:V):(putK kvs k v).length<=kvs.length+1:=by
 unfold putK;split
 ·rw[ua]
  lia
 ·rw[uf]
  exact uj _
inductive OwI(H:Hp)(od:Addr)(ds:List Df):Prop
 |mk (kv:List (Key×V)):(∃ow:Str->List Bool,H od=some (.dK kv)/\kv.length<=ds.length/\∀d∈ds,∃a,valV kv (.inr d.z)=some (.ref a)/\H a=some (.tup ((ow d.z).map V.bl))/\(ow d.z:List Bool).length=d.ns.length)->OwI H od ds
inductive spOwns(K:ub)(n:Nat)(vs:List V)(H:Hp)(Q:VK)(e_3:XK):Prop
 |mk (st:Addr) (pp:Addr) (pd:Addr) (v0:V) (ps:List Addr) (dfs:List Df):(∃B:Nat,vs=[.ref st,.ref pp]/\Sta K H st B/\B+9 < LIM/\H pp=some (.tup [v0,.ref pd])/\H pd=some (.tup (ps.map V.ref))/\IsFs H dfs ps/\ps.length=3/\(∀d∈dfs,d.ns.length<=3/\d.b.sz<=1000000/\d.b.dp<=n)/\(dfs.map (·.z)).Nodup/\∀H' od,Kp st H H'->OwI H' od dfs->Q (.ref od) H')->spOwns K n vs H Q e_3
theorem scOwns:FnScope ["_law_state","_law_program_here","_law_handed_on","_law_name_here","_law_params","_law_body_here","_law_owns_here"] lS22 (zp XD):=.ok
theorem zdv:(["_law_state","_law_program_here","_law_handed_on","_law_name_here","_law_params","_law_body_here","_law_owns_here","_law_param"]:lS).Nodup:=by decide +kernel
theorem Qc(F:Fun K "_law_owns" "_law_owns" XD f fd)(GD:Ca P w K mg base CX0 1 "_law_draw" lS5 (spDraw K))(GN':Ca P w K mg base CX0 (1+n) "_law_named" ["_law_body_here"] (spNamed n))(m_tuple:mg "tuple"=none):FnOk P w K mg base CX0 (1+n+1) f fd lS22 (spOwns K n):=by
 refine F.by scOwns (fun vs H Q E h=>?_) (fun cdv A outer s H vs Q E hr h=>?_)
 ·obtain⟨st,pp,pd,v0,ps,dfs,B,rfl,_⟩:=h
  rfl
 obtain⟨st,pp,pd,v0,ps,dfs,B,rfl,S0,hB,hp,hpd,hF,hl,hb,hnd,q⟩:=h;have hrN:Room (1+n) _:=hr;have hr1:Room 1 _:=hrN.mono (by lia);refine⟨_,
  (zh (sE 2 scOwns.nd (zD zL))
  (zh (yt PassesOwn.never rfl (yH K (zn K (jv 1))) (zN K rfl (zu (gN 3 scOwns.nd) (zu (gN 4 scOwns.nd) (zu (gN 5 scOwns.nd) zM))))
   (zk (sE 2 scOwns.nd (zA yz (jv 2) (cA GN' hrN (jA1 (jv 5)))))))
  (zh (sE 6 scOwns.nd xh)
  (zh (yt PassesOwn.never rfl (yH K (zn K (jv 1))) (zN K rfl (zu (gN 3 scOwns.nd) (zu (gN 4 scOwns.nd) (zu (gN 5 scOwns.nd) zM))))
   (zk (vm hr1 (jv 6) (jv 3) (zS (zH K) rfl m_tuple uN (jA1 (yf ["_law_param"] rfl (yH K (jv 4)) (fun _ _ _ _ _=>(gN 7 zdv)) (fun _ _ _ _ _=>yn) (fun _ _ _ _ _=>(zbt (yO jJ (cA GD hr1 (jA2 (jv 0) zt)) zt (xI _)) (vJ (yO (Xr K) (jv 3) (jv 2) (by with_unfolding_all rfl)))))))))))
  (zk (zv (jv 6))))))),?_⟩
 have sl:=zO;have LM:LIM=4611686018427387904:=rfl;have fl:=hF.len;refine⟨sN0,fun l1 h1=>?_⟩;have s1:=zo (o:=.lst []) h1;refine(zg rfl (ixT (s1 _ _ hp) aI1 ⟨pd,rfl,⟨_,SqT.of (s1 _ _ hpd)⟩,xi (xs:=ps.map V.ref) (fun i σ H'=>Same H H'/\∃r xs,(∃y1 y2 y3,σ=[sR st,sR pp,sR r,y1,y2,y3,none])/\H r=none/\H' r=some (.lst (xs.map V.str))/\xs.length<=1000000*i) ⟨s1,l1,[],⟨_,_,_,rfl⟩,h1,uX9,uM _⟩ (fun i σ H' _ h=>SqT.of (h.1 _ _ hpd)) ?_ ?_⟩))
 ·rintro i v σ H4 hv ⟨s4,r,xs,⟨y1,y2,y3,rfl⟩,fr,hr4,hxl⟩
  obtain⟨pa,hpa,rfl⟩:=L2.gM hv;obtain⟨d,hd,hFd⟩:=hF.get hpa;have hi:=(ud.mp hd).1;obtain⟨qn,pb,g1,g2,g3⟩:=(hFd.keep (.of s4)).ex;obtain⟨_,b2,b3⟩:=hb d (uw hd);refine⟨_,_,rfl,SqT.of g1,rfl,_,_,rfl,_,_,rfl,_,_,rfl,rfl,?_⟩;refine(zq rfl rfl ⟨pb,d.b,rfl,g3,b3,b2,fun H5 l5 ys s5 f5 h5 hyl=>?_⟩);refine⟨r,l5,(zC rfl rfl ⟨s5 _ _ hr4,h5,by rw[ua,ua];lia,fun l6 h6=>?_⟩)⟩;have s05:=s4.trans s5;exact⟨s05.new h6,l6,xs++ys,⟨_,_,_,rfl⟩,s05.free h6,by rw[uX9,ut],by rw[uf];lia⟩
 rintro σ H4 ⟨s4,r,xs,⟨y1,y2,y3,rfl⟩,fr,hr4,-⟩;intro od hod;have s5:=s4.new (o:=.dK []) hod;have hod5:=uX9 (H:=H4) (a:=od) (o:=.dK []);have hr5:=(zo (o:=.dK []) hod) _ _ hr4;have fod:=s4.free hod;generalize upd H4 od (.dK [])=H5 at *;have S5:=S0.same s5;refine(zg rfl (ixT (s5 _ _ hp) aI1 ⟨pd,rfl,⟨_,SqT.of (s5 _ _ hpd)⟩,xi (xs:=ps.map V.ref) (fun i σ H'=>Kp st H H'/\Sta K H' st (B+3*i)/\(∃y1 y2 y3,σ=[sR st,sR pp,sR r,y1,y2,y3,sR od])/\H' r=some (.lst (xs.map V.str))/\OwI H' od (dfs.take i)) ⟨.of s5,S5.mono (by lia),⟨_,_,_,rfl⟩,hr5,[],fun _=>[],hod5,uM _,fun d hd=>by cases hd⟩ (fun i σ H' _ h=>SqT.of (h.1.tups S0 _ _ hpd)) ?_ ?_⟩))
 ·rintro i v σ H6 hv ⟨k6,S6,⟨y1,y2,y3,rfl⟩,hr6,kv,ow,ho6,hkv,hO6⟩
  obtain⟨pa,hpa,rfl⟩:=L2.gM hv;obtain⟨d,hd,hFd⟩:=hF.get hpa;have hi:=(ud.mp hd).1;obtain⟨qn,pb,g1,g2,g3⟩:=(hFd.keep (k6.tups S0)).ex;obtain⟨b1,-,-⟩:=hb d (uw hd);have nrs:r≠st:=fun e=>S0.ne fr e;have nos:od≠st:=fun e=>S0.ne fod e;refine⟨_,_,rfl,SqT.of g1,rfl,_,_,rfl,_,_,rfl,_,_,rfl,rfl,?_⟩;refine(zg rfl ⟨qn,rfl,⟨_,SqT.of g2⟩,Zl (xs:=d.ns.map V.str) (fun j τ zs H'=>Kp st H6 H'/\Sta K H' st (B+3*i+j)/\(∃u,τ=[sR st,sR pp,sR r,some (.str d.z),sR qn,sR pb,sR od,u])/\∃bs:List Bool,zs=bs.map V.bl/\bs.length=j) ⟨Kp.refl,S6,⟨none,rfl⟩,[],rfl,rfl⟩ (fun j τ zs H' _ h=>SqT.of (h.1.tups S6 _ _ g2)) ?_ ?_⟩)
  ·rintro j v τ zs H7 hv ⟨k7,S7,⟨u,rfl⟩,bs,rfl,hbl⟩
   have hj:=(ud.mp hv).1;rw[ua]at hj;refine(zg rfl ⟨st,3,(zg rfl ⟨S7,by lia,by decide,fun H8 x k8 S8 x0 x1=>(zC rfl rfl (zg rfl ?_))⟩)⟩);have fin:∀b:Bool,(bs.map V.bl).length < sizeLine/\Kp st H6 H8/\Sta K H8 st (B+3*i+(j+1))/\(∃u,[some (V.ref st),some (V.ref pp),some (V.ref r),some (V.str d.z),some (V.ref qn),some (V.ref pb),some (V.ref od),some v]=[sR st,sR pp,sR r,some (.str d.z),sR qn,sR pb,sR od,u])/\∃bs':List Bool,bs.map V.bl++[V.bl b]=bs'.map V.bl/\bs'.length=j+1:=fun b=>⟨by rw[ua];lia,k7.trans k8,S8,⟨_,rfl⟩,bs++[b],by simp,by simp[hbl]⟩;by_cases c:0 < x
   ·rw[decide_eq_true c]
    exact iteT (fin true)
   ·rw[decide_eq_false c]
    exact iteF (zq rfl rfl ⟨r,(zg rfl ⟨.inl (SqL.of (k8.k _ _ nrs (k7.k _ _ nrs hr6))),rfl,xD xs,fin _⟩)⟩)
  ·rintro τ zs H7 ⟨k7,S7,_,bs,rfl,hbl⟩ l8 h8
   rw[ua]at hbl S7;refine⟨l8,(zg rfl (.inl ⟨SqL.of uX9,fun t9 h9=>?_⟩))⟩;have s9:=(zo (o:=.lst (bs.map V.bl)) h8).new (o:=.tup (bs.map V.bl)) h9;have ht9:=uX9 (H:=upd H7 l8 (.lst (bs.map V.bl))) (a:=t9) (o:=.tup (bs.map V.bl));generalize upd (upd H7 l8 (.lst (bs.map V.bl))) t9 (.tup (bs.map V.bl))=H9 at *;have k9:=k7.trans (.of s9);have ho9:=k9.k _ _ nos ho6;rw[uq]at hkv;refine(zq rfl rfl ⟨od,(zg rfl ⟨DPut.k (k:=.inr d.z) ho9 (by lia),?_⟩)⟩);have nz:d.z∉(dfs.take i).map (·.z):=by
    rw[List.map_take];exact Vl hnd (by rw[ug,hd];rfl)
   refine⟨(k6.trans k9).put fod,?_,⟨_,_,_,rfl⟩,?_,_,fun z=>if z=d.z then bs else ow z,uX9,?_,fun d' hd'=>?_⟩
   ·exact Sta.put S0 fod (k6.trans k9) ((S7.same s9).mono (by lia))
   ·rw[zj (fun e=>by rw[e,ho6]at hr6;cases hr6)]
    exact k9.k _ _ nrs hr6
   ·have:=Qb kv (.inr d.z) (.ref t9)
    rw[uq];lia
   ·rw[uD,hd]at hd'
    rcases uy.mp hd' with hd'|hd'
    ·obtain⟨a,e1,e2,e3⟩:=hO6 d' hd'
     have ne:d'.z≠d.z:=fun e=>nz (e ▸ UM hd');refine⟨a,by rw[Yq,if_neg (fun e=>ne (Sum.inr.inj e))];exact e1,?_,?_⟩<;>dsimp only
     ·rw[if_neg ne,zj (fun e=>by rw[e,ho6]at e2;cases e2)]
      exact k9.tups S6 _ _ e2
     ·rw[if_neg ne];exact e3
    ·have e:d'=d:=by simpa using hd'
     subst e;refine⟨t9,by rw[Yq,if_pos rfl],?_,?_⟩<;>dsimp only
     ·rw[if_pos rfl,zj (fun e=>by rw[e,ho9]at ht9;cases ht9)]
      exact ht9
     ·rw[if_pos rfl];exact hbl
 ·rintro σ H6 ⟨k6,S6,⟨y1,y2,y3,rfl⟩,hr6,hO6⟩
  rw[ua,ur (by lia)]at hO6;exact(zg rfl (q _ od k6 hO6))
theorem ZQ{α β:Type}{g:α->β}:∀{l:List α},(l.map g).Nodup->∀{a b:α},a∈l->b∈l->g a=g b->a=b
 |[],_,a,b,h,_,_=>by cases h
 |x::l,nd,a,b,ha,hb,e=>by
  rw[uC,uX]at nd;rcases uk.mp ha with h1|h1
  ·rcases uk.mp hb with h2|h2
   ·rw[h1,h2]
   ·exact absurd (by rw[<- h1,e];exact UM h2) nd.1
  ·rcases uk.mp hb with h2|h2
   ·exact absurd (by rw[<- h2,<- e];exact UM h1) nd.1
   ·exact ZQ nd.2 h1 h2 e
theorem YR:((uK 3).map fun k=>nm o.z o.b (2-k)).Nodup:=by
 unfold List.Nodup;rw[List.pairwise_map];refine List.Pairwise.imp_of_mem (fun{a b} ha hb hab e=>hab ?_) List.nodup_range
 have:=Uu.mp ha
 have:=Uu.mp hb
 have:=vq (by lia) (by lia) e
 lia
theorem zd6(wok:WOk o)(hn:dfs.map (·.z)=(uK 3).map (fun k=>nm o.z o.b (2-k)))(hF:∀d∈dfs,FNm o d)(hl:∀d∈dfs,(ow d.z).length=d.ns.length)(h:Yz o d):CaD (dfs.map (·.z)) ow d:=by
 cases d with
 |num i=>trivial
 |op w a b=>trivial
 |app w f xs =>
  intro e;obtain⟨s,hs,e1,e2⟩:=h e;have hm:s.1∈dfs.map (·.z):=by
   rw[hn,<- wok.dn];exact UM hs
  refine⟨e1 ▸ hm,?_⟩;obtain⟨d',hd',ez⟩:=uu.mp hm;obtain⟨s',hs',z1,z2⟩:=(hF d' hd').s
  have:s'=s:=ZQ (g:=(·.1)) (by rw[wok.dn];exact YR) hs' hs (z1.trans ez)
  rw[<- e1,<- ez,hl d' hd',<- z2,this,e2]
mutual
theorem jg{o:Wo}{X:HX}(hc:∀{d},Yz o d->CaD X.N X.ow d):∀(b:Bd)(sc:lS),SndB o sc b->(∀y∈sc,y∈X.ns)->(∀y∈b.binds,y∈X.ns)->OkB X b
 |.give x,sc,h,h1,h2=>by
  rw[SndB]at h;exact h1 x h
 |.lt x d b,sc,h,h1,h2=>by
  rw[SndB]at h;rw[Bd.binds]at h2;have hx:=h2 x (.head _);refine⟨⟨hx,fun y hy=>h1 y (h.1.1 y hy),hc h.1.2.2⟩,jg hc b _ h.2 (fun y hy=>?_) fun y hy=>h2 y (.tail _ hy)⟩;rcases uy.mp hy with hy|hy
  ·exact h1 y hy
  ·rw[uo.mp hy];exact hx
 |.iff x a b,sc,h,h1,h2=>by
  rw[SndB]at h;rw[Bd.binds]at h2;exact⟨jg hc a _ h.2.1 h1 fun y hy=>h2 y (uU _ hy),jg hc b _ h.2.2 h1 fun y hy=>h2 y (uE _ hy)⟩
 |.case x as,sc,h,h1,h2=>by
  rw[SndB]at h;rw[Bd.binds]at h2;exact Qd hc as _ h.2 h1 h2
theorem Qd{o:Wo}{X:HX}(hc:∀{d},Yz o d->CaD X.N X.ow d):∀(b:Arms)(sc:lS),SndA o sc b->(∀y∈sc,y∈X.ns)->(∀y∈b.binds,y∈X.ns)->OkA X b
 |.nil,sc,h,h1,h2=>trivial
 |.cons t ns b r,sc,h,h1,h2=>by
  rw[SndA]at h;rw[Arms.binds]at h2;have hx:∀y∈ns,y∈X.ns:=fun y hy=>h2 y (uU _ hy);refine⟨⟨hx,jg hc b _ h.1.2 (fun y hy=>?_) fun y hy=>h2 y (uE _ (uU _ hy))⟩,Qd hc r _ h.2 h1 fun y hy=>h2 y (uE _ (uE _ hy))⟩;rcases uy.mp hy with hy|hy
  ·exact h1 y hy
  ·exact hx y hy
end
theorem Wt:∀(l acc:lS),acc.Nodup->(once acc l).Nodup
 |[],acc,h=>h
 |x::l,acc,h=>by
  unfold once;refine Wt l _ ?_;split
  ·exact h
  ·rename_i c
   refine List.nodup_append.mpr ⟨h,by simp,fun a ha b hb e=>c ?_⟩;rw[<- uo.mp hb,<- e];exact ha
theorem pig:∀(l tk:lS),l.Nodup->(∀x∈l,x∈tk)->l.length<=tk.length
 |[],tk,_,_=>uM _
 |x::l,tk,h,s=>by
  rw[uX]at h;have hx:=s x (.head _);have ih:=pig l (tk.erase x) h.2 fun y hy=>(List.mem_erase_of_ne (fun e=>h.1 (by rw[<- e];exact hy))).mpr (s y (.tail _ hy))
  have:=List.length_erase_of_mem hx
  have:0 < tk.length:=List.length_pos_of_mem hx
  rw[ui];lia
theorem zd7{b:Bool}{k:Nat}(h:∀c∈cl z,97<=c):∀c∈cl (nm z b k),97<=c:=by
 have h1:∀c∈cl (core k),97<=c:=fun c hc=>by
  rw[wJ]at hc;simp only[uk,Up,or_false]at hc
  lia
 have h2:∀c∈cl (ys k),97<=c:=fun c hc=>by
  rw[vW]at hc;rw[List.eq_of_mem_replicate hc]
  decide
 intro c hc;unfold nm at hc;cases b
 ·rw[if_neg (by decide),z6,z6]at hc
  rcases uy.mp hc with hc|hc
  ·exact(uy.mp hc).elim (h2 c) (h c)
  ·exact h1 c hc
 ·rw[if_pos rfl,z6,z6]at hc
  rcases uy.mp hc with hc|hc
  ·exact(uy.mp hc).elim (h1 c) (h c)
  ·exact h2 c hc
theorem zdw(x:Str)(m:Nat):46∈cl (nnm x m):=by
 unfold nnm;rw[z6,z6];exact uU _ (uE _ (by decide +kernel))
theorem zbP{d:Df}(h:FNm o d)(hl:d.ns.length<=3)(hx:x∈nsOf d):∃j,j < 900/\x=nm o.z o.b j:=by
 unfold nsOf at hx;rw[xv]at hx;rcases hx with hx|hx
 ·cases hx
 ·rcases uy.mp hx with hx|hx
  ·rw[h.n]at hx
   obtain⟨j,hj,rfl⟩:=uu.mp hx
   have:=Uu.mp hj
   exact⟨j,by lia,rfl⟩
  ·obtain⟨j,_,h2,h3⟩:=h.b x hx
   exact⟨j,h2,h3⟩
theorem ZR(wok:WOk o)(hn:dfs.map (·.z)=(uK 3).map (fun k=>nm o.z o.b (2-k)))(hF:∀d∈dfs,FOk 6 d/\FNm o d)(hl:∀d∈dfs,(ow d.z).length=d.ns.length){d:Df}(hd:d∈dfs):DfOk ow (dfs.map (·.z)) d:=by
 obtain⟨⟨f1,f2,f3⟩,h⟩:=hF d hd;have bn:∀x∈nsOf d,∃j,j < 900/\x=nm o.z o.b j:=fun x hx=>zbP h f1 hx;have u:(nsOf d).Nodup:=Wt _ _ (List.Pairwise.nil);refine⟨UM hd,hl d hd,f1,uI f2 (by decide),?_,u,fun x hx=>?_,fun X e1 e2 e3=>?_⟩
 ·have:=pig (nsOf d) ((uK 900).map fun j=>nm o.z o.b j) u fun x hx=>by
   obtain⟨j,hj,rfl⟩:=bn x hx;exact UM (Uu.mpr hj)
  rw[ua,UT]at this;lia
 ·obtain⟨j,_,rfl⟩:=bn x hx
  exact uI (zcW wok.z) (by decide)
 ·refine jg (o:=o) (fun{d} hc=>?_) d.b d.ns h.sn (fun y hy=>?_) fun y hy=>?_
  ·rw[e2,e3]
   exact zd6 wok hn (fun d hd=>(hF d hd).2) hl hc
  ·rw[e1]
   unfold nsOf;rw[xv];exact .inr (uU _ hy)
  ·rw[e1]
   unfold nsOf;rw[xv];exact .inr (uE _ hy)
mutual
def Bd.Dd:Bd->Prop
 |.give _=>True
 |.lt _ d b=>(WdOk d/\d.uses.length<=41)/\b.Dd
 |.iff _ a b=>a.Dd/\b.Dd
 |.case _ as=>as.Dd
def Arms.Dd:Arms->Prop
 |.nil=>True
 |.cons _ _ b r=>b.Dd/\r.Dd
end
theorem IsDe.dd:∀{d:De}{p:Addr},IsDe H d p->WdOk d/\d.uses.length<=41
 |_,_,.num _=>⟨trivial,by show 0<=41;decide⟩
 |_,_,.op _=>⟨trivial,by show 2<=41;decide⟩
 |_,_,@IsDe.app _ w f xs _ _ h _ _=>by
  refine⟨⟨h.1,h.2.1⟩,?_⟩;by_cases e:w="ask"
  ·subst e
   rw[zX,ui]
   have:=h.2.2
   lia
  ·rw[zV e]
   have:=h.2.2
   lia
mutual
theorem IsB.dd{H:Hp}:∀{b:Bd}{p:Addr},IsB H b p->b.Dd
 |_,_,.give _=>by rw[Bd.Dd];trivial
 |_,_,.lt _ d b=>by rw[Bd.Dd];exact⟨d.dd,IsB.dd b⟩
 |_,_,.iff _ a b=>by rw[Bd.Dd];exact⟨IsB.dd a,IsB.dd b⟩
 |_,_,.case _ _ _ a=>by rw[Bd.Dd];exact IsA.dd a
theorem IsA.dd{H:Hp}:∀{b:Arms}{p:List Addr},IsA H b p->b.Dd
 |_,_,.nil=>by rw[Arms.Dd];trivial
 |_,_,.cons _ _ b r=>by rw[Arms.Dd];exact⟨IsB.dd b,IsA.dd r⟩
end
mutual
def Bd.dq:Bd->Nat
 |.give _=>2
 |.lt _ d b=>d.uses.length+3+b.dq
 |.iff _ a b=>1+max a.dq b.dq
 |.case _ as=>2+as.dq
def Arms.dq:Arms->Nat
 |.nil=>0
 |.cons _ ns b r=>max (ns.length+b.dq) r.dq
end
mutual
theorem YS{o:Wo}:∀(b:Bd)(sc:lS),SndB o sc b->b.Dd->b.dq+42<=44*b.dp
 |.give x,sc,h,g=>by rw[Bd.dq,Bd.dp];decide
 |.lt x d b,sc,h,g=>by
  rw[SndB]at h;rw[Bd.Dd]at g
  have:=YS b _ h.2 g.2
  have:=g.1.2
  rw[Bd.dq,Bd.dp];lia
 |.iff x a b,sc,h,g=>by
  rw[SndB]at h;rw[Bd.Dd]at g
  have:=YS a _ h.2.1 g.1
  have:=YS b _ h.2.2 g.2
  rw[Bd.dq,Bd.dp];lia
 |.case x as,sc,h,g=>by
  rw[SndB]at h;rw[Bd.Dd]at g
  have:=Qe as _ h.2 g
  rw[Bd.dq,Bd.dp];lia
theorem Qe{o:Wo}:∀(b:Arms)(sc:lS),SndA o sc b->b.Dd->b.dq<=44*b.dp
 |.nil,sc,h,g=>by rw[Arms.dq];exact uM _
 |.cons t ns b r,sc,h,g=>by
  rw[SndA]at h;rw[Arms.Dd]at g
  have:=YS b _ h.1.2 g.1
  have:=Qe r _ h.2 g.2
  have:=h.1.1.1.2
  rw[Arms.dq,Arms.dp];lia
end
theorem YT(c:Hc):∀ds:lS,(wD ds c).dp=ds.length+c.dp
 |[]=>by show c.dp=0+c.dp;lia
 |x::ds=>by
  show(Hc.drop x (wD ds c)).dp=_;rw[Hc.dp,YT c ds,ui];lia
theorem Qf(c:Hc):∀ps:List (Str×Str),(wH ps c).dp=ps.length+c.dp
 |[]=>by show c.dp=0+c.dp;lia
 |x::ps=>by
  show(Hc.hold x.1 x.2 (wH ps c)).dp=_;rw[Hc.dp,Qf c ps,ui];lia
theorem YU{N:lS}{ow:Str->List Bool}{c:Hc}(h:c.Ok N ow):∀ds:lS,(wD ds c).Ok N ow
 |[]=>h
 |x::ds=>by
  show(Hc.drop x (wD ds c)).Ok N ow;rw[Hc.Ok];exact YU h ds
theorem Qg{N:lS}{ow:Str->List Bool}{c:Hc}(h:c.Ok N ow):∀ps:List (Str×Str),(wH ps c).Ok N ow
 |[]=>h
 |x::ps=>by
  show(Hc.hold x.1 x.2 (wH ps c)).Ok N ow;rw[Hc.Ok];exact Qg h ps
theorem jh(ns:lS)(b:Bd):∀l:lS,(dO ns b l).length+(rO ns b l).length=l.length
 |[]=>rfl
 |x::l=>by
  have:=jh ns b l
  unfold dO rO at *;rw[List.filter_cons,List.filter_cons];cases e:ahB ns b x
  ·simp;lia
  ·simp;lia
theorem ZT(xs:lS)(es:List Bool):(upN xs es).length<=xs.length:=by
 unfold upN;rw[ua];refine uI (um _ _) ?_;rw[Ue];exact Nat.min_le_left _ _
mutual
theorem YV(ns:lS)(ow:Str->List Bool):∀(b:Bd)(l:lS)(m:Nat),(hB ns ow b l m).1.dp<=l.length+b.dq
 |.give x,l,m=>by
  have h1:=jh ns (.give x) l;have h2:=(yD (rO ns (.give x) l) [x] m).2.2.2;rw[hB,Bd.dq];dsimp only
  rw[YT,Qf,Hc.dp];simp only[uO]at h2
  lia
 |.lt x d b,l,m=>by
  have h1:=jh ns (.lt x d b) l;rw[hB,Bd.dq];dsimp only
  generalize rO ns (.lt x d b) l=R at *;have h2:(spL ns ow d b R m).2.1.length<=(upN d.uses (ends ow d)).length:=(yD _ _ m).2.2.2;have h3:=ZT d.uses (ends ow d);have h4:=YV ns ow b (stL R (spL ns ow d b R m).1 x) (spL ns ow d b R m).2.2;have h5:(stL R (spL ns ow d b R m).1 x).length<=R.length+1:=by
   unfold stL;rw[uf]
   have:=um (fun y=>decide (y∉(spL ns ow d b R m).1)) R
   simp only[uO]
   lia
  rw[YT,Qf,Hc.dp];lia
 |.iff x a b,l,m=>by
  have h1:=jh ns (.iff x a b) l;rw[hB,Bd.dq];dsimp only
  generalize rO ns (.iff x a b) l=R at *;have h2:=YV ns ow a R m;have h3:=YV ns ow b R (hB ns ow a R m).2;rw[YT,Hc.dp];lia
 |.case x as,l,m=>by
  have h1:=jh ns (.case x as) l;rw[hB,Bd.dq];dsimp only
  generalize rO ns (.case x as) l=R at *;have h2:=zbQ ns ow x R as m;rw[YT,Hc.dp];lia
theorem zbQ(ns:lS)(ow:Str->List Bool)(x:Str)(R:lS):∀(as:Arms)(m:Nat),(hA ns ow x R as m).1.dp<=R.length+as.dq
 |.nil,m=>by rw[hA,Ha.dp];exact uM _
 |.cons t xs b r,m=>by
  have h1:=YV ns ow b (stA (tkB ns x R b) x R xs) m;have h2:=zbQ ns ow x R r (hB ns ow b (stA (tkB ns x R b) x R xs) m).2;have h3:(stA (tkB ns x R b) x R xs).length<=R.length+xs.length:=by
   unfold stA;rw[uf]
   have:=um (fun y=>!tkB ns x R b || decide (y≠x)) R
   lia
  rw[hA,Ha.dp,Arms.dq];lia
end
theorem vA:∀(xs:lS)(es:List Bool)(st:lS),(rpr xs es st).length=min xs.length es.length
 |[],es,st=>by unfold rpr;simp
 |x::xs,[],st=>by unfold rpr;simp
 |x::xs,e::es,st=>by
  rw[rpr,ui,ui];cases e
  ·rw[if_neg (by decide),ui,vA xs es st];lia
  ·rw[if_pos rfl,ui,vA xs es st.tail];lia
theorem zbR(hc:CaD N ow d)(hw:WdOk d)(hu:d.uses.length<=41):WdOk (hdD ow d st)/\CaD N ow (hdD ow d st)/\(hdD ow d st).uses.length<=100:=by
 unfold hdD;rw[vv];have hl:=vA d.uses (ends ow d) st;cases d with
 |num i=>exact⟨trivial,trivial,by show 0<=100;decide⟩
 |op w a b=>exact⟨trivial,trivial,by show 2<=100;decide⟩
 |app w f xs =>
  by_cases e:w="ask"
  ·subst e
   generalize rpr (De.uses (.app "ask" f xs)) (ends ow (.app "ask" f xs)) st=L at *;have e1:wN (.app "ask" f xs) L=.app "ask" (L.getD 0 "") (L.drop 1):=by unfold wN;exact if_pos rfl
   rw[e1];refine⟨hw,fun z=>absurd z (by decide),?_⟩;rw[zX,ui,List.length_drop];lia
  ·rw[wY e]
   rw[zV e]at hl hu ⊢;refine⟨hw,fun z=>?_,?_⟩
   ·obtain⟨h1,h2⟩:=hc z
    refine⟨h1,?_⟩
    have:ends ow (.app w f xs)=ow f:=if_pos z
    rw[hl,this,h2,tJ]
   ·rw[zV e]
    lia
mutual
theorem YW{o:Wo}{X:HX}:∀(b:Bd)(sc l:lS)(m:Nat),SndB o sc b->OkB X b->b.Dd->(hB X.ns X.ow b l m).1.Ok X.N X.ow
 |.give x,sc,l,m,h,k,g=>by
  rw[hB];refine YU (Qg ?_ _) _;rw[Hc.Ok]
  trivial
 |.lt x d b,sc,l,m,h,k,g=>by
  rw[SndB]at h;rw[Bd.Dd]at g;obtain⟨⟨_,_,hca⟩,hkb⟩:=show(x∈X.ns/\(∀y∈d.uses,y∈X.ns)/\CaD X.N X.ow d)/\OkB X b from k
  rw[hB];refine YU (Qg ?_ _) _;rw[Hc.Ok];exact⟨zbR hca g.1.1 g.1.2,YW b _ _ _ h.2 hkb g.2⟩
 |.iff x a b,sc,l,m,h,k,g=>by
  rw[SndB]at h;rw[Bd.Dd]at g;obtain⟨k1,k2⟩:=show OkB X a/\OkB X b from k
  rw[hB];refine YU ?_ _;rw[Hc.Ok];exact⟨YW a _ _ _ h.2.1 k1 g.1,YW b _ _ _ h.2.2 k2 g.2⟩
 |.case x as,sc,l,m,h,k,g=>by
  rw[SndB]at h;rw[Bd.Dd]at g;rw[hB];refine YU ?_ _;rw[Hc.Ok];exact zbS x as _ _ _ h.2 k g
theorem zbS{o:Wo}{X:HX}(x:Str):∀(as:Arms)(sc R:lS)(m:Nat),SndA o sc as->OkA X as->as.Dd->(hA X.ns X.ow x R as m).1.Ok X.N X.ow
 |.nil,sc,R,m,h,k,g=>by rw[hA,Ha.Ok];trivial
 |.cons t xs b r,sc,R,m,h,k,g=>by
  rw[SndA]at h;rw[Arms.Dd]at g;obtain⟨⟨k1,k2⟩,k3⟩:=show((∀y∈xs,y∈X.ns)/\OkB X b)/\OkA X r from k
  have:=h.1.1.1.2
  rw[hA,Ha.Ok];exact⟨⟨by lia,YW b _ _ _ h.1.2 k2 g.1⟩,zbS x r _ _ _ h.2 k3 g.2⟩
end
theorem YX:∀{xs:lS}{es:List Bool},xs.length=es.length->∀{y:Str},y∈xs->y∈upN xs es\/y∈ltN xs es
 |[],es,_,y,h=>by cases h
 |x::xs,[],h,y,_=>by simp at h
 |x::xs,e::es,h,y,hy=>by
  simp at h
  rw[xw,xx];rcases uk.mp hy with rfl|hy
  ·cases e
   ·exact .inr (by rw[if_neg (by decide)];exact .head _)
   ·exact .inl (by rw[if_pos rfl];exact .head _)
  ·rcases YX h hy with z|z
   ·refine .inl ?_
    cases e
    ·exact z
    ·exact .tail _ z
   ·refine .inr ?_
    cases e
    ·exact .tail _ z
    ·exact z
theorem zdx(wok:WOk o)(hn:dfs.map (·.z)=(uK 3).map (fun k=>nm o.z o.b (2-k)))(hF:∀d∈dfs,FOk 6 d/\FNm o d)(hl:∀d∈dfs,(ow d.z).length=d.ns.length){d:Df}(hd:d∈dfs)(hD:d.b.Dd):
  let c:=(hB (nsOf d) ow d.b (upN d.ns (ow d.z)) 0).1
  c.Ok (dfs.map (·.z)) ow/\(upN d.ns (ow d.z)).length<=3/\c.dp<=225:=by
 have dk:=ZR wok hn hF hl hd;obtain⟨⟨f1,f2,f3⟩,h⟩:=hF d hd;have ul:(upN d.ns (ow d.z)).length<=3:=uI (ZT _ _) f1;have ok:=dk.b ⟨0,0,0,0,0,0,0,0,0,0,nsOf d,ow,dfs.map (·.z)⟩ rfl rfl rfl;refine⟨YW (X:=⟨0,0,0,0,0,0,0,0,0,0,nsOf d,ow,dfs.map (·.z)⟩) d.b d.ns _ 0 h.sn ok hD,ul,?_⟩
 have:=YV (nsOf d) ow d.b (upN d.ns (ow d.z)) 0
 have:=YS d.b d.ns h.sn hD
 lia
mutual
def Hc.us:Hc->lS
 |.give x=>[x]
 |.drop _ b=>b.us
 |.hold n x b=>x::b.us.filter fun y=>decide (y≠n)
 |.lt x d b=>d.uses++b.us.filter fun y=>decide (y≠x)
 |.iff x a b=>(x::a.us)++b.us
 |.case x as=>x::as.us
def Ha.us:Ha->lS
 |.nil=>[]
 |.cons _ ns _ b r=>(b.us.filter fun y=>decide (y∉ns))++r.us
end
theorem YY(c:Hc):∀ds:lS,(wD ds c).us=c.us
 |[]=>rfl
 |x::ds=>by
  show(Hc.drop x (wD ds c)).us=_;rw[Hc.us,YY c ds]
theorem Qh(c:Hc){y:Str}:∀ps:List (Str×Str),(∀p∈ps,y≠p.1)->(y∈(wH ps c).us↔(∃p∈ps,p.2=y)\/y∈c.us)
 |[],_=>by show y∈c.us↔_;simp
 |p::ps,h=>by
  show y∈(Hc.hold p.1 p.2 (wH ps c)).us↔_;rw[Hc.us,uk,uW,Qh c ps fun q hq=>h q (.tail _ hq),decide_eq_true_eq]
  have:=h p (.head _)
  constructor
  ·rintro(e|⟨⟨q,hq,e⟩|e,_⟩)
   ·exact .inl ⟨p,.head _,e.symm⟩
   ·exact .inl ⟨q,.tail _ hq,e⟩
   ·exact .inr e
  ·rintro(⟨q,hq,e⟩|e)
   ·rcases uk.mp hq with rfl|hq
    ·exact .inl e.symm
    ·exact .inr ⟨.inl ⟨q,hq,e⟩,this⟩
   ·exact .inr ⟨.inr e,this⟩
theorem ZU{fr:lS}{y:Str}(hy:∀z k,y≠nnm z k):∀(xs st:lS)(m:Nat),(∃p∈(spr fr st xs m).2.1,p.2=y)\/y∈(spr fr st xs m).1↔y∈xs
 |[],st,m=>by unfold spr;simp
 |x::xs,st,m=>by
  rw[spr];split
  ·have:=ZU (fr:=fr) hy xs (st++[x]) m
   dsimp only
   rw[uk,uk,<- this]
   constructor
   ·rintro(a|a|a)
    ·exact .inr (.inl a)
    ·exact .inl a
    ·exact .inr (.inr a)
   ·rintro(a|a|a)
    ·exact .inr (.inl a)
    ·exact .inl a
    ·exact .inr (.inr a)
  ·have:=ZU (fr:=fr) hy xs (st++[nnm x (m+1)]) (m+1)
   dsimp only
   rw[uk,uk,<- this]
   constructor
   ·rintro(⟨p,hp,e⟩|a|a)
    ·rcases uk.mp hp with rfl|hp
     ·exact .inl e.symm
     ·exact .inr (.inl ⟨p,hp,e⟩)
    ·exact absurd a (hy _ _)
    ·exact .inr (.inr a)
   ·rintro(a|⟨p,hp,e⟩|a)
    ·exact .inl ⟨_,.head _,a.symm⟩
    ·exact .inl ⟨p,.tail _ hp,e⟩
    ·exact .inr (.inr a)
theorem ZV{y:Str}:∀(xs:lS)(es:List Bool)(st:lS),xs.length=es.length->st.length=(upN xs es).length->(y∈rpr xs es st↔y∈st\/y∈ltN xs es)
 |[],[],st,_,h=>by
  unfold rpr;unfold upN at h
  have:st=[]:=u5.mp (by simpa using h)
  rw[this];unfold ltN;simp
 |x::xs,e::es,st,hl,h=>by
  rw[rpr,xx];rw[xw]at h;simp at hl
  cases e
  ·rw[if_neg (by decide),if_neg (by decide),uk,uk]
   rw[if_neg (by decide)]at h;rw[ZV xs es st hl h]
   constructor
   ·rintro(a|a|a)
    ·exact .inr (.inl a)
    ·exact .inl a
    ·exact .inr (.inr a)
   ·rintro(a|a|a)
    ·exact .inr (.inl a)
    ·exact .inl a
    ·exact .inr (.inr a)
  ·rw[if_pos rfl,if_pos rfl]
   rw[if_pos rfl]at h;cases st with
   |nil=>simp at h
   |cons s st =>
    rw[List.tail_cons,uk,uk,ZV xs es st hl (by simpa using h),or_assoc]
    rfl
theorem YZ(hc:CaD N ow d):d.uses.length=(ends ow d).length:=by
 cases d with
 |num i=>rfl
 |op w a b=>rfl
 |app w f xs =>
  by_cases e:w="call"
  ·obtain⟨_,h⟩:=hc e
   rw[show ends ow (.app w f xs)=ow f from if_pos e,zV (by rw[e];decide),h]
  ·rw[show ends ow (.app w f xs)=(De.uses (.app w f xs)).map fun _=>true from if_neg e,ua]
theorem za3(hc:CaD N ow d)(h:st.length=(upN d.uses (ends ow d)).length):y∈(hdD ow d st).uses↔y∈st\/y∈ltN d.uses (ends ow d):=by
 have el:=YZ hc;rw[<- ZV d.uses (ends ow d) st el h];unfold hdD;rw[vv];have hl:=vA d.uses (ends ow d) st;rw[<- el,tJ]at hl;generalize rpr d.uses (ends ow d) st=L at *;cases d with
 |num i =>
  have:L=[]:=u5.mp hl
  rw[this];exact Iff.rfl
 |op w a b =>
  match L,hl with
  |[p,q],_=>exact Iff.rfl
 |app w f xs =>
  by_cases e:w="ask"
  ·subst e
   rw[zX]at hl
   match L,hl with
   |p::L,_=>rw[ZH,zX]
  ·rw[wY e,zV e]
section
mutual
theorem Y0(hdot:∀z k,nnm z k∉X.ns){y:Str}(hy:y∈X.ns):∀(b:Bd)(l:lS)(m:Nat),OkB X b->(y∈(hB X.ns X.ow b l m).1.us↔b.fr y)
 |.give x,l,m,hk=>by
  have nn:∀z k,y≠nnm z k:=fun z k e=>hdot z k (e ▸ hy);rw[hB,YY,xm,Bd.fr];have h1:=ZU nn (fr:=rO X.ns (.give x) l) [x] [] m;have h2:=xb (fr:=rO X.ns (.give x) l) [x] [] m;have h3:=(yD (rO X.ns (.give x) l) [x] m).1;rw[xm]at h3;generalize spr (rO X.ns (.give x) l) [] [x] m=S at *;obtain⟨st,ps,m2⟩:=S;dsimp only at *
  rw[Qh _ _ fun p hp=>by obtain⟨_,k,e⟩:=h2 p hp;rw[e];exact nn _ _,Hc.us]
  match st,h3 with
  |[s],_ =>
   rw[uo (a:=y) (b:=x)]at h1;exact h1
 |.lt x d b,l,m,hk=>by
  have nn:∀z k,y≠nnm z k:=fun z k e=>hdot z k (e ▸ hy);obtain⟨⟨_,_,hca⟩,hkb⟩:=show(x∈X.ns/\(∀y∈d.uses,y∈X.ns)/\CaD X.N X.ow d)/\OkB X b from hk
  rw[hB,YY,Bd.fr];generalize rO X.ns (.lt x d b) l=R at *;have es:spL X.ns X.ow d b R m=spr (frL X.ns X.ow d b R) [] (upN d.uses (ends X.ow d)) m:=by unfold spL;exact xm _ _ _
  have h1:=ZU nn (fr:=frL X.ns X.ow d b R) (upN d.uses (ends X.ow d)) [] m;have h2:=xb (fr:=frL X.ns X.ow d b R) (upN d.uses (ends X.ow d)) [] m;have h3:=(yD (frL X.ns X.ow d b R) (upN d.uses (ends X.ow d)) m).1;rw[xm]at h3;rw[es];generalize spr (frL X.ns X.ow d b R) [] (upN d.uses (ends X.ow d)) m=S at *;obtain⟨st,ps,m2⟩:=S;dsimp only at *
  rw[Qh _ _ fun p hp=>by obtain⟨_,k,e⟩:=h2 p hp;rw[e];exact nn _ _,Hc.us,uy,uW,za3 hca h3,Y0 hdot hy b _ _ hkb,decide_eq_true_eq];have el:=YZ hca
  constructor
  ·rintro(a|(a|a)|a)
   ·exact .inr (vz (h1.mp (.inl a)))
   ·exact .inr (vz (h1.mp (.inr a)))
   ·exact .inr (za1 a)
   ·exact .inl a
  ·rintro(a|a)
   ·exact .inr (.inr a)
   ·rcases YX el a with a|a
    ·rcases h1.mpr a with a|a
     ·exact .inl a
     ·exact .inr (.inl (.inl a))
    ·exact .inr (.inl (.inr a))
 |.iff x a b,l,m,hk=>by
  obtain⟨k1,k2⟩:=show OkB X a/\OkB X b from hk
  rw[hB,YY,Bd.fr,Hc.us,uy,uk,Y0 hdot hy a _ _ k1,Y0 hdot hy b _ _ k2]
  constructor
  ·rintro((h|h)|h)
   ·exact .inr h
   ·exact .inl (.inl h)
   ·exact .inl (.inr h)
  ·rintro((h|h)|h)
   ·exact .inl (.inr h)
   ·exact .inr h
   ·exact .inl (.inl h)
 |.case x as,l,m,hk=>by
  rw[hB,YY,Bd.fr,Hc.us,uk,zbT hdot hy x _ as _ hk];exact or_comm
theorem zbT(hdot:∀z k,nnm z k∉X.ns){y:Str}(hy:y∈X.ns)(x:Str)(R:lS):∀(as:Arms)(m:Nat),OkA X as->(y∈(hA X.ns X.ow x R as m).1.us↔as.fr y)
 |.nil,m,_=>by rw[hA,Ha.us,Arms.fr];simp
 |.cons t xs b r,m,hk=>by
  obtain⟨⟨k1,k2⟩,k3⟩:=show((∀y∈xs,y∈X.ns)/\OkB X b)/\OkA X r from hk
  rw[hA,Ha.us,Arms.fr,uy,uW,Y0 hdot hy b _ _ k2,zbT hdot hy x R r _ k3,decide_eq_true_eq]
end
end
mutual
def Hc.uz:Hc->Nat
 |.give _=>1
 |.drop _ b=>b.uz
 |.hold _ _ b=>b.uz+1
 |.lt _ d b=>b.uz+d.uses.length
 |.iff _ a b=>a.uz+b.uz+1
 |.case _ as=>as.uz+1
def Ha.uz:Ha->Nat
 |.nil=>0
 |.cons _ _ _ b r=>b.uz+r.uz
end
mutual
theorem xF:∀c:Hc,c.us.length<=c.uz
 |.give _=>by rw[Hc.us,Hc.uz];exact uj _
 |.drop _ b=>by rw[Hc.us,Hc.uz];exact xF b
 |.hold n _ b=>by
  rw[Hc.us,Hc.uz,ui];exact Nat.succ_le_succ (uI (um _ _) (xF b))
 |.lt x d b=>by
  rw[Hc.us,Hc.uz,uf]
  have:=uI (um (fun y=>decide (y≠x)) b.us) (xF b)
  lia
 |.iff _ a b=>by
  have:=xF a
  have:=xF b
  rw[Hc.us,Hc.uz,uf,ui];lia
 |.case _ as=>by rw[Hc.us,Hc.uz,ui];exact Nat.succ_le_succ (XS as)
theorem XS:∀c:Ha,c.us.length<=c.uz
 |.nil=>by rw[Ha.us];exact uM _
 |.cons _ ns _ b r=>by
  rw[Ha.us,Ha.uz,uf]
  have:=uI (um (fun y=>decide (y∉ns)) b.us) (xF b)
  have:=XS r
  lia
end
inductive spDUses(vs:List V)(H:Hp)(Q:VK)(e_3:XK):Prop
 |mk (p:Addr):(∃d:De,vs=[.ref p]/\IsHd H d p/\WdOk d/\d.uses.length<=100/\∀H' l,Same H H'->H l=none->H' l=some (.lst (d.uses.map V.str))->Q (.ref l) H')->spDUses vs H Q e_3
inductive spUses(n:Nat)(vs:List V)(H:Hp)(Q:VK)(e_3:XK):Prop
 |mk (c:Hc) (v:V) (N:lS):(∃ow:Str->List Bool,vs=[v]/\IsHc H c v/\c.Ok N ow/\c.dp<=n/\c.uz<=4000000/\∀H' l,Same H H'->H l=none->H' l=some (.lst (c.us.map V.str))->Q (.ref l) H')->spUses n vs H Q e_3
def Ha.usT:Ha->Nat->lS
 |.cons _ ns _ b r,i+1=>(b.us.filter fun y=>decide (y∉ns))++r.usT i
 |_,_=>[]
theorem Ha.usT_zero(as:Ha):as.usT 0=[]:=by cases as<;>rfl
theorem Qi{H:Hp}:∀{as:Ha}{vs:List V},IsHa H as vs->as.usT vs.length=as.us
 |.nil,vs,h=>by rw[show vs=[]from h,Ha.us];rfl
 |.cons t ns m b r,vs,⟨p,q,u,vs',e,_,_,_,h4⟩=>by
  subst e;rw[ui,Ha.usT,Ha.us,Qi h4]
theorem Wu{H:Hp}{N:lS}{ow:Str->List Bool}:∀{as:Ha}{vs:List V},IsHa H as vs->as.Ok N ow->∀{i:Nat}{v:V},vs[i]?=some v->∃(t:Str)(xs:lS)(m:Bool)(b:Hc)(p q:Addr)(u:V),v=.ref p/\H p=some (.tup [.str t,.ref q,.str (yG m),.str "",u])/\H q=some (.tup (xs.map V.str))/\IsHc H b u/\(xs.length<=100/\b.Ok N ow)/\b.dp<=as.dp/\as.usT (i+1)=as.usT i++(b.us.filter fun y=>decide (y∉xs))/\(as.usT i).length+b.uz<=as.uz
 |.nil,vs,h,_,i,v,hv=>by
  rw[show vs=[]from h]at hv;cases hv
 |.cons t xs m b r,vs,⟨p,q,u,vs',e,h1,h2,h3,h4⟩,⟨k1,k2⟩,i,v,hv=>by
  rw[Ha.dp,Ha.uz];subst e;cases i with
  |zero =>
   cases hv;refine⟨t,xs,m,b,p,q,u,rfl,h1,h2,h3,k1,Nat.le_max_left _ _,?_,?_⟩
   ·rw[Ha.usT,Ha.usT_zero,Ha.usT_zero,u6,List.nil_append]
   ·rw[Ha.usT_zero]
    show 0+_<=_;lia
  |succ i =>
   obtain⟨t',xs',m',b',p',q',u',e1,e2,e3,e4,e5,e6,e7,e8⟩:=Wu h4 k2 (i:=i) (v:=v) (by simpa using hv);refine⟨t',xs',m',b',p',q',u',e1,e2,e3,e4,e5,uI e6 (Nat.le_max_right _ _),?_,?_⟩
   ·rw[Ha.usT,e7,Ha.usT,UA]
   ·rw[Ha.usT,uf]
    have:=uI (um (fun y=>decide (y∉xs)) b.us) (xF b)
    lia
theorem za4:FnScope ["_law_deed_here"] ["_law_deed_here"] (zp wm):=.ok
theorem Qj(F:Fun K "_law_deed_uses" "_law_deed_uses" wm f fd)(m_list:mg "list"=none):FnOk P w K mg base CX0 1 f fd ["_law_deed_here"] spDUses:=by
 refine F.by za4 (fun vs H Q E h=>?_) (fun cdv A outer s H vs Q E hr h=>?_)
 ·obtain⟨p,d,rfl,_⟩:=h
  rfl
 obtain⟨p,d,rfl,hd,hw,hu,q⟩:=h;refine⟨_,
  (zh (zE (tN zI (zn K (jv 0)) zw)
   (zk (zv (zD zL)))  zx)
  (zh (zE (tN zI (zn K (jv 0)) zw)
   (zk (zv (zD (jA2 (zn K (jv 0)) (zn K (jv 0))))))  zx)
  (zh (zE (tN zI (zn K (jv 0)) zw)
   (zk (zv (zA yz (zD (jA1 (zn K (jv 0)))) (zS (yK K) rfl m_list Ut (jA1 (zn K (jv 0)))))))  zx)
  (zk (zv (zS (yK K) rfl m_list Ut (jA1 (zn K (jv 0))))))))),?_⟩
 have sl:=zO;cases d with
 |num i =>
  refine(yV rfl hd ⟨sN0,fun l hl=>?_⟩);exact q _ l (zo hl _) hl uX9
 |op w0 a b =>
  refine(ya rfl hd (yV rfl hd (zg rfl (ixT hd aI2 (zg rfl (ixT hd aI3 ⟨sN2,fun l hl=>?_⟩))))));exact q _ l (zo hl _) hl uX9
 |app w0 f0 xs =>
  obtain⟨qx,rest,hp,hq⟩:=XR hd;refine(zg rfl (ixT hp aI0 ⟨rfl,(zg rfl ?_)⟩));rw[decide_eq_false (fun e=>hw.1 (V.str.inj e))];refine iteF (nxtC (zg rfl (ixT hp aI0 ⟨rfl,(zg rfl ?_)⟩)));rw[decide_eq_false (fun e=>hw.2 (V.str.inj e))];refine iteF (nxtC (zg rfl (ixT hp aI0 ⟨rfl,(zg rfl ?_)⟩)));by_cases e:w0="ask"
  ·subst e
   rw[zX,ui]at hu;refine iteT (zg rfl (ixT hp aI1 ⟨sN1,fun l1 h1=>(zg rfl (ixT (old h1 hp) aI2 ⟨qx,(zg rfl ⟨.inr (SqT.of (old h1 hq)),fun l2 h2=>⟨l1,l2,(zC rfl rfl ⟨old h2 uX9,uX9,by rw[ua];show 1+_<=_;lia,fun l3 h3=>?_⟩)⟩⟩)⟩))⟩));have s3:=((zo (H:=H) h1 (.lst [.str f0])).new (o:=.lst (xs.map V.str)) h2);refine q _ l3 (s3.new h3) (s3.free h3) ?_;rw[uX9,zX]
   rfl
  ·rw[decide_eq_false (fun z=>e (V.str.inj z))]
   refine iteF (nxtC (zg rfl (ixT hp aI2 ⟨qx,(zg rfl ⟨.inr (SqT.of hq),fun l1 h1=>?_⟩)⟩)));refine q _ l1 (zo h1 _) h1 ?_;rw[uX9,zV e]
theorem Qk{α:Type}{c:α}:∀{a b r s:List α},c∉a->c∉b->a++c::r=b++c::s->a=b
 |[],[],_,_,_,_,_=>rfl
 |[],y::b,r,s,_,hb,e=>by
  injection e with e _
  exact absurd (e ▸ .head _) hb
 |x::a,[],r,s,ha,_,e=>by
  injection e with e _
  exact absurd (e ▸ .head _) ha
 |x::a,y::b,r,s,ha,hb,e=>by
  injection e with e1 e2
  rw[e1,Qk (fun h=>ha (.tail _ h)) (fun h=>hb (.tail _ h)) e2]
theorem Ql(m:Nat):46∉cl (Str.ofString (toString ((m:Nat):Int))):=fun h=>by
 rw[JW]at h
 have:=JV m 46 h
 lia
theorem ZX(h:nnm x i=nnm y j):i=j:=by
 have e:=congrArg cl h;unfold nnm at e;rw[z6,z6,z6,z6,z6,z6,show cl (".":Str)=[46] by decide +kernel]at e;have e:=congrArg List.reverse e;rw[U1,U1,U1 (as:=cl Str.empty++cl y++[46]),U1 (as:=cl Str.empty++cl y)]at e;have e:=Qk (c:=46) (fun z=>Ql i (List.mem_reverse.mp z)) (fun z=>Ql j (List.mem_reverse.mp z)) e;have e:=List.reverse_inj.mp e;have e3:toString ((i:Nat):Int)=toString ((j:Nat):Int):=by
  rw[Str.ofString_eq_toList,Str.ofString_eq_toList]at e;have e:(toString ((i:Nat):Int)).toList.map Char.toNat=(toString ((j:Nat):Int)).toList.map Char.toNat:=e;exact String.ext ((List.map_inj_right fun _ _=>Char.toNat_inj.mp).mp e)
 exact Int.ofNat.inj (Int.repr_inj.mp e3)
theorem xC{fr:lS}:∀(xs st:lS)(m:Nat),((spr fr st xs m).2.1.map (·.1)).Nodup/\∀p∈(spr fr st xs m).2.1,∃z k,p.1=nnm z k/\m < k
 |[],st,m=>by
  unfold spr;exact⟨List.Pairwise.nil,fun p hp=>by cases hp⟩
 |x::xs,st,m=>by
  unfold spr;split
  ·exact xC xs _ m
  ·obtain⟨h1,h2⟩:=xC xs (st++[nnm x (m+1)]) (m+1)
   refine⟨?_,fun p hp=>?_⟩
   ·rw[uC,uX]
    refine⟨fun hm=>?_,h1⟩;obtain⟨p,hp,e⟩:=uu.mp hm;obtain⟨z,k,e2,hk⟩:=h2 p hp
    have:=ZX (e2.symm.trans e)
    lia
   ·rcases uk.mp hp with rfl|hp
    ·exact⟨x,m+1,rfl,UW _⟩
    ·obtain⟨z,k,e2,hk⟩:=h2 p hp
     exact⟨z,k,e2,by lia⟩
def rst(l g:lS):lS:=l.filter fun y=>decide (y∉g)
theorem ZY(l g:lS):(rst l g).length<=l.length:=um _ _
def alU(c:Hc)(l:lS):Bool:=l.all fun y=>decide (y∈c.us)
mutual
def pl(ow:Str->List Bool):Hc->Bool->lS->Bool
 |.drop x b,g,l=>(g && (decide (x∈l) && !decide (x∈b.us))) && pl ow b true (rst l [x])
 |.give x,_,l=>alU (.give x) l
 |.hold n x b,_,l=>alU (.hold n x b) l && pl ow b false (l++[n])
 |.lt x d b,_,l=>alU (.lt x d b) l && pl ow b true (rst l (ups ow d)++[x])
 |.iff x a b,_,l=>alU (.iff x a b) l && (pl ow a true l && pl ow b true l)
 |.case x as,_,l=>alU (.case x as) l && plA ow x as l
def plA(ow:Str->List Bool)(x:Str):Ha->lS->Bool
 |.nil,_=>true
 |.cons _ xs m b r,l=>pl ow b true ((if m then rst l [x]else l)++xs) && plA ow x r l
end
theorem za5(l:lS)(x:Str)(ds:lS):rst (rst l [x]) ds=rst l (x::ds):=by
 unfold rst;rw[List.filter_filter];refine List.filter_congr fun y _=>?_;simp[Bool.and_comm]
theorem ZZ(ns:lS)(b:Bd)(l:lS):rst l (dO ns b l)=rO ns b l:=by
 unfold rst rO dO;refine List.filter_congr fun y hy=>?_;cases e:ahB ns b y
 ·simp[hy,e]
 ·simp[e]
def rot(ps:List (Str×Str))(y:Str):Str:=((ps.find? fun p=>decide (p.1=y)).map (·.2)).getD y
def few(ps:List (Str×Str))(some own:lS)(goes:Str->Bool):Bool:=(ps.all fun p=>some.count p.1 == 1) && own.all fun y=>if goes y then(some.count y == 1) && ((ps.filter fun p=>decide (p.2=y)).length+1 == own.count y)else(ps.filter fun p=>decide (p.2=y)).length == own.count y
mutual
def wf(ow:Str->List Bool):Hc->List (Str×Str)->lS->Bool
 |.hold n x b,ps,l=>(decide (n∉ps.map (·.1)) && decide (x∉ps.map (·.1))) && wf ow b (ps++[(n,x)]) l
 |.drop x b,ps,l=>ps.isEmpty && wf ow b [] (rst l [x])
 |.iff _ a b,ps,l=>ps.isEmpty && (wf ow a [] l && wf ow b [] l)
 |.case x as,ps,l=>ps.isEmpty && wfA ow x as l
 |.give x,ps,l=>few ps [x] [rot ps x] fun y=>decide (y∈l)
 |.lt x d b,ps,l=>few ps (ups ow d) ((ups ow d).map (rot ps)) (fun y=>decide (y∈l) && (decide (y∉yT ow d) && decide (y∉b.us))) && wf ow b [] (rst l (ups ow d)++[x])
def wfA(ow:Str->List Bool)(x:Str):Ha->lS->Bool
 |.nil,_=>true
 |.cons _ xs m b r,l=>wf ow b [] ((if m then rst l [x]else l)++xs) && wfA ow x r l
end
theorem xQ(ow:Str->List Bool)(c:Hc):∀(ds l:lS),wf ow (wD ds c) [] l=wf ow c [] (rst l ds)
 |[],l=>by
  rw[show rst l []=l from List.filter_eq_self.mpr fun y _=>by simp]
  rfl
 |x::ds,l=>by
  show wf ow (.drop x (wD ds c)) [] l=_;rw[wf,xQ ow c ds,za5]
  rfl
theorem ji(ow:Str->List Bool)(c:Hc)(l:lS):∀(ps p0:List (Str×Str)),((p0++ps).map (·.1)).Nodup->(∀p∈ps,p.2∉(p0++ps).map (·.1))->wf ow (wH ps c) p0 l=wf ow c (p0++ps) l
 |[],p0,_,_=>by rw[u6];rfl
 |p::ps,p0,nd,h=>by
  show wf ow (.hold p.1 p.2 (wH ps c)) p0 l=_;have e:p0++p::ps=p0++[(p.1,p.2)]++ps:=by rw[UA];rfl
  have n1:p.1∉p0.map (·.1):=fun z=>by
   rw[ut,List.nodup_append]at nd;exact nd.2.2 _ z _ (.head _) rfl
  have n2:p.2∉p0.map (·.1):=fun z=>h p (.head _) (by rw[ut];exact uU _ z);rw[wf,decide_eq_true n1,decide_eq_true n2,Bool.true_and,Bool.true_and,e];rw[e]at nd;exact ji ow c l ps (p0++[(p.1,p.2)]) nd fun q hq=>by
   have:=h q (.tail _ hq)
   rw[e]at this;exact this
theorem Y1(h:y∉ps.map (·.1)):rot ps y=y:=by
 unfold rot;rw[UX.mpr fun p hp z=>h (uu.mpr ⟨p,hp,of_decide_eq_true z⟩)]
 rfl
theorem Qm(nd:(ps.map (·.1)).Nodup){p:Str×Str}(h:p∈ps):rot ps p.1=p.2:=by
 unfold rot;cases e:ps.find? fun q=>decide (q.1=p.1)with
 |none =>
  have:=UX.mp e p h
  simp at this
 |some q =>
  have h1:=List.find?_some e;have h2:=tK e;rw[decide_eq_true_eq]at h1
  have:q=p:=ZQ (g:=(·.1)) nd h2 h h1
  rw[this]
  rfl
theorem Z0{fr:lS}{PS:List (Str×Str)}(nd:(PS.map (·.1)).Nodup)(hn:∀p∈PS,∃z k,p.1=nnm z k):∀(xs st:lS)(m:Nat),(∀y∈xs,∀z k,y≠nnm z k)->(∀p∈(spr fr st xs m).2.1,p∈PS)->(spr fr st xs m).1.map (rot PS)=xs
 |[],st,m,_,_=>by unfold spr;rfl
 |x::xs,st,m,hx,hp=>by
  unfold spr at hp ⊢;split at hp
  ·rename_i c
   rw[if_pos c];show rot PS x::_=_;rw[Z0 nd hn xs _ m (fun y hy=>hx y (.tail _ hy)) hp,Y1 fun z=>?_];obtain⟨p,h1,h2⟩:=uu.mp z;obtain⟨z,k,e⟩:=hn p h1;exact hx x (.head _) z k (h2.symm.trans e)
  ·rename_i c
   rw[if_neg c];show rot PS (nnm x (m+1))::_=_;rw[Z0 nd hn xs _ (m+1) (fun y hy=>hx y (.tail _ hy)) fun p h=>hp p (.tail _ h)]
   have:=Qm nd (hp (nnm x (m+1),x) (.head _))
   rw[this]
theorem Z2{fr:lS}{y:Str}(hy:∀z k,y≠nnm z k):∀(xs st:lS)(m:Nat),
  (y∈fr/\y∉st->((spr fr st xs m).2.1.filter fun p=>decide (p.2=y)).length+(if y∈xs then 1 else 0)=xs.count y/\(spr fr st xs m).1.count y=if y∈xs then 1 else 0)/\(¬ (y∈fr/\y∉st)->((spr fr st xs m).2.1.filter fun p=>decide (p.2=y)).length=xs.count y/\(spr fr st xs m).1.count y=0)
 |[],st,m=>by unfold spr;simp
 |x::xs,st,m=>by
  by_cases c:x∈fr/\x∉st
  ·obtain⟨i1,i2⟩:=Z2 hy xs (st++[x]) m
   rw[spr,if_pos c];dsimp only
   by_cases e:x=y
   ·subst e
    have ih:=i2 fun z=>z.2 (by simp);refine⟨fun _=>?_,fun z=>absurd c z⟩;rw[if_pos (.head _),tD,tD,ih.1,ih.2];exact⟨rfl,rfl⟩
   ·have em:(y∈fr/\y∉st++[x])↔(y∈fr/\y∉st):=by
     rw[uy,uo]
     constructor
     ·exact fun z=>⟨z.1,fun w=>z.2 (.inl w)⟩
     ·exact fun z=>⟨z.1,fun w=>w.elim z.2 fun v=>e v.symm⟩
    rw[em]at i1 i2;have mc:(y∈x::xs)=(y∈xs):=by rw[uk];simp[Ne.symm e]
    rw[UO (by simpa using e),UO (by simpa using e)];simp only[mc]
    exact⟨i1,i2⟩
  ·obtain⟨i1,i2⟩:=Z2 hy xs (st++[nnm x (m+1)]) (m+1)
   rw[spr,if_neg c];dsimp only
   have em:(y∈fr/\y∉st++[nnm x (m+1)])↔(y∈fr/\y∉st):=by
    rw[uy,uo]
    constructor
    ·exact fun z=>⟨z.1,fun w=>z.2 (.inl w)⟩
    ·exact fun z=>⟨z.1,fun w=>w.elim z.2 fun v=>hy _ _ v⟩
   rw[em]at i1 i2;have nn:nnm x (m+1)≠y:=fun z=>hy _ _ z.symm;rw[UO (a:=y) (b:=nnm x (m+1)) (by simpa using nn),List.filter_cons];by_cases e:x=y
   ·subst e
    refine⟨fun z=>absurd z c,fun z=>?_⟩;have ih:=i2 z;rw[if_pos (by simp),tD,ui,ih.1];exact⟨rfl,ih.2⟩
   ·have mc:(y∈x::xs)=(y∈xs):=by rw[uk];simp[Ne.symm e]
    rw[if_neg (by simpa using e),UO (a:=y) (b:=x) (by simpa using e)];simp only[mc]
    exact⟨i1,i2⟩
theorem jj{fr:lS}:∀(xs st:lS)(m:Nat)(y:Str),y∈(spr fr st xs m).1->y∈xs\/∃z k,y=nnm z k/\m < k
 |[],st,m,y,h=>by unfold spr at h;cases h
 |x::xs,st,m,y,h=>by
  unfold spr at h;split at h
  ·rcases uk.mp h with rfl|h
   ·exact .inl (.head _)
   ·exact(jj xs _ m y h).imp_left (.tail _)
  ·rcases uk.mp h with rfl|h
   ·exact .inr ⟨_,_,rfl,UW _⟩
   ·exact(jj xs _ (m+1) y h).imp (.tail _) fun⟨z,k,e,hk⟩=>⟨z,k,e,by lia⟩
theorem Z3{fr:lS}:∀(xs st:lS)(m:Nat),(∀y∈xs,∀z k,y≠nnm z k)->∀p∈(spr fr st xs m).2.1,(spr fr st xs m).1.count p.1=1
 |[],st,m,_,p,h=>by unfold spr at h;cases h
 |x::xs,st,m,hx,p,h=>by
  rw[spr]at h ⊢;by_cases c:x∈fr/\x∉st
  ·rw[if_pos c]at h ⊢
   obtain⟨z,k,e,_⟩:=(xC xs (st++[x]) m).2 p h;dsimp only
   rw[UO (by rw[e];simpa using hx x (.head _) z k)];exact Z3 xs _ m (fun y hy=>hx y (.tail _ hy)) p h
  ·rw[if_neg c]at h ⊢
   dsimp only at h ⊢
   rcases uk.mp h with rfl|h
   ·dsimp only
    rw[tD,List.count_eq_zero.mpr fun z=>?_];rcases jj xs _ (m+1) _ z with w|⟨z,k,w,hk⟩
    ·exact hx _ (.tail _ w) _ _ rfl
    ·have:=ZX w
     lia
   ·obtain⟨z,k,e,hk⟩:=(xC (fr:=fr) xs (st++[nnm x (m+1)]) (m+1)).2 p h
    rw[UO (by rw[e];simp;exact fun w=>by have:=ZX w;lia)];exact Z3 xs _ (m+1) (fun y hy=>hx y (.tail _ hy)) p h
theorem Wv{fr xs:lS}{goes:Str->Bool}(hx:∀y∈xs,∀z k,y≠nnm z k)(hg:∀y∈xs,goes y=true↔y∈fr):few (spr fr [] xs m).2.1 (spr fr [] xs m).1 ((spr fr [] xs m).1.map (rot (spr fr [] xs m).2.1)) goes=true:=by
 have h1:=xC (fr:=fr) xs [] m;rw[Z0 h1.1 (fun p hp=>let ⟨z,k,e,_⟩:=h1.2 p hp;⟨z,k,e⟩) xs [] m hx fun _ h=>h];unfold few;rw[uJ,Ui,Ui];refine⟨fun p hp=>beq_iff_eq.mpr (Z3 xs [] m hx p hp),fun y hy=>?_⟩;obtain⟨i1,i2⟩:=Z2 (fr:=fr) (hx y hy) xs [] m;by_cases c:y∈fr
 ·obtain⟨j1,j2⟩:=i1 ⟨c,by simp⟩
  rw[if_pos hy]at j1 j2;rw[if_pos ((hg y hy).mpr c),uJ,beq_iff_eq,beq_iff_eq];exact⟨j2,j1⟩
 ·obtain⟨j1,j2⟩:=i2 fun z=>c z.1
  rw[if_neg fun z=>c ((hg y hy).mp z),beq_iff_eq];exact j1
theorem Qn(hc:CaD N ow d)(h:st.length=(upN d.uses (ends ow d)).length):yT ow (hdD ow d st)=ltN d.uses (ends ow d):=by
 unfold hdD;rw[vv];cases d with
 |num i=>rfl
 |op w a b=>rfl
 |app w f xs =>
  have al:∀ys:lS,ltN ys (ys.map fun _=>true)=[]:=fun ys=>by
   induction ys with
   |nil=>rfl
   |cons y ys ih=>rw[uC,xx,if_pos rfl,ih]
  by_cases e:w="ask"
  ·subst e
   have ee:ends ow (.app "ask" f xs)=(f::xs).map fun _=>true:=by
    rw[<- zX (f:=f) (xs:=xs)];exact if_neg (t:=ow f) (show ¬ (("ask":Str)="call") by decide)
   rw[ee,zX,vy]at h;rw[ee,zX,vx _ _ h,al];cases st with
   |nil=>simp at h
   |cons s st =>
    rw[ZH];unfold yT;exact if_neg (by decide)
  ·rw[wY e]
   rw[zV e]at h ⊢;by_cases e2:w="call"
   ·subst e2
    have ee:ends ow (.app "call" f xs)=ow f:=by unfold ends;exact if_pos rfl
    have l:yT ow (.app "call" f (rpr xs (ow f) st))=ltN (rpr xs (ow f) st) (ow f):=by unfold yT;exact if_pos rfl
    rw[ee,l,vw xs (ow f) st (hc rfl).2.symm]
   ·have ee:ends ow (.app w f xs)=xs.map fun _=>true:=by
     rw[show ends ow (.app w f xs)=(De.uses (.app w f xs)).map fun _=>true from if_neg e2,zV e]
    rw[ee,al];exact if_neg e2
section
variable(nd:X.ns.Nodup)(hdot:∀z k,nnm z k∉X.ns)
include nd hdot
mutual
theorem Y2:∀(b:Bd)(sc l:lS)(m:Nat),SndB o sc b->OkB X b->(∀y∈l,y∈sc)->(∀y∈sc,y∈X.ns)->wf X.ow (hB X.ns X.ow b l m).1 [] l=true
 |.give x,sc,l,m,hs,hk,ls,sn=>by
  rw[hB,xQ,ZZ,xm];have hx:∀y∈[x],∀z k,y≠nnm z k:=fun y hy z k e=>hdot z k (by rw[<- e,uo.mp hy];exact hk);generalize rO X.ns (.give x) l=R;have h1:=xC (fr:=R) [x] [] m;have h2:=xb (fr:=R) [x] [] m;have h3:=(yD R [x] m).1;have h4:=Wv (fr:=R) (m:=m) (goes:=fun y=>decide (y∈R)) hx fun y _=>decide_eq_true_iff;rw[xm]at h3;generalize spr R [] [x] m=S at *;obtain⟨st,ps,m2⟩:=S;dsimp only at *
  match st,h3 with
  |[s],_ =>
   rw[ji X.ow _ R ps [] h1.1 fun p hp z=>?_,wf]
   ·exact h4
   ·obtain⟨q,hq,e⟩:=uu.mp z
    obtain⟨z,k,e2,_⟩:=h1.2 q hq;exact hx _ (h2 p hp).1 z k (e.symm.trans e2)
 |.lt x d b,sc,l,m,hs,hk,ls,sn=>by
  rw[SndB]at hs;obtain⟨⟨hus,_,_⟩,hs'⟩:=hs;obtain⟨⟨hxn,hun,hca⟩,hkb⟩:=show(x∈X.ns/\(∀y∈d.uses,y∈X.ns)/\CaD X.N X.ow d)/\OkB X b from hk
  rw[hB,xQ,ZZ];have Rs:∀y∈rO X.ns (.lt x d b) l,y∈sc:=fun y hy=>ls y (uW.mp hy).1;generalize rO X.ns (.lt x d b) l=R at *;have un:∀y∈upN d.uses (ends X.ow d),y∈X.ns:=fun y hy=>hun y (vz hy);have hx:∀y∈upN d.uses (ends X.ow d),∀z k,y≠nnm z k:=fun y hy z k e=>hdot z k (e ▸ un y hy);have es:spL X.ns X.ow d b R m=spr (frL X.ns X.ow d b R) [] (upN d.uses (ends X.ow d)) m:=by unfold spL;exact xm _ _ _
  have h1:=xC (fr:=frL X.ns X.ow d b R) (upN d.uses (ends X.ow d)) [] m;have h2:=xb (fr:=frL X.ns X.ow d b R) (upN d.uses (ends X.ow d)) [] m;have h3:=(yD (frL X.ns X.ow d b R) (upN d.uses (ends X.ow d)) m).1;have h4:=fun goes hg=>Wv (fr:=frL X.ns X.ow d b R) (m:=m) (goes:=goes) hx hg;rw[xm]at h3;rw[es];generalize spr (frL X.ns X.ow d b R) [] (upN d.uses (ends X.ow d)) m=S at *;obtain⟨st,ps,m2⟩:=S;dsimp only at *
  rw[ji X.ow _ R ps [] h1.1 fun p hp z=>?_,wf,List.nil_append,(zdt hca h3).1,Qn hca h3,h4 _ fun y hy=>?_,Bool.true_and]
  ·refine Y2 b (sc++[x]) _ _ hs' hkb (fun y hy=>?_) fun y hy=>?_
   ·rcases uy.mp hy with hy|hy
    ·exact uU _ (Rs y (uW.mp hy).1)
    ·exact uE _ hy
   ·rcases uy.mp hy with hy|hy
    ·exact sn y hy
    ·rw[uo.mp hy];exact hxn
  ·have e1:y∈(hB X.ns X.ow b (stL R st x) m2).1.us↔ahB X.ns b y=true:=(Y0 hdot (un y hy) b _ _ hkb).trans (zds nd (un y hy)).symm
   unfold frL;rw[uW,uJ,uJ,uJ,decide_eq_true_eq,decide_eq_true_eq,decide_eq_true_eq,e1];refine and_congr_right fun _=>and_comm.trans (and_congr_left fun _=>?_);cases ahB X.ns b y<;>simp
  ·obtain⟨q,hq,e⟩:=uu.mp z
   obtain⟨z,k,e2,_⟩:=h1.2 q hq;exact hx _ (h2 p hp).1 z k (e.symm.trans e2)
 |.iff x a b,sc,l,m,hs,hk,ls,sn=>by
  rw[SndB]at hs;obtain⟨k1,k2⟩:=show OkB X a/\OkB X b from hk
  have Rs:∀y∈rO X.ns (.iff x a b) l,y∈sc:=fun y hy=>ls y (uW.mp hy).1;rw[hB,xQ,ZZ,wf,Y2 a sc _ _ hs.2.1 k1 Rs sn,Y2 b sc _ _ hs.2.2 k2 Rs sn]
  rfl
 |.case x as,sc,l,m,hs,hk,ls,sn=>by
  rw[SndB]at hs;have Rs:∀y∈rO X.ns (.case x as) l,y∈sc:=fun y hy=>ls y (uW.mp hy).1;rw[hB,xQ,ZZ,wf,zbU x as sc _ _ hs.2 hk Rs sn]
  rfl
theorem zbU(x:Str):∀(as:Arms)(sc R:lS)(m:Nat),SndA o sc as->OkA X as->(∀y∈R,y∈sc)->(∀y∈sc,y∈X.ns)->wfA X.ow x (hA X.ns X.ow x R as m).1 R=true
 |.nil,sc,R,m,_,_,_,_=>by rw[hA,wfA]
 |.cons t xs b r,sc,R,m,hs,hk,Rs,sn=>by
  rw[SndA]at hs;obtain⟨⟨_,hs1⟩,hs2⟩:=hs;obtain⟨⟨k1,k2⟩,k3⟩:=show((∀y∈xs,y∈X.ns)/\OkB X b)/\OkA X r from hk
  rw[hA,wfA,zbU x r sc R _ hs2 k3 Rs sn,Bool.and_true];have e:(if tkB X.ns x R b=true then rst R [x]else R)++xs=stA (tkB X.ns x R b) x R xs:=by
   unfold stA
   congr 1
   cases tkB X.ns x R b
   ·rw[if_neg (by decide)]
    exact(List.filter_eq_self.mpr fun y _=>rfl).symm
   ·rw[if_pos rfl]
    unfold rst;refine List.filter_congr fun y _=>?_;simp
  rw[e];refine Y2 b (sc++xs) _ _ hs1 k2 (fun y hy=>?_) fun y hy=>?_
  ·unfold stA at hy
   rcases uy.mp hy with hy|hy
   ·exact uU _ (Rs y (uW.mp hy).1)
   ·exact uE _ hy
  ·rcases uy.mp hy with hy|hy
   ·exact sn y hy
   ·exact k1 y hy
end
end
theorem scUsesH:FnScope ["_law_body_here","_law_found","_law_tag","_law_names","_law_mode","_law_token","_law_inner"] ["_law_body_here"] (zp Zs):=.ok
theorem Z4:(["_law_body_here","_law_found","_law_tag","_law_names","_law_mode","_law_token","_law_inner","_law_name_here"]:lS).Nodup:=by decide +kernel
theorem Qo(F:Fun K "_law_uses" "_law_uses" Zs f fd):FnOk P w K mg base CX0 (1+0) f fd ["_law_body_here"] (spUses 0):=by
 refine F.by scUsesH (fun vs H Q E h=>?_) (fun cdv A outer s H vs Q E hr h=>?_)
 ·obtain⟨c,v,N,ow,rfl,_⟩:=h
  rfl
 obtain⟨c,v,N,ow,rfl,_,_,hd,_⟩:=h;exact absurd hd (Nat.not_le_of_gt c.dp_pos)
theorem za6(F:Fun K "_law_uses" "_law_uses" Zs f fd)(GU:Ca P w K mg base CX0 (1+n) "_law_uses" ["_law_body_here"] (spUses n))(GD:Ca P w K mg base CX0 1 "_law_deed_uses" ["_law_deed_here"] spDUses):FnOk P w K mg base CX0 (1+(n+1)) f fd ["_law_body_here"] (spUses (n+1)):=by
 refine F.by scUsesH (fun vs H Q E h=>?_) (fun cdv A outer s H vs Q E hr h=>?_)
 ·obtain⟨c,v,N,ow,rfl,_⟩:=h
  rfl
 obtain⟨c,v,N,ow,rfl,hI,hok,hd,hz,q⟩:=h;have hrU:Room (1+n) _:=hr;have hr1:Room 1 _:=hrU.mono (by lia);refine⟨_,
  (zh (zE (tN zI (zn K (jv 0)) zw)
   (zk (zv (zD (jA1 (zn K (jv 0))))))  zx)
  (zh (zE (tN zI (zn K (jv 0)) zw)
   (zk (zv (cA GU hrU (jA1 (zn K (jv 0))))))  zx)
  (zh (zE (tN zI (zn K (jv 0)) zw)
   (zk (zv (zA yz (zD (jA1 (zn K (jv 0)))) (yf ["_law_name_here"] rfl (zR K (cA GU hrU (jA1 (zn K (jv 0))))) (fun _ _ _ _ _=>(gN 7 Z4)) (fun _ _ _ _ _=>(z5 (tN vd (jv 7) (zn K (jv 0))))) (fun _ _ _ _ _=>(jv 7))))))  zx)
  (zh (zE (tN zI (zn K (jv 0)) zw)
   (zk (zv (zA yz (cA GD hr1 (jA1 (zn K (jv 0)))) (yf ["_law_name_here"] rfl (zR K (cA GU hrU (jA1 (zn K (jv 0))))) (fun _ _ _ _ _=>(gN 7 Z4)) (fun _ _ _ _ _=>(z5 (tN vd (jv 7) (zn K (jv 0))))) (fun _ _ _ _ _=>(jv 7))))))  zx)
  (zh (zE (tN zI (zn K (jv 0)) zw)
   (zk (zv (zA yz (zA yz (zD (jA1 (zn K (jv 0)))) (cA GU hrU (jA1 (zn K (jv 0))))) (cA GU hrU (jA1 (zn K (jv 0)))))))  zx)
  (zh (sE 1 scUsesH.nd (zD (jA1 (zn K (jv 0)))))
  (zh (yt PassesOwn.never rfl (yH K (zn K (jv 0))) (zN K rfl (zu (gN 2 scUsesH.nd) (zu (gN 3 scUsesH.nd) (zu (gN 4 scUsesH.nd) (zu (gN 5 scUsesH.nd) (zu (gN 6 scUsesH.nd) zM))))))
   (zk (sE 1 scUsesH.nd (zA yz (jv 1) (yf ["_law_name_here"] rfl (zR K (cA GU hrU (jA1 (jv 6)))) (fun _ _ _ _ _=>(gN 7 Z4)) (fun _ _ _ _ _=>(z5 (xV K (jv 7) (jv 3)))) (fun _ _ _ _ _=>(jv 7)))))))
  (zk (zv (jv 1)))))))))),?_⟩
 have sl:=zO;refine cut5 fun r1_ hr1_=>?_;cases c with
 |give x =>
  obtain⟨p,rfl,hp⟩:=hI;refine(yV rfl hp (zg rfl (ixT hp aI1 ⟨sN1,fun l1 h1=>?_⟩)));exact q _ l1 (zo h1 _) h1 (by rw[uX9,Hc.us];rfl)
 |drop x b =>
  obtain⟨p,u,rfl,hp,hb⟩:=hI;rw[Hc.dp]at hd;rw[Hc.uz]at hz;refine(ya rfl hp (yV rfl hp ?_));rw[Hc.us]at q;exact(zg rfl (ixT hp aI2 ⟨b,u,N,ow,rfl,hb,hok,by lia,hz,q⟩))
 |hold m x b =>
  obtain⟨p,u,rfl,hp,hb⟩:=hI;rw[Hc.dp]at hd;rw[Hc.uz]at hz;have ul:=xF b;refine(ya rfl hp (ya rfl hp ?_));refine(yV rfl hp ?_);refine(zg rfl (ixT hp aI2 ⟨sN1,fun l1 h1=>?_⟩));have s1:=zo (o:=.lst [.str x]) h1;refine(zg rfl (ixT (s1 _ _ hp) aI3 ⟨b,u,N,ow,rfl,hb.keep (.of s1),hok,by lia,by lia,fun H2 l2 s2 f2 h2=>?_⟩));have s02:=s1.trans s2;have hp2:=s02 _ _ hp;refine⟨l2,rfl,⟨_,SqL.of h2⟩,ym (xs:=b.us.map V.str) (fun j τ zs H'=>H2=H'/\(∃z,τ=[sR p,none,none,none,none,none,none,z])/\zs=((b.us.take j).filter fun y=>decide (y≠m)).map V.str) ⟨rfl,⟨none,rfl⟩,rfl⟩ (fun j τ zs H' _ h=>SqL.of (h.1 ▸ h2)) ?_ ?_⟩
  ·rintro j v τ zs H3 hv ⟨rfl,⟨z,rfl⟩,rfl⟩
   obtain⟨y,hy,rfl⟩:=L2.gM hv;rw[y0 hy];have hfl:(((b.us.take j).filter fun y=>decide (y≠m)).map V.str).length < sizeLine:=by
    rw[ua];refine uQ (um _ _) ?_;rw[uq];lia
   refine(zq rfl rfl (ixT hp2 aI1 ⟨rfl,(zg rfl ?_)⟩));by_cases c:y=m
   ·rw[decide_eq_true (congrArg V.str c)]
    exact iteF ⟨rfl,⟨_,rfl⟩,by simp[c]⟩
   ·rw[decide_eq_false (fun z=>c (V.str.inj z))]
    exact iteT (zg rfl ⟨hfl,rfl,⟨_,rfl⟩,by simp[c]⟩)
  rintro τ zs H3 ⟨rfl,_,rfl⟩ l3 h3;rw[ua,Uj];refine⟨l1,l3,(zC rfl rfl ⟨old h3 (s2 _ _ uX9),uX9,by rw[ua];have:=um (fun y=>decide (y≠m)) b.us;show 1+_<=_;lia,fun l4 h4=>?_⟩)⟩;have s3:=s02.new (o:=.lst ((b.us.filter fun y=>decide (y≠m)).map V.str)) h3;refine q _ l4 (s3.new h4) (s3.free h4) ?_;rw[uX9,Hc.us]
  rfl
 |lt x d b =>
  obtain⟨p,qd,u,rfl,hp,hD,hb⟩:=hI;obtain⟨⟨hw,hc,hu⟩,hok⟩:=hok;rw[Hc.dp]at hd;rw[Hc.uz]at hz;have ul:=xF b;refine(ya rfl hp (ya rfl hp ?_));refine(ya rfl hp (yV rfl hp ?_));refine(zg rfl (ixT hp aI2 ⟨qd,d,rfl,hD,hw,hu,fun H1 l1 s1 f1 h1=>?_⟩));refine(zg rfl (ixT (s1 _ _ hp) aI3 ⟨b,u,N,ow,rfl,hb.keep (.of s1),hok,by lia,by lia,fun H2 l2 s2 f2 h2=>?_⟩));have s02:=s1.trans s2;have hp2:=s02 _ _ hp;refine⟨l2,rfl,⟨_,SqL.of h2⟩,ym (xs:=b.us.map V.str) (fun j τ zs H'=>H2=H'/\(∃z,τ=[sR p,none,none,none,none,none,none,z])/\zs=((b.us.take j).filter fun y=>decide (y≠x)).map V.str) ⟨rfl,⟨none,rfl⟩,rfl⟩ (fun j τ zs H' _ h=>SqL.of (h.1 ▸ h2)) ?_ ?_⟩
  ·rintro j v τ zs H3 hv ⟨rfl,⟨z,rfl⟩,rfl⟩
   obtain⟨y,hy,rfl⟩:=L2.gM hv;rw[y0 hy];have hfl:(((b.us.take j).filter fun y=>decide (y≠x)).map V.str).length < sizeLine:=by
    rw[ua];refine uQ (um _ _) ?_;rw[uq];lia
   refine(zq rfl rfl (ixT hp2 aI1 ⟨rfl,(zg rfl ?_)⟩));by_cases c:y=x
   ·rw[decide_eq_true (congrArg V.str c)]
    exact iteF ⟨rfl,⟨_,rfl⟩,by simp[c]⟩
   ·rw[decide_eq_false (fun z=>c (V.str.inj z))]
    exact iteT (zg rfl ⟨hfl,rfl,⟨_,rfl⟩,by simp[c]⟩)
  rintro τ zs H3 ⟨rfl,_,rfl⟩ l3 h3;rw[ua,Uj];refine⟨l1,l3,(zC rfl rfl ⟨old h3 (s2 _ _ h1),uX9,by rw[ua,ua];have:=um (fun y=>decide (y≠x)) b.us;lia,fun l4 h4=>?_⟩)⟩;have s3:=s02.new (o:=.lst ((b.us.filter fun y=>decide (y≠x)).map V.str)) h3;refine q _ l4 (s3.new h4) (s3.free h4) ?_;rw[uX9,Hc.us,ut]
 |iff x a b =>
  obtain⟨p,u1,u2,rfl,hp,h1,h2⟩:=hI;rw[Hc.dp]at hd;rw[Hc.uz]at hz;have ul:=xF a;have ul2:=xF b;refine(ya rfl hp (ya rfl hp ?_));refine(ya rfl hp (ya rfl hp ?_));refine(yV rfl hp ?_);refine(zg rfl (ixT hp aI1 ⟨sN1,fun l1 g1=>?_⟩));have s1:=zo (o:=.lst [.str x]) g1;refine(zg rfl (ixT (s1 _ _ hp) aI2 ⟨a,u1,N,ow,rfl,h1.keep (.of s1),hok.1,by lia,by lia,fun H2 l2 s2 f2 g2=>?_⟩));refine⟨l1,l2,(zC rfl rfl ⟨s2 _ _ uX9,g2,by rw[ua];show 1+_<=_;lia,fun l3 h3=>?_⟩)⟩;have s3:=(s1.trans s2).new (o:=.lst ([.str x]++a.us.map V.str)) h3;refine(zg rfl (ixT (s3 _ _ hp) aI3 ⟨b,u2,N,ow,rfl,h2.keep (.of s3),hok.2,by lia,by lia,fun H4 l4 s4 f4 g4=>?_⟩));refine⟨l3,l4,(zC rfl rfl ⟨s4 _ _ uX9,g4,by rw[uf,ua,ua];show 1+_+_<=_;lia,fun l5 h5=>?_⟩)⟩;have s5:=s3.trans s4;refine q _ l5 (s5.new h5) (s5.free h5) ?_;rw[uX9,Hc.us,ut]
  rfl
 |case x as =>
  obtain⟨p,qa,vs,rfl,hp,hq,hA⟩:=hI;rw[Hc.dp]at hd;rw[Hc.uz]at hz;have ul:=XS as;refine(ya rfl hp (ya rfl hp ?_));refine(ya rfl hp (ya rfl hp ?_));refine(ya rfl hp ?_);subst hr1_;refine(zg rfl (ixT hp aI1 ⟨sN1,fun l1 h1=>?_⟩));have s1:=zo (o:=.lst [.str x]) h1;refine(zg rfl (ixT (s1 _ _ hp) aI2 ⟨qa,rfl,⟨_,SqT.of (s1 _ _ hq)⟩,xi (xs:=vs) (fun i σ H'=>Same H H'/\∃r,(∃y1 y2 y3 y4 y5,σ=[sR p,sR r,y1,y2,y3,y4,y5])/\H r=none/\H' r=some (.lst ((x::as.usT i).map V.str))) ⟨s1,l1,⟨_,_,_,_,_,rfl⟩,h1,by rw[uX9,Ha.usT_zero];rfl⟩ (fun i σ H' _ h=>SqT.of (h.1 _ _ hq)) ?_ ?_⟩))
  ·rintro i v σ H4 hv ⟨s4,r,⟨y1,y2,y3,y4,y5,rfl⟩,fr,hr4⟩
   obtain⟨t,xs,m,b,pa,qn,u,rfl,e2,e3,e4,e5,e6,e7,e8⟩:=Wu hA hok hv;have ul:=xF b;refine⟨_,_,rfl,SqT.of (s4 _ _ e2),rfl,_,_,rfl,_,_,rfl,_,_,rfl,_,_,rfl,_,_,rfl,rfl,?_⟩;refine(zq rfl rfl ⟨b,u,N,ow,rfl,e4.keep (.of s4),e5.2,by lia,by lia,fun H2 l2 s2 f2 h2=>?_⟩);have s02:=s4.trans s2;refine⟨l2,rfl,⟨_,SqL.of h2⟩,ym (xs:=b.us.map V.str) (fun j τ zs H'=>H2=H'/\(∃z,τ=[sR p,sR r,some (.str t),sR qn,some (.str (yG m)),some (.str ""),some u,z])/\zs=((b.us.take j).filter fun y=>decide (y∉xs)).map V.str) ⟨rfl,⟨none,rfl⟩,rfl⟩ (fun j τ zs H' _ h=>SqL.of (h.1 ▸ h2)) ?_ ?_⟩
   ·rintro j v τ zs H3 hv ⟨rfl,⟨z,rfl⟩,rfl⟩
    obtain⟨y,hy,rfl⟩:=L2.gM hv;rw[y0 hy];have hfl:(((b.us.take j).filter fun y=>decide (y∉xs)).map V.str).length < sizeLine:=by
     rw[ua];refine uQ (um _ _) ?_;rw[uq];lia
    refine(zq rfl rfl ⟨qn,(zg rfl ⟨.inr (SqT.of (s02 _ _ e3)),rfl,xD xs,(zg rfl ?_)⟩)⟩);rw[if_pos rfl,inVs];by_cases c:y∈xs
    ·rw[decide_eq_true c]
     exact iteF ⟨rfl,⟨_,rfl⟩,by simp[c]⟩
    ·rw[decide_eq_false c]
     exact iteT (zg rfl ⟨hfl,rfl,⟨_,rfl⟩,by simp[c]⟩)
   ·rintro τ zs H3 ⟨rfl,_,rfl⟩ l3 h3
    rw[ua,Uj];have fl:=um (fun y=>decide (y∉xs)) b.us;refine⟨r,l3,(zC rfl rfl ⟨old h3 (s2 _ _ hr4),uX9,by rw[ua,ua,ui];lia,fun l4 h4=>?_⟩)⟩;have s3:=s02.new (o:=.lst ((b.us.filter fun y=>decide (y∉xs)).map V.str)) h3;exact⟨s3.new h4,l4,⟨_,_,_,_,_,rfl⟩,s3.free h4,by rw[uX9,e7,uC,uC,ut];rfl⟩
  ·rintro σ H4 ⟨s4,r,⟨y1,y2,y3,y4,y5,rfl⟩,fr,hr4⟩
   refine(zg rfl (q _ r s4 fr ?_));rw[hr4,Qi hA,Hc.us]
inductive spLLends(vs:List V)(H:Hp)(Q:VK)(e_3:XK):Prop
 |mk (p:Addr) (od:Addr) (d:De) (ow:Str->List Bool):(∃N:lS,vs=[.ref p,.ref od]/\IsHd H d p/\WdOk d/\OwA H od ow N/\CaD N ow d/\d.uses.length<=100/\∀H' l,Same H H'->H l=none->H' l=some (.lst ((yT ow d).map V.str))->Q (.ref l) H')->spLLends vs H Q e_3
theorem Qp:FnScope lS2 lS2 (zp Zx):=.ok
theorem Vm(F:Fun K "_law_lends" "_law_lends" Zx f fd)(m_zip:mg "zip"=none):FnOk P w K mg base CX0 1 f fd lS2 spLLends:=by
 refine F.by Qp (fun vs H Q E h=>?_) (fun cdv A outer s H vs Q E hr h=>?_)
 ·obtain⟨p,od,d,ow,N,rfl,_⟩:=h
  rfl
 obtain⟨p,od,d,ow,N,rfl,hd,hw,hO,hc,hu,q⟩:=h;refine⟨_,
  (zh (zE (tN zI (zn K (jv 0)) zw) (zk (zv (zD (jA2 (zn K (jv 0)) (zn K (jv 0)))))) zx)
  (zh (zE (tN zI (zn K (jv 0)) zw) (zk (zv (yf ["_law_name_here","_law_own"] rfl (yI K rfl m_zip (jA2 (zn K (jv 0)) (yZ hr (jv 1) (zn K (jv 0))))) (fun _ _ _ _ _=>(zN K (n:=2) rfl (zu (gN 2 ZP) (zu (gN 3 ZP) zM)))) (fun _ _ _ _ _=>(z5 (xn (yr (jv 3))))) (fun _ _ _ _ _=>(jv 2))))) zx)
  (zk (zv (zD zL))))),?_⟩
 have sl:=zO;cases d with
 |num i =>
  refine(zg rfl (ixT hd aI0 ⟨rfl,(zg rfl (iteF (zg rfl (ixT hd aI0 ⟨rfl,(zg rfl (iteF ⟨sN0,fun l hl=>?_⟩))⟩))))⟩));exact q _ l (zo hl _) hl uX9
 |op w0 a b =>
  refine(zg rfl (ixT hd aI0 ⟨rfl,(zg rfl (iteT (zg rfl (ixT hd aI2 (zg rfl (ixT hd aI3 ⟨sN2,fun l hl=>?_⟩))))))⟩));exact q _ l (zo hl _) hl uX9
 |app w0 f0 xs =>
  obtain⟨qx,rest,hp,hq⟩:=XR hd;refine(zg rfl (ixT hp aI0 ⟨rfl,(zg rfl ?_)⟩));rw[decide_eq_false (fun e=>hw.2 (V.str.inj e))];refine iteF (zg rfl (ixT hp aI0 ⟨rfl,(zg rfl ?_)⟩));by_cases e2:w0="call"
  ·subst e2
   rw[zV (by decide)]at hu;refine iteT ?_;obtain⟨kv,hkv,hN⟩:=hO;obtain⟨hf,hfl⟩:=hc rfl;obtain⟨ao,ga,hao⟩:=hN _ hf;have eu:yT ow (.app "call" f0 xs)=ltN xs (ow f0):=by unfold yT;exact if_pos rfl
   have zl:(xs.zip (ow f0)).length=xs.length:=by rw[Ue,hfl,tJ]
   refine(zg rfl (ixT hp aI2 (zg rfl (zg rfl (ixT hp aI1 ⟨od,.ref ao,rfl,(show DGet H od (kV (.inr f0)) (some (.ref ao))from ga ▸ DGet.k hkv),qx,ao,false,false,_,_,rfl,SqK.t hq,SqK.t hao,xP (xs:=xs.map V.str) (ys:=(ow f0).map V.bl) (by rw[ua,ua];exact hfl.symm) (fun j τ zs H'=>Same H H'/\(∃u v,τ=[sR p,sR od,u,v])/\zs=(((xs.zip (ow f0)).take j).filter fun p=>!p.2).map fun p=>V.str p.1) ⟨Same.refl _,⟨none,none,rfl⟩,rfl⟩ (fun j τ zs H' _ h=>⟨SqK.t (h.1 _ _ hq),SqK.t (h.1 _ _ hao)⟩) ?_ ?_⟩)))))
   ·rintro i v1 v2 T τ zs H3 hv1 hv2 hT ⟨s3,⟨u,v,rfl⟩,rfl⟩
    rw[ug]at hv1 hv2;obtain⟨y,hy,rfl⟩:=ue.mp hv1;obtain⟨e,he,rfl⟩:=ue.mp hv2;rw[wZ (Uc (z:=(y,e)).mpr ⟨hy,he⟩)];refine⟨T,(zg rfl ⟨SqT.of uX9,rfl,_,_,rfl,_,_,rfl,rfl,(zg rfl (zg rfl ?_))⟩)⟩;have hfl:((((xs.zip (ow f0)).take i).filter fun p=>!p.2).map fun p=>V.str p.1).length < sizeLine:=by
     rw[ua];refine uQ (um _ _) ?_;rw[uq];lia
    cases e
    ·exact iteT (zg rfl ⟨hfl,s3.new hT,⟨_,_,rfl⟩,rfl⟩)
    ·exact iteF ⟨s3.new hT,⟨_,_,rfl⟩,(u6 _).symm⟩
   rintro τ zs H3 ⟨s3,_,rfl⟩ l hl;rw[ua,ur (by lia)];refine q _ l (s3.new hl) (s3.free hl) ?_;rw[uX9,eu];unfold ltN;rw[UB]
   rfl
  ·rw[decide_eq_false (fun z=>e2 (V.str.inj z))]
   refine iteF ⟨sN0,fun l hl=>?_⟩;refine q _ l (zo hl _) hl ?_;rw[uX9]
   have:yT ow (.app w0 f0 xs)=[]:=if_neg e2
   rw[this]
   rfl
inductive spPLeft(vs:List V)(H:Hp)(Q:VK)(e_3:XK):Prop
 |mk (p:Addr) (a:Addr) (od:Addr) (w0:Str) (x:Str) (rest:List V) (l:lS):(∃g:lS,vs=[.ref p,.ref a,.ref od]/\H p=some (.tup (.str w0::.str x::rest))/\(w0≠"let"->g=[x])/\(w0="let"->∃(q:Addr)(d:De)(r2:List V)(ow:Str->List Bool)(N:lS),rest=.ref q::r2/\IsHd H d q/\WdOk d/\OwA H od ow N/\CaD N ow d/\d.uses.length<=100/\g=ups ow d)/\H a=some (.lst (l.map V.str))/\l.length<=3000000/\∀H' r,Same H H'->H r=none->H' r=some (.lst ((rst l g).map V.str))->Q (.ref r) H')->spPLeft vs H Q e_3
def nuH:Hc->Str->Bool
 |.lt _ _ b,y=>decide (y∉b.us)
 |_,_=>true
inductive spGoes(n:Nat)(vs:List V)(H:Hp)(Q:VK)(e_3:XK):Prop
 |mk (c:Hc) (v:V) (a:Addr) (e:Addr) (y:Str) (l:lS) (le:lS) (ow:Str->List Bool):(∃N:lS,vs=[v,.ref a,.ref e,.str y]/\IsHc H c v/\c.Ok N ow/\((∃x,c=.give x)\/∃x d b,c=.lt x d b)/\c.dp<=n+1/\c.uz<=4000000/\H a=some (.lst (l.map V.str))/\H e=some (.lst (le.map V.str))/\∀H',Same H H'->Q (.bl (decide (y∈l) && (decide (y∉le) && nuH c y))) H')->spGoes n vs H Q e_3
theorem scPLeft:FnScope ["_law_body_here","_law_mine","_law_owns_here","_law_gone"] lS17 (zp Zt):=.ok
theorem za7:(["_law_body_here","_law_mine","_law_owns_here","_law_gone","_law_name_here"]:lS).Nodup:=by decide +kernel
theorem Qq(F:Fun K "_law_after" "_law_after" Zt f fd)(GU:Ca P w K mg base CX0 1 "_law_ups" lS2 spLUps):FnOk P w K mg base CX0 2 f fd lS17 spPLeft:=by
 refine F.by scPLeft (fun vs H Q E h=>?_) (fun cdv A outer s H vs Q E hr h=>?_)
 ·obtain⟨p,a,od,w0,x,rest,l,g,rfl,_⟩:=h
  rfl
 obtain⟨p,a,od,w0,x,rest,l,g,rfl,hp,hn,hy,ha,hl,q⟩:=h;refine⟨_,
  (zh (sE 3 scPLeft.nd (zD (jA1 (zn K (jv 0)))))
  (zh (zE (tN zI (zn K (jv 0)) zw)
   (zk (sE 3 scPLeft.nd (cA GU hr (jA2 (zn K (jv 0)) (jv 2)))))  zx)
  (zk (zv (yf ["_law_name_here"] rfl (zR K (jv 1)) (fun _ _ _ _ _=>(gN 4 za7)) (fun _ _ _ _ _=>(z5 (xV K (jv 4) (jv 3)))) (fun _ _ _ _ _=>(jv 4))))))),?_⟩
 have sl:=zO;refine cut2 fun r1_ hr1_=>?_;have fin:∀(H5:Hp)(b:Addr),Same H H5->H5 b=some (.lst (g.map V.str))->r1_ { nx:=fun x H'=>Q V.non H',rt:=Q } [sR p,sR a,sR od,sR b] H5:=by
  intro H5 b s5 hb;subst hr1_;have ha5:=s5 _ _ ha;refine(zg rfl ⟨a,rfl,⟨_,SqL.of ha5⟩,ym (xs:=l.map V.str) (fun j τ zs H'=>H5=H'/\(∃z,τ=[sR p,sR a,sR od,sR b,z])/\zs=((l.take j).filter fun y=>decide (y∉g)).map V.str) ⟨rfl,⟨none,rfl⟩,rfl⟩ (fun j τ zs H' _ h=>SqL.of (h.1 ▸ ha5)) ?_ ?_⟩)
  ·rintro j v τ zs H3 hv ⟨rfl,⟨z,rfl⟩,rfl⟩
   obtain⟨y,hy,rfl⟩:=L2.gM hv;rw[y0 hy];have hfl:(((l.take j).filter fun y=>decide (y∉g)).map V.str).length < sizeLine:=by
    rw[ua];refine uQ (um _ _) ?_;rw[uq];lia
   refine(zq rfl rfl ⟨b,(zg rfl ⟨.inl (SqL.of hb),rfl,xD g,(zg rfl ?_)⟩)⟩);rw[if_pos rfl,inVs];by_cases c:y∈g
   ·rw[decide_eq_true c]
    exact iteF ⟨rfl,⟨_,rfl⟩,by simp[c]⟩
   ·rw[decide_eq_false c]
    exact iteT (zg rfl ⟨hfl,rfl,⟨_,rfl⟩,by simp[c]⟩)
  ·rintro τ zs H3 ⟨rfl,_,rfl⟩ l3 h3
   rw[ua,Uj];exact q _ l3 (s5.new h3) (s5.free h3) uX9
 refine(zg rfl (ixT hp aI1 ⟨sN1,fun l1 h1=>?_⟩));have s1:=zo (o:=.lst [.str x]) h1;refine(zg rfl (ixT (s1 _ _ hp) aI0 ⟨rfl,(zg rfl ?_)⟩));by_cases e:w0="let"
 ·rw[decide_eq_true (congrArg V.str e)]
  obtain⟨qd,d,r2,ow,N,rfl,hD,hw,hO,hc,hu,rfl⟩:=hy e;refine iteT (zg rfl (ixT (s1 _ _ hp) aI2 (zg rfl ⟨qd,od,d,ow,N,rfl,hD.keep (.of s1),hw,hO.keep fun b u h _ _ _=>s1 b u h,hc,hu,fun H2 l2 s2 f2 h2=>?_⟩)));exact fin H2 l2 (s1.trans s2) h2
 ·rw[decide_eq_false fun z=>e (V.str.inj z)]
  refine iteF (nxtC (fin _ l1 s1 ?_));rw[uX9,hn e]
  rfl
theorem zdy:FnScope lS4 lS4 (zp XE):=.ok
theorem za8(F:Fun K "_law_goes" "_law_goes" XE f fd)(GS:Ca P w K mg base CX0 (1+n) "_law_uses" ["_law_body_here"] (spUses n)):FnOk P w K mg base CX0 (1+n+1) f fd lS4 (spGoes n):=by
 refine F.by zdy (fun vs H Q E h=>?_) (fun cdv A outer s H vs Q E hr h=>?_)
 ·obtain⟨c,v,a,e,y,l,le,ow,N,rfl,_⟩:=h
  rfl
 obtain⟨c,v,a,e,y,l,le,ow,N,rfl,hI,hok,hc,hd,hz,ha,he,q⟩:=h;refine⟨_,
  (zh (zE (jW.pt (wu (xV K (jv 3) (jv 1)) (xM (Zn K (jv 3) (jv 2))))) (zk (zv xk)) zx)
  (zk (zv (zbt (yO zI (zn K (jv 0)) zw (xI _)) (vJ (yO (jL K) (jv 3) (cA GS hr (jA1 (zn K (jv 0)))) (by with_unfolding_all rfl))))))),?_⟩
 have sl:=zO;refine(zq rfl rfl ⟨a,(zg rfl ⟨.inl (SqL.of ha),rfl,xD l,(zg rfl ?_)⟩)⟩);rw[if_pos rfl,inVs];by_cases c1:y∈l
 ·rw[decide_eq_true c1]at q ⊢
  refine iteF (zq rfl rfl ⟨e,(zg rfl ⟨.inl (SqL.of he),rfl,xD le,(zg rfl ?_)⟩)⟩);rw[if_neg (show ¬ (false=true) by decide),inVs];by_cases c2:y∈le
  ·rw[decide_eq_true c2]
   rw[decide_eq_false (fun z=>z c2)]at q;exact iteT (q _ (Same.refl _))
  ·rw[decide_eq_false c2]
   rw[decide_eq_true c2]at q;refine iteF (nxtC ?_);rcases hc with⟨x,rfl⟩|⟨x,d,b,rfl⟩
   ·obtain⟨p,rfl,hp⟩:=hI
    exact(zg rfl (ixT hp aI0 ⟨rfl,(zg rfl (iteT (q _ (Same.refl _))))⟩))
   ·obtain⟨p,qd,u,rfl,hp,hD,hb⟩:=hI
    rw[Hc.dp]at hd;rw[Hc.uz]at hz;refine(zg rfl (ixT hp aI0 ⟨rfl,(zg rfl (iteF (zq rfl rfl (ixT hp aI3 ⟨b,u,N,ow,rfl,hb,hok.2,by lia,by lia,fun H2 l2 s2 f2 h2=>⟨l2,(zg rfl ⟨.inl (SqL.of h2),rfl,xD _,?_⟩)⟩⟩))))⟩));rw[if_pos rfl,inVs]
    have:=q _ s2
    unfold nuH at this;rw[Bool.true_and,Bool.true_and]at this;rw[<- decide_not];exact this
 ·rw[decide_eq_false c1]at q ⊢
  exact iteT (iteT (q _ (Same.refl _)))
end
end GN
namespace L2
open PySem PySem.Spec PyProof.Rows
def Sme:Nat->Hp->V->V->Prop
 |0,_,_,_=>False
 |n+1,H,x,y=>(xJ x=true/\x=y)\/∃a b xs ys,x=.ref a/\y=.ref b/\((H a=some (.lst xs)/\H b=some (.lst ys))\/(H a=some (.tup xs)/\H b=some (.tup ys)))/\xs.length=ys.length/\∀(i:Nat) u v,xs[i]?=some u->ys[i]?=some v->Sme n H u v
theorem j6{ys:List V}{us:List Value}(r:Vals xs us)(r':Vals ys vs)(go:∀{x y:V}{u v:Value},Sme n H x y->RelV x u->RelV y v->SeqAt.EqAt A s u v true)
  (h:∀(i:Nat) u v,xs[i]?=some u->ys[i]?=some v->Sme n H u v) (j:Nat) (h1:j < us.toArray.size) (h2:j < vs.toArray.size):SeqAt.EqAt A s us.toArray[j] vs.toArray[j] true:=by
 have l1:=r.length;have l2:=r'.length;simp at h1 h2
 have hx:xs[j]?=some (xs[j]'(by lia)):=uh _;have hy:ys[j]?=some (ys[j]'(by lia)):=uh _;obtain⟨u,e1,rx⟩:=r.get hx;obtain⟨v,e2,ry⟩:=r'.get hy;have g1:us.toArray[j]=u:=by
  have:=ud.mp e1
  simpa using this.2
 have g2:vs.toArray[j]=v:=by
  have:=ud.mp e2
  simpa using this.2
 rw[g1,g2];exact go (h j _ _ hx hy) rx ry
theorem zdz{ys:List V}(hu:A.units < cLine)(I:Inv X pins σ H s)(hl:xs.length=ys.length)(hab:(H a=some (.lst xs)/\H b=some (.lst ys))\/(H a=some (.tup xs)/\H b=some (.tup ys)))
  (go:∀{x y:V}{u v:Value},Sme n H x y->RelV x u->RelV y v->SeqAt.EqAt A.in1 s u v true) (h:∀(i:Nat) u v,xs[i]?=some u->ys[i]?=some v->Sme n H u v):SeqAt.RcAt A s (.ref a) (.ref b) true:=by
 rcases hab with⟨h1,h2⟩|⟨h1,h2⟩
 ·obtain⟨i1,v1,m1,_⟩:=I.list (SqL.of h1)
  obtain⟨i2,v2,m2,_⟩:=I.list (SqL.of h2);have n1:=v1.length;have n2:=v2.length;have main:=SeqAt.RcAt.lists (A:=A) (s:=s) (e:=fun _=>true) m1.isList m2.isList (by simp;lia) hu (fun j x y=>j6 v1 v2 go h j x y);rw[show((uK i1.toArray.size).all fun _=>true)=true from Ui.mpr fun _ _=>rfl]at main;exact main
 ·obtain⟨i1,v1,m1,_⟩:=I.tuple (SqT.of h1)
  obtain⟨i2,v2,m2,_⟩:=I.tuple (SqT.of h2);have n1:=v1.length;have n2:=v2.length;have main:=SeqAt.RcAt.tuples (A:=A) (s:=s) (e:=fun _=>true) m1 m2 hu (fun j x y=>j6 v1 v2 go h j x y);have eb:((uK (min i1.toArray.size i2.toArray.size)).all (fun _=>true) && i1.toArray.size == i2.toArray.size)=true:=by
   rw[show(uK (min i1.toArray.size i2.toArray.size)).all (fun _=>true)=true from Ui.mpr fun _ _=>rfl];simp
   lia
  rw[eb]at main;exact main
theorem Qr(I:Inv X pins σ H s):∀(n:Nat){A:Around}(hu:A.units+n < cLine){x y:V}{u v:Value},Sme n H x y->RelV x u->RelV y v->SeqAt.EqAt A s u v true
 |0,_,_,_,_,_,_,h,_,_=>h.elim
 |n+1,A,hu,x,y,u,v,h,rx,ry=>by
  rcases h with⟨f,rfl⟩|⟨a,b,xs,ys,rfl,rfl,hab,hl,h⟩
  ·have k:=VH (A:=A) (s:=s) rx ry f f
   rw[V5 f]at k;exact k
  ·cases rx
   cases ry;by_cases c:a=b
   ·subst c
    exact .same _
   ·exact .of_refs c (zdz (by lia) I hl hab (fun{x y u v}=>Qr I n (A:=A.in1) (by show A.units+1+n < cLine;lia)) h)
theorem Inv.freeze(I:Inv X pins σ H s)(e:H d=some (.dK kvs)):∃ob,s.heap.get? d=some ob/\Inv X pins σ (upd H d (.frz ob (.dK kvs))) s:=by
 have ok:=I.hok d _ e;obtain⟨_,_,vs,r,ob,es,ep,g,c⟩:=id (show ObjOk X.prog X.w H s.heap d (.dK kvs)from ok);refine⟨ob,g,?_⟩;have tu:∀b xs,H b=some (.tup xs)->upd H d (.frz ob (.dK kvs)) b=some (.tup xs):=fun b xs q=>by rw[zj (yv q e (by intro z;cases z))];exact q
 have ow:∀b a,H b=some (.own a)->upd H d (.frz ob (.dK kvs)) b=some (.own a):=fun b a q=>by rw[zj (yv q e (by intro z;cases z))];exact q
 refine I.step (h':=s.heap) (g':=s.gens) (d':=s.drawn) (t':=s.toks) (ch:=[]) (fun _ z=>nomatch z) (fun b o _ _ _ q _=>q) (fun b o _ _ _ q _=>⟨o.slots,q⟩) (fun b o _ _ n=>by rw[zj (Ne.symm (zi e n))];exact n) (fun b o _ q=>⟨o,q⟩) tu (fun b o u q=>by rw[zj (yv q e (by intro z;cases z))];exact q) (fun b ps q=>⟨#[],by rw[zj (yv q e (by intro z;cases z)),Array.append_empty];exact q⟩) (fun m n=>n) (fun b o q=>?_) I.bare;by_cases c:b=d
 ·subst c
  rw[uX9]at q;cases q;exact⟨g,ok.stay (fun _ _ _ q=>q) (fun b q=>ow b _ q) tu⟩
 ·rw[zj c]at q
  exact(I.hok b o q).stay (fun _ _ _ q=>q) (fun b' q=>ow b' _ q) tu
def Itd(d:Addr)(ob:Obj)(kvs:List (Key×V)):It :=
 ⟨fun i H=>i < kvs.length/\H d=some (.frz ob (.dK kvs)),fun i H x H'=>H'=H/\∃kv,kvs[i]?=some kv/\x=kV kv.1,fun i H=>kvs.length<=i/\H d=some (.frz ob (.dK kvs))⟩
theorem j7(it:Addr){es:Array DictEntry}{ep:Nat}(hob:ob.data=.dict es ep):Turn P w K tg (Itd d ob kvs) [it] it (fun i h=>h.IsKeyIter it d i kvs.length ep) where
 mem:=by simp
 obj:=fun i h st b hb=>by
  have e:b=it:=by simpa using hb
  subst e;obtain⟨o,e,c,d⟩:=st;exact⟨o,e,fun v z=>by rw[d]at z;cases z⟩
 keep:=fun i h h' st k=>st.at fun o e=>k it (by simp) o e
 item:=by
  intro X hP hw hK hc i pins s σ H E I hf st hg;subst hP hw hK;obtain⟨hi,hd⟩:=hg;obtain⟨g,_,_,vs,r,ob',es',ep',g',c1,c2,c3⟩:=(show ObjOk X.prog X.w H s.heap d (.frz ob (.dK kvs))from I.hok d _ hd);have eo:ob'=ob:=by rw[g]at g';injection g' with g';exact g'.symm
  subst eo;rw[hob]at c2;injection c2 with c2 c2'
  subst c2 c2';have dat:s.heap.DictAt (zU X.prog X.w) d vs ep:=⟨ob',es,g,c1,hob,c3⟩;have hl:=r.length;obtain⟨⟨k,u⟩,hu⟩:∃p,vs[i]?=some p:=⟨vs[i]'(by lia),by rw[uh]⟩;obtain⟨x,hx,_⟩:=r.get hu;obtain⟨f0,f1,f2,f3,f4,f5⟩:=hf it (by simp);have st':s.heap.IsKeyIter it d i vs.length ep:=by rw[<- hl];exact st
  refine wpAny_pyNext_dict_item st' dat hu fun key h' hkey hit' hs'=>?_;have I1:Inv X pins σ H { s with heap:=h' }:=I.turned (t':=s.toks) (fun b o hb e=>hs'.extBut b o hb e) f0 f1 f3 f4 f5;obtain⟨o,e,c,dd⟩:=id hit';refine⟨key,rfl,Yb (s:={ s with heap:=h' }) e c dd (by decide) ⟨kV k,H,I1,?_,⟨rfl,_,hx,rfl⟩,by rw[hl];exact hit',fun b hb=>(hf b hb).1⟩⟩;exact zbE hkey
 done:=by
  intro X hP hw hK hc i pins s σ H E I hf st hg;subst hP hw hK;obtain⟨hi,hd⟩:=hg;obtain⟨g,_,_,vs,r,ob',es',ep',g',c1,c2,c3⟩:=(show ObjOk X.prog X.w H s.heap d (.frz ob (.dK kvs))from I.hok d _ hd);have eo:ob'=ob:=by rw[g]at g';injection g' with g';exact g'.symm
  subst eo;rw[hob]at c2;injection c2 with c2 c2'
  subst c2 c2';have dat:s.heap.DictAt (zU X.prog X.w) d vs ep:=⟨ob',es,g,c1,hob,c3⟩;have hl:=r.length;obtain⟨f0,f1,f2,f3,f4,f5⟩:=hf it (by simp);have st':s.heap.IsKeyIter it d i vs.length ep:=by rw[<- hl];exact st
  exact wpAny_pyNext_dict_end (I.ok.hd hc) st' dat (U8 (by lia)) fun h' eb=>⟨rfl,I.turned (t':=s.toks) (fun b o hb e=>eb b o hb e) f0 f1 f3 f4 f5⟩
 self:=fun _ _ _ _ _ st h=>wpAny_pyIter_keyiter st h
def zbV(tl:TE):TI:=fun σ H R=>tl σ H fun x H1=>∃a kvs,x=.ref a/\H1 a=some (.dK kvs)/\∀ob,R (Itd a ob kvs) (upd H1 a (.frz ob (.dK kvs)))
theorem za9{l:Expr}(hl:PE X l tl):PI X tg l (zbV tl):=by
 intro pins s σ H R I h;refine thn (hl pins s σ H _ I h) fun v s1 hq_=>?_;obtain⟨x,H1,I1,r1,q1⟩:=hq_;obtain⟨a,kvs,e,hq,q⟩:=q1;subst e;cases r1;obtain⟨_,hs,vs,r,ob',es,ep,g',c1,c2,c3⟩:=(show ObjOk X.prog X.w H1 s1.heap a (.dK kvs)from I1.hok a _ hq);obtain⟨ob,g,I2⟩:=I1.freeze hq;have eo:ob'=ob:=by rw[g]at g';injection g' with g';exact g'.symm
 subst eo;have dat:s1.heap.DictAt (zU X.prog X.w) a vs ep:=⟨ob',es,g,c1,c2,c3⟩;have hl:=r.length;refine wpAny_pyIter_dict hs dat ?_;refine⟨s1.heap.objs.size,[s1.heap.objs.size],_,_,_,rfl,I2.kept (t':=s1.toks) fun b o e=>uc _ e,j7 _ c2,?_,fun b hb=>?_,q ob'⟩
 ·rw[hl]
  exact⟨_,uv _ rfl,rfl,rfl⟩
 have e:b=s1.heap.objs.size:=by simpa using hb
 subst e;exact I2.fpOk (uj _) (I2.hok.fresh (uj _))
theorem zba{l:Expr}(hl:jE X l tl):jI X tg l (zbV tl):=⟨za9 hl.out⟩
section
variable{Q:VK}
theorem zbb(Pv:Nat->St->List V->Hp->Prop)(h0:Pv 0 σ [] H)(hl:∀i τ ys H,i<=kvs.length->Pv i τ ys H->H d=some (.frz ob (.dK kvs)))
  (hs:∀i kv τ ys H,kvs[i]?=some kv->Pv i τ ys H->g (kV kv.1) τ H fun τ2 H2=>tt τ2 H2 fun b H3=>if b=true then te τ2 H3 fun y H4=>ys.length < sizeLine/\Pv (i+1) τ2 (ys++[y]) H4 else Pv (i+1) τ2 ys H3)
  (hd:∀τ ys H,Pv kvs.length τ ys H->∀p,H p=none->Q (.ref p) (upd H p (.lst ys))):∃W,(∃m,W 0 m σ [] H)/\lcBy (Itd d ob kvs) g tt te Q W:=by
 refine⟨fun i m τ ys H=>m=kvs.length-i/\i<=kvs.length/\Pv i τ ys H,⟨kvs.length,by simp,uM _,h0⟩,?_⟩;rintro i m τ ys H ⟨rfl,hi,p⟩;have q:=hl i τ ys H hi p;by_cases hlt:i < kvs.length
 ·refine .inr ⟨⟨hlt,q⟩,Pv (i+1),fun τ' ys' H' p'=>⟨kvs.length-(i+1),by lia,rfl,hlt,p'⟩,fun x H' y=>?_⟩
  obtain⟨e,kv,y,rfl⟩:=y;subst e;exact hs i kv τ ys _ y p
 ·have e:i=kvs.length:=by lia
  subst e;exact .inl ⟨⟨uj _,q⟩,hd τ ys H p⟩
end
def XT(k:Str):Value->Bool
 |.str a _=>a == k
 |_=>false
def Ww:V->List V->Hp->VK->Prop:=fun x vs H Q=>∃(l:Addr)(xs:lS)(z:Str),x=.ref l/\vs=[.str z]/\H l=some (.lst (xs.map V.str))/\Q (.int ((xs.count z:Nat):Int)) H
theorem Vn:MtM X "list.count" Ww:=by
 intro pins s σ H x vs v us Q I rx rv h;obtain⟨l,xs,z,rfl,rfl,hH,q⟩:=h;cases rx;obtain⟨u,rfl,ru⟩:=rv.one;obtain⟨t0,rfl⟩:=ru;obtain⟨its,n,r,e,hz⟩:=I.lst hH;have go:∀{ys:lS}{ws:List Value},Vals (ys.map V.str) ws->(∀y∈ws,∃a t,y=Value.str a t)/\ws.countP (XT z)=ys.count z:=fun{ys}=>by
  induction ys with
  |nil =>
   intro ws r;cases r;exact⟨fun y hy=>(Up hy).elim,rfl⟩
  |cons y ys ih =>
   intro ws r;cases r with
   |cons h t =>
    obtain⟨h1,h2⟩:=ih t;obtain⟨t1,rfl⟩:=h;refine⟨fun w hw=>?_,?_⟩
    ·rcases uk.mp hw with rfl|hw
     ·exact⟨_,_,rfl⟩
     ·exact h1 w hw
    ·rw[List.countP_cons,List.count_cons,h2]
     rfl
 obtain⟨g1,cnt⟩:=go r;refine call_meets U3 ⟨_,e,rfl⟩ PySem.F.entry_list_count (PySem.F.args_list_count_2 _ _) (SeqAt.list_countAt l its.toArray n none _ (.str z t0) (XT z)) ⟨e,fun y hy=>?_,?_⟩
 ·obtain⟨a,t,rfl⟩:=g1 y (by simpa using hy)
  exact SeqAt.EqAt.str_str a t z t0
 ·refine⟨.int _,H,I.tok _,⟨_,rfl⟩,?_⟩
  rw[show(its.toArray.toList.countP (XT z))=xs.count z from cnt];exact q
theorem w4:jMt X "list.count" Ww:=⟨Vn⟩
theorem Qs{tb:TS}(Pv:Nat->St->Hp->Prop)(h0:Pv 0 σ H)(hl:∀i σ H,i<=kvs.length->Pv i σ H->H d=some (.frz ob (.dK kvs)))
  (hs:∀i kv σ H,kvs[i]?=some kv->Pv i σ H->g (kV kv.1) σ H fun σ2 H2=>tb { D with nx:=Pv (i+1),ct:=Pv (i+1),bk:=D.nx } σ2 H2) (hd:∀σ H,Pv kvs.length σ H->D.nx σ H) :
  ∃W:Nat->Nat->St->Hp->Prop,(∃m,W 0 m σ H)/\∀i m σ H,W i m σ H ->
   ((Itd d ob kvs).stop i H/\D.nx σ H)\/((Itd d ob kvs).go i H/\∃N:St->Hp->Prop,(∀σ' H',N σ' H'->∃m',m' < m/\W (i+1) m' σ' H')/\∀x H',(Itd d ob kvs).yld i H x H'->g x σ H' fun σ2 H2=>tb { D with nx:=N,ct:=N,bk:=D.nx } σ2 H2):=by
 refine⟨fun i m σ H=>m=kvs.length-i/\i<=kvs.length/\Pv i σ H,⟨kvs.length,by simp,uM _,h0⟩,?_⟩;rintro i m σ H ⟨rfl,hi,p⟩;have q:=hl i σ H hi p;by_cases hlt:i < kvs.length
 ·refine .inr ⟨⟨hlt,q⟩,Pv (i+1),fun σ' H' p'=>⟨kvs.length-(i+1),by lia,rfl,hlt,p'⟩,fun x H' y=>?_⟩
  obtain⟨e,kv,y,rfl⟩:=y;subst e;exact hs i kv σ _ y p
 ·have e:i=kvs.length:=by lia
  subst e;exact .inl ⟨⟨uj _,q⟩,hd σ H p⟩
def Qt(tl:TE):TI:=fun σ H R=>tl σ H fun x H1=>∃a kvs ob,x=.ref a/\H1 a=some (.frz ob (.dK kvs))/\R (Itd a ob kvs) H1
theorem Qu{l:Expr}(hl:PE X l tl):PI X tg l (Qt tl):=by
 intro pins s σ H R I h;refine thn (hl pins s σ H _ I h) fun v s1 hq_=>?_;obtain⟨x,H1,I1,r1,q1⟩:=hq_;obtain⟨a,kvs,ob,e,hq,q⟩:=q1;subst e;cases r1;obtain⟨g,_,hs,vs,r,ob',es,ep,g',c1,c2,c3⟩:=(show ObjOk X.prog X.w H1 s1.heap a (.frz ob (.dK kvs))from I1.hok a _ hq);have eo:ob'=ob:=by rw[g]at g';injection g' with g';exact g'.symm
 subst eo;have dat:s1.heap.DictAt (zU X.prog X.w) a vs ep:=⟨ob',es,g,c1,c2,c3⟩;have hl:=r.length;refine wpAny_pyIter_dict hs dat ?_;refine⟨s1.heap.objs.size,[s1.heap.objs.size],_,_,_,rfl,I1.kept (t':=s1.toks) fun b o e=>uc _ e,j7 _ c2,?_,fun b hb=>?_,q⟩
 ·rw[hl]
  exact⟨_,uv _ rfl,rfl,rfl⟩
 have e:b=s1.heap.objs.size:=by simpa using hb
 subst e;exact I1.fpOk (uj _) (I1.hok.fresh (uj _))
theorem Qv{l:Expr}(hl:jE X l tl):jI X tg l (Qt tl):=⟨Qu hl.out⟩
end L2
namespace GN
open PySem L2 K11
def stE(ps:List (Str×Str)):List (Key×V):=ps.map fun p=>(.inr p.1,.str p.2)
theorem wS:∀(ps:List (Str×Str))(y:Str),valV (stE ps) (.inr y)=(ps.find? fun p=>decide (p.1=y)).map fun p=>V.str p.2
 |[],y=>rfl
 |p::ps,y=>by
  show valV ((Sum.inr p.1,V.str p.2)::stE ps) _=_;rw[UZ];by_cases e:p.1=y
  ·rw[yo (by rw[e]),decide_eq_true e]
   rfl
  ·rw[yp (fun z=>e (Sum.inr.inj z)),decide_eq_false e,wS ps y]
theorem Wx(ps:List (Str×Str))(y:Str):(valV (stE ps) (.inr y)).getD (.str y)=.str (rot ps y):=by
 rw[wS];unfold rot;cases ps.find? fun p=>decide (p.1=y)<;>rfl
def smH(ow:Str->List Bool):Hc->lS
 |.lt _ d _=>ups ow d
 |.give x=>[x]
 |_=>[]
def leH(ow:Str->List Bool):Hc->lS
 |.lt _ d _=>yT ow d
 |_=>[]
def goH(ow:Str->List Bool)(c:Hc)(l:lS)(y:Str):Bool:=decide (y∈l) && (decide (y∉leH ow c) && nuH c y)
theorem zdA{d:De}:(ups ow d).length<=d.uses.length:=by
 cases d with
 |num i=>exact uM _
 |op w a b=>exact uM _
 |app w f xs =>
  by_cases e:w="ask"
  ·rw[show ups ow (.app w f xs)=f::xs from if_pos e]
   subst e;rw[zX];exact uj _
  ·rw[zV e]
   by_cases e2:w="call"
   ·rw[show ups ow (.app w f xs)=upN xs (ow f)from(if_neg e).trans (if_pos e2)]
    exact ZT _ _
   ·rw[show ups ow (.app w f xs)=xs from(if_neg e).trans (if_neg e2)]
    exact uj _
def But(sd:Addr)(H H':Hp):Prop:=∀b u,b≠sd->H b=some u->H' b=some u
inductive spFew(n:Nat)(vs:List V)(H:Hp)(Q:VK)(e_3:XK):Prop
 |mk (c:Hc) (v:V) (a:Addr) (od:Addr) (sd:Addr) (l:lS) (ps:List (Str×Str)) (ow:Str->List Bool):(∃N:lS,vs=[v,.ref a,.ref od,.ref sd]/\IsHc H c v/\c.Ok N ow/\((∃x,c=.give x)\/∃x d b,c=.lt x d b)/\c.dp<=n+1/\c.uz<=4000000/\H a=some (.lst (l.map V.str))/\OwA H od ow N/\H sd=some (.dK (stE ps))/\few ps (smH ow c) ((smH ow c).map (rot ps)) (goH ow c l)=true/\ps.length<=1000000/\(ps.map (·.1)).Nodup/\∀H',But sd H H'->Q (.bl true) H')->spFew n vs H Q e_3
theorem Qw{ps:List (Str×Str)}(nd:(ps.map (·.1)).Nodup){p:Str×Str}(h:p∈ps):valV (stE ps) (.inr p.1)=some (.str p.2):=by
 rw[wS];cases e:ps.find? fun q=>decide (q.1=p.1)with
 |none =>
  have:=UX.mp e p h
  simp at this
 |some q =>
  have h1:=List.find?_some e;have h2:=tK e;rw[decide_eq_true_eq]at h1
  have:q=p:=ZQ (g:=(·.1)) nd h2 h h1
  rw[this]
  rfl
theorem scFew:FnScope ["_law_body_here","_law_mine","_law_owns_here","_law_stands","_law_some","_law_lends_here","_law_new","_law_own","_law_name_here","_law_many","_law_due"] lS6 (zp Ju):=.ok
theorem zdB(F:Fun K "_law_few" "_law_few" Ju f fd)(GG:Ca P w K mg base CX0 (1+n+1) "_law_goes" lS4 (spGoes n))(GU:Ca P w K mg base CX0 1 "_law_ups" lS2 spLUps)(GE:Ca P w K mg base CX0 1 "_law_lends" lS2 spLLends)(m_len:mg "len"=none):FnOk P w K mg base CX0 (1+n+1+1) f fd lS6 (spFew n):=by
 refine F.by scFew (fun vs H Q E h=>?_) (fun cdv A outer s H vs Q E hr h=>?_)
 ·obtain⟨c,v,a,od,sd,l,ps,ow,N,rfl,_⟩:=h
  rfl
 obtain⟨c,v,a,od,sd,l,ps,ow,N,rfl,hI,hok,hc,hd,hz,ha,hO,hs,hf,hpl,hnd,q⟩:=h;have hrG:Room (1+n+1) _:=hr;have hr1:Room 1 _:=hrG.mono (by lia);refine⟨_,
  (zh (sE 4 scFew.nd (zD (jA1 (zn K (jv 0)))))
  (zh (sE 5 scFew.nd (zD zL))
  (zh (zE (tN zI (zn K (jv 0)) zw)
   (zh (sE 4 scFew.nd (cA GU hr1 (jA2 (zn K (jv 0)) (jv 2))))
   (zk (sE 5 scFew.nd (cA GE hr1 (jA2 (zn K (jv 0)) (jv 2)))))) zx)
  (zh (yt PassesOwn.never rfl (zba (jv 3)) (gN 6 scFew.nd)
   (zk (zE (tN vd (yP uF U3 tU w4 (jv 4) (jA1 (jv 6))) zt) (zk (zv xk)) zx)))
  (zh (Yh [8] [] (i:=7) scFew.nd rfl (Or.inl rfl) rfl (zR K (jv 4)) (fun _ _ _ _ _=>(gN 8 scFew.nd)) (fun _ _ _ _ _=>yn) (fun _ _ _ _ _=>(v5 hr1 (jv 3) (jv 8) (jv 8))))
  (zh (yt PassesOwn.never rfl (zR K (jv 7)) (gN 8 scFew.nd)
   (zh (sE 9 scFew.nd (yu (zF K) rfl m_len Ud (jA1 (Yg [6] [] rfl (Qv (jv 3)) (fun _ _ _ _ _=>(gN 6 scFew.nd)) (fun _ _ _ _ _=>(z5 (tN zI (yZ hr1 (jv 3) (jv 6)) (jv 8)))) (fun _ _ _ _ _=>(jv 6))))))
   (zh (sE 10 scFew.nd (yP uF U3 tU w4 (jv 7) (jA1 (jv 8))))
   (zh (zE (yr (cA GG hrG (jA4 (jv 0) (jv 1) (jv 5) (jv 8))))
    (zh (sE 10 scFew.nd (zA xo (jv 10) zt))
    (zk (zE (tN vd (yP uF U3 tU w4 (jv 4) (jA1 (jv 8))) zt) (zk (zv xk)) zx))) zx)
   (zk (zE (tN vd (jv 9) (jv 10)) (zk (zv xk)) zx))))))
  (zk (zv xk)))))))),?_⟩
 have sl:=zO;have sml:(smH ow c).length<=100:=by
  rcases hc with⟨x,rfl⟩|⟨x,d,b,rfl⟩
  ·exact(by decide:1<=100)
  ·exact uI zdA hok.1.2.2
 refine cut3 fun r1_ hr1_=>?_;have fin:∀(H5:Hp)(ls le:Addr),Same H H5->H5 ls=some (.lst ((smH ow c).map V.str))->H5 le=some (.lst ((leH ow c).map V.str))->r1_ { nx:=fun x H'=>Q V.non H',rt:=Q } [some v,sR a,sR od,sR sd,sR ls,sR le,none,none,none,none,none] H5:=by
  intro H5 ls le s5 hls hle;subst hr1_;have hs5:=s5 _ _ hs;unfold few at hf;rw[uJ,Ui,Ui]at hf;obtain⟨f1,f2⟩:=hf;generalize smH ow c=sm at *;have nls:ls≠sd:=fun e=>by rw[e,hs5]at hls;cases hls
  have nle:le≠sd:=fun e=>by rw[e,hs5]at hle;cases hle
  have na:a≠sd:=fun e=>by rw[e,hs]at ha;cases ha
  refine(zg rfl ⟨sd,stE ps,rfl,hs5,fun ob=>Qs (kvs:=stE ps) (fun i σ H'=>H'=upd H5 sd (.frz ob (.dK (stE ps)))/\∃y,σ=[some v,sR a,sR od,sR sd,sR ls,sR le,y,none,none,none,none]) ⟨rfl,none,rfl⟩ (fun i σ H' _ h=>by rw[h.1];exact uX9) ?_ ?_⟩)
  ·rintro i kv σ H6 hkv ⟨rfl,y,rfl⟩
   unfold stE at hkv;obtain⟨p,hp,rfl⟩:=L2.gM hkv;have hls6:upd H5 sd (.frz ob (.dK (stE ps))) ls=some (.lst (sm.map V.str)):=by rw[zj nls];exact hls
   have e1:sm.count p.1=1:=beq_iff_eq.mp (f1 p (uw hp));refine(zg rfl ⟨.inl ⟨rfl,_,SqL.of hls6⟩,(zg rfl ⟨ls,sm,p.1,rfl,rfl,hls6,rfl,(zg rfl ?_)⟩)⟩);rw[e1];exact iteF ⟨rfl,_,rfl⟩
  rintro σ H6 ⟨rfl,y,rfl⟩;have b6:But sd H (upd H5 sd (.frz ob (.dK (stE ps)))):=fun b u n e=>by rw[zj n];exact s5 _ _ e
  have hls6:upd H5 sd (.frz ob (.dK (stE ps))) ls=some (.lst (sm.map V.str)):=by rw[zj nls];exact hls
  have hle6:upd H5 sd (.frz ob (.dK (stE ps))) le=some (.lst ((leH ow c).map V.str)):=by rw[zj nle];exact hle
  have hsd6:=uX9 (H:=H5) (a:=sd) (o:=.frz ob (.dK (stE ps)));have hI6:IsHc (upd H5 sd (.frz ob (.dK (stE ps)))) c v:=hI.keep fun b xs e=>b6 _ _ (fun z=>by rw[z,hs]at e;cases e) e;generalize upd H5 sd (.frz ob (.dK (stE ps)))=H6 at *;refine(zg rfl ⟨ls,rfl,⟨_,SqL.of hls6⟩,ym (xs:=sm.map V.str) (fun j τ zs H'=>H6=H'/\(∃z,τ=[some v,sR a,sR od,sR sd,sR ls,sR le,y,none,z,none,none])/\zs=((sm.take j).map (rot ps)).map V.str) ⟨rfl,⟨none,rfl⟩,rfl⟩ (fun j τ zs H' _ h=>SqL.of (h.1 ▸ hls6)) ?_ ?_⟩)
  ·rintro j v1 τ zs H7 hv ⟨rfl,⟨z,rfl⟩,rfl⟩
   obtain⟨x,hx,rfl⟩:=L2.gM hv;refine(zg rfl ⟨sd,rfl,.inl ⟨stE ps,.inr ⟨ob,hsd6⟩⟩,(zq rfl rfl ⟨valV (stE ps) (.inr x),.inl ⟨stE ps,.inr x,.inr ⟨ob,hsd6⟩,rfl,rfl⟩,?_⟩)⟩);rw[Wx];refine⟨by rw[ua,ua,uq];lia,rfl,⟨_,rfl⟩,?_⟩;rw[uD,hx,ut,ut]
   rfl
  rintro τ zs H7 ⟨rfl,_,rfl⟩ lo hlo;rw[ua,Uj];have s7:=zo (o:=.lst ((sm.map (rot ps)).map V.str)) hlo;have hlo7:=uX9 (H:=H6) (a:=lo) (o:=.lst ((sm.map (rot ps)).map V.str));have ol:(sm.map (rot ps)).length<=100:=by rw[ua];exact sml
  dsimp only
  generalize upd H6 lo (.lst ((sm.map (rot ps)).map V.str))=H7 at *;generalize sm.map (rot ps)=own at *;refine(zg rfl ⟨lo,rfl,⟨_,SqL.of hlo7⟩,vD (xs:=own.map V.str) (fun i σ H'=>Same H7 H'/\∃z1 z2 z3 z4,σ=[some v,sR a,sR od,sR sd,sR ls,sR le,z1,sR lo,z2,z3,z4]) ⟨Same.refl _,_,_,_,_,rfl⟩ (fun i σ H' _ h=>SqL.of (h.1 _ _ hlo7)) ?_ ?_⟩)
  ·rintro i v1 σ H8 hv ⟨s8,z1,z2,z3,z4,rfl⟩
   obtain⟨x,hx,rfl⟩:=L2.gM hv;have fy:=f2 x (uw hx);have s68:=s7.trans s8;have hsd8:=s68 _ _ hsd6;refine(zg rfl ⟨sd,stE ps,ob,rfl,hsd8,zbb (kvs:=stE ps) (fun j τ zs H'=>H8=H'/\(∃z,τ=[some v,sR a,sR od,sR sd,sR ls,sR le,z,sR lo,some (.str x),z3,z4])/\zs=((ps.take j).filter fun p=>decide (p.2=x)).map fun p=>V.str p.1) ⟨rfl,⟨_,rfl⟩,rfl⟩ (fun j τ zs H' _ h=>h.1 ▸ hsd8) ?_ ?_⟩)
   ·rintro j kv τ zs H9 hkv ⟨rfl,⟨z,rfl⟩,rfl⟩
    unfold stE at hkv;obtain⟨p,hp,rfl⟩:=L2.gM hkv;refine(zq rfl rfl ⟨sd,.str p.2,rfl,.inl ⟨stE ps,.inr p.1,.inr ⟨ob,hsd8⟩,rfl,(Qw hnd (uw hp)).symm⟩,(zg rfl ⟨rfl,(zg rfl ?_)⟩)⟩);have hfl:(((ps.take j).filter fun p=>decide (p.2=x)).map fun p=>V.str p.1).length < sizeLine:=by
     rw[ua];refine uQ (um _ _) ?_;rw[uq];lia
    by_cases e:p.2=x
    ·rw[decide_eq_true (congrArg V.str e)]
     exact iteT (zg rfl ⟨hfl,rfl,⟨_,rfl⟩,by rw[uD,hp,UQ,ut];simp[e];rfl⟩)
    ·rw[decide_eq_false fun z=>e (V.str.inj z)]
     exact iteF ⟨rfl,⟨_,rfl⟩,by rw[uD,hp,UQ,ut];simp[e]⟩
   rintro τ zs H9 ⟨rfl,_,rfl⟩ lm hlm;rw[show(stE ps).length=ps.length from ua _,Uj];refine⟨lm,(zg rfl ⟨.inl (SqL.of uX9),?_⟩)⟩;rw[ua];have s9:=s68.new (o:=.lst ((ps.filter fun p=>decide (p.2=x)).map fun p=>V.str p.1)) hlm;have s79:=s8.new (o:=.lst ((ps.filter fun p=>decide (p.2=x)).map fun p=>V.str p.1)) hlm;generalize upd H8 lm (.lst ((ps.filter fun p=>decide (p.2=x)).map fun p=>V.str p.1))=H9 at *;generalize (ps.filter fun p=>decide (p.2=x)).length=many at *;refine(zg rfl ⟨.inl ⟨rfl,_,SqL.of (s79 _ _ hlo7)⟩,(zg rfl ⟨lo,own,x,rfl,rfl,s79 _ _ hlo7,?_⟩)⟩);have b9:But sd H H9:=fun b u n e=>s9 _ _ (b6 _ _ n e);refine(zq rfl rfl (zq rfl rfl ⟨c,v,a,le,x,l,leH ow c,ow,N,rfl,hI6.keep (.of s9),hok,hc,hd,hz,b9 _ _ na ha,s9 _ _ hle6,fun H10 s10=>(zg rfl ?_)⟩));cases eg:goH ow c l x with
   |true =>
    rw[if_pos eg,uJ,beq_iff_eq,beq_iff_eq]at fy;rw[show(decide (x∈l) && (decide (x∉leH ow c) && nuH c x))=true from eg];refine iteT (zg rfl (zC rfl rfl ?_));refine(zg rfl ⟨.inl ⟨rfl,_,SqL.of (s10 _ _ (s9 _ _ hls6))⟩,(zg rfl ⟨ls,sm,x,rfl,rfl,s10 _ _ (s9 _ _ hls6),rfl,(zg rfl ?_)⟩)⟩);rw[fy.1];refine iteF (nxtC (zq rfl rfl ⟨rfl,(zg rfl ?_)⟩));rw[decide_eq_true (show V.int (many:Nat)=V.int (((own.count x:Nat):Int)-1) by congr 1;lia)];exact iteF ⟨s79.trans s10,_,_,_,_,rfl⟩
   |false =>
    rw[if_neg (by rw[eg];decide),beq_iff_eq]at fy;rw[show(decide (x∈l) && (decide (x∉leH ow c) && nuH c x))=false from eg];refine iteF (nxtC (zq rfl rfl ⟨rfl,(zg rfl ?_)⟩));rw[decide_eq_true (show V.int (many:Nat)=V.int ((own.count x:Nat):Int) by rw[fy])];exact iteF ⟨s79.trans s10,_,_,_,_,rfl⟩
  ·rintro σ H8 ⟨s8,z1,z2,z3,z4,rfl⟩
   exact q _ fun b u n e=>s8 _ _ (s7 _ _ (b6 _ _ n e))
 rcases hc with⟨x,rfl⟩|⟨x,d,b,rfl⟩
 ·obtain⟨p,rfl,hp⟩:=hI
  refine(zg rfl (ixT hp aI1 ⟨sN1,fun l1 h1=>⟨sN0,fun l2 h2=>?_⟩⟩));have s2:=(zo (o:=.lst [.str x]) h1).new (o:=.lst []) h2;exact ya rfl (s2 _ _ hp) (fin _ l1 l2 s2 (old h2 uX9) uX9)
 ·obtain⟨p,qd,u,rfl,hp,hD,hb⟩:=hI
  obtain⟨⟨hw,hcd,hu⟩,hok'⟩:=id hok;refine(zg rfl (ixT hp aI1 ⟨sN1,fun l1 h1=>⟨sN0,fun l2 h2=>?_⟩⟩));have s2:=(zo (o:=.lst [.str x]) h1).new (o:=.lst []) h2;refine yV rfl (s2 _ _ hp) ?_;refine(zg rfl (ixT (s2 _ _ hp) aI2 (zg rfl ⟨qd,od,d,ow,N,rfl,hD.keep (.of s2),hw,hO.keep fun b u h _ _ _=>s2 b u h,hcd,hu,fun H3 l3 s3 f3 h3=>?_⟩)));have s03:=s2.trans s3;refine(zg rfl (ixT (s03 _ _ hp) aI2 (zg rfl ⟨qd,od,d,ow,N,rfl,hD.keep (.of s03),hw,hO.keep fun b u h _ _ _=>s03 b u h,hcd,hu,fun H4 l4 s4 f4 h4=>?_⟩)));exact fin H4 l3 l4 (s03.trans s4) (s4 _ _ h3) h4
end GN
namespace L2
open PySem PySem.Spec PyProof.Rows
theorem jk{A:Around}{n:Nat}(I:Inv X pins σ H s)(hu:A.units+n < cLine){kvs':List (Key×V)}{vs':List (Key×Value)}(r':KV kvs' vs'):∀{kvs:List (Key×V)}{vs:List (Key×Value)},KV kvs vs->(∀k v,(k,v)∈kvs->∃v',valV kvs' k=some v'/\Sme n H v v')->PySem.W.KeqHits A s vs' vs true
 |_,_,.nil,_=>.nil
 | (k,v)::kvs,(k',u)::vs,.cons hr t,h=>by
  obtain⟨e,rv⟩:=hr;have e:k=k':=e;subst e;obtain⟨v',g1,g2⟩:=h k v (.head _);have rr:=r'.val k;rw[g1]at rr;cases hv:valueAt vs' k with
  |none=>rw[hv]at rr;exact False.elim rr
  |some u' =>
   rw[hv]at rr
   have:=PySem.W.KeqHits.hit (r:=vs) hv (Qr I n hu g2 rv rr) (jk I hu r' t fun k v hm=>h k v (.tail _ hm))
   simpa using this
def Wz(n:Nat)(b:Bool):R2:=fun x y H Q=>∃p p' kvs kvs',x=.ref p/\y=.ref p'/\H p=some (.dK kvs)/\H p'=some (.dK kvs')/\kvs.length=kvs'.length/\(∀k v,(k,v)∈kvs->∃v',valV kvs' k=some v'/\Sme n H v v')/\Q (.bl b) H
section
variable{k:Nat}
theorem zbc(hn:n<=32)(hu:X.A.units+64 < cLine):OpR X (compareOp .Eq) (Wz n true):=by
 intro pins s σ H x y v u Q I rx ry h;obtain⟨p,p',kvs,kvs',rfl,rfl,h1,h2,hl,h3,q⟩:=h;cases rx;cases ry;obtain⟨z1,d1,vs,r1,dd1⟩:=vP I.hok h1;obtain⟨z2,d2,vs',r2,dd2⟩:=vP I.hok h2;have l1:=r1.length;have l2:=r2.length;refine PySem.W.keq_eq d1 d2 dd1 dd2 (by lia) (r:=true) (fun _=>jk I (by show X.A.units+1+n < cLine;lia) r2 r1 h3) ?_;rw[show(vs.length == vs'.length && true)=true by simp;lia];exact⟨.bl true,H,I,rfl,q⟩
theorem zbd(hn:n<=32)(hu:X.A.units+64 < cLine):OpR X (compareOp .NotEq) (Wz n false):=by
 intro pins s σ H x y v u Q I rx ry h;obtain⟨p,p',kvs,kvs',rfl,rfl,h1,h2,hl,h3,q⟩:=h;cases rx;cases ry;obtain⟨z1,d1,vs,r1,dd1⟩:=vP I.hok h1;obtain⟨z2,d2,vs',r2,dd2⟩:=vP I.hok h2;have l1:=r1.length;have l2:=r2.length;refine PySem.W.keq_ne d1 d2 dd1 dd2 (by lia) (r:=true) (fun _=>jk I (by show X.A.units+1+n < cLine;lia) r2 r1 h3) ?_;rw[show(!(vs.length == vs'.length && true))=false by simp;lia];exact⟨.bl false,H,I,rfl,q⟩
theorem WA(hn:n<=32)(hr:Room k X.A):jOp X (compareOp .Eq) (Wz n true):=⟨zbc hn hr.units⟩
theorem zbe(hn:n<=32)(hr:Room k X.A):jOp X (compareOp .NotEq) (Wz n false):=⟨zbd hn hr.units⟩
end
end L2
namespace GN
open PySem L2 K11
structure WkS(H:Hp)(c:Hc)(v:V)(a e od:Addr)(l lent:lS)(ow:Str->List Bool)(N:lS):Prop where
 hc:IsHc H c v
 ok:c.Ok N ow
 ha:H a=some (.lst (l.map V.str))
 he:H e=some (.lst (lent.map V.str))
 ho:OwA H od ow N
 ln:l.length+100*c.dp<=1000000
 g:wf ow c [] l=true/\c.uz<=4000000
inductive spWalk(n:Nat)(vs:List V)(H:Hp)(Q:VK)(e_3:XK):Prop
 |mk (c:Hc) (v:V) (a:Addr) (e:Addr) (od:Addr) (l:lS) (lent:lS) (ow:Str->List Bool):(∃N:lS,vs=[v,.ref a,.ref e,.ref od]/\WkS H c v a e od l lent ow N/\c.dp<=n/\∀H',Same H H'->Q (.bl true) H')->spWalk n vs H Q e_3
theorem zbf{ps:List (Str×Str)}{n:Str}(h:n∉ps.map (·.1)):putK (stE ps) (.inr n) (.str x)=stE (ps++[(n,x)]):=by
 rw[Je _ (by rw[wS,UX.mpr fun p hp z=>h (uu.mpr ⟨p,hp,of_decide_eq_true z⟩)];rfl)];unfold stE;rw[ut]
 rfl
theorem WB{H:Hp}{N:lS}{ow:Str->List Bool}{l:lS}{x:Str}:∀{as:Ha}{vs:List V},IsHa H as vs->as.Ok N ow->wfA ow x as l=true->∀{i:Nat}{v:V},vs[i]?=some v->∃(t:Str)(xs:lS)(m:Bool)(b:Hc)(p q:Addr)(u:V),v=.ref p/\H p=some (.tup [.str t,.ref q,.str (yG m),.str "",u])/\H q=some (.tup (xs.map V.str))/\IsHc H b u/\(xs.length<=100/\b.Ok N ow)/\b.dp<=as.dp/\b.uz<=as.uz/\wf ow b [] ((if m then rst l [x]else l)++xs)=true
 |.nil,vs,h,_,_,i,v,hv=>by
  rw[show vs=[]from h]at hv;cases hv
 |.cons t xs m b r,vs,⟨p,q,u,vs',e,h1,h2,h3,h4⟩,⟨k1,k2⟩,g,i,v,hv=>by
  rw[wfA,uJ]at g;rw[Ha.dp,Ha.uz];subst e;cases i with
  |zero =>
   cases hv;exact⟨t,xs,m,b,p,q,u,rfl,h1,h2,h3,k1,Nat.le_max_left _ _,UP _ _,g.1⟩
  |succ i =>
   obtain⟨t,xs,m,b,p,q,u,e1,e2,e3,e4,e5,e6,e7,e8⟩:=WB h4 k2 g.2 (i:=i) (v:=v) (by simpa using hv);exact⟨t,xs,m,b,p,q,u,e1,e2,e3,e4,e5,uI e6 (Nat.le_max_right _ _),uI e7 (Nat.le_add_left _ _),e8⟩
theorem IsHc.hdH:∀{c:Hc}{v:V},IsHc H c v->∃p w0 rest,v=.ref p/\H p=some (.tup (.str w0::rest))/\(w0="hold"↔∃n x b,c=.hold n x b)
 |.give _,_,⟨p,e,h⟩=>⟨p,_,_,e,h,fun z=>absurd z (by decide),fun⟨_,_,_,z⟩=>by cases z⟩
 |.lt _ _ _,_,⟨p,q,u,e,h,d,b⟩=>⟨p,_,_,e,h,fun z=>absurd z (by decide),fun⟨_,_,_,z⟩=>by cases z⟩
 |.hold _ _ _,_,⟨p,u,e,h,b⟩=>⟨p,_,_,e,h,fun _=>⟨_,_,_,rfl⟩,fun _=>rfl⟩
 |.drop _ _,_,⟨p,u,e,h,b⟩=>⟨p,_,_,e,h,fun z=>absurd z (by decide),fun⟨_,_,_,z⟩=>by cases z⟩
 |.iff _ _ _,_,⟨p,u1,u2,e,h,a,b⟩=>⟨p,_,_,e,h,fun z=>absurd z (by decide),fun⟨_,_,_,z⟩=>by cases z⟩
 |.case _ _,_,⟨p,q,vs,e,h,h2,a⟩=>⟨p,_,_,e,h,fun z=>absurd z (by decide),fun⟨_,_,_,z⟩=>by cases z⟩
theorem scWalk:FnScope ["_law_body_here","_law_mine","_law_lent","_law_owns_here","_law_stands","_law_left","_law_tag","_law_names","_law_mode","_law_token","_law_inner"] lS1 (zp Zy):=.ok
theorem Qx(F:Fun K "_law_walk" "_law_walk" Zy f fd):FnOk P w K mg base CX0 (3+0) f fd lS1 (spWalk 0):=by
 refine F.by scWalk (fun vs H Q E h=>?_) (fun cdv A outer s H vs Q E hr h=>?_)
 ·obtain⟨c,v,a,e,od,l,lent,ow,N,rfl,_⟩:=h
  rfl
 obtain⟨c,v,a,e,od,l,lent,ow,N,rfl,_,hd,_⟩:=h;exact absurd hd (Nat.not_le_of_gt c.dp_pos)
theorem zbg(F:Fun K "_law_walk" "_law_walk" Zy f fd)(GW:Ca P w K mg base CX0 (3+n) "_law_walk" lS1 (spWalk n))(GA:Ca P w K mg base CX0 2 "_law_after" lS17 spPLeft)(GF:Ca P w K mg base CX0 (1+n+1+1) "_law_few" lS6 (spFew n))(m_list:mg "list"=none):FnOk P w K mg base CX0 (3+(n+1)) f fd lS1 (spWalk (n+1)):=by
 refine F.by scWalk (fun vs H Q E h=>?_) (fun cdv A outer s H vs Q E hr h=>?_)
 ·obtain⟨c,v,a,e,od,l,lent,ow,N,rfl,_⟩:=h
  rfl
 obtain⟨c,v,a,e0,od,l,lent,ow,N,rfl,⟨hI,hok,ha,he,hO,hl,hg,hz⟩,hd,q⟩:=h;have hrW:Room (3+n) _:=hr;have hrF:Room (1+n+1+1) _:=hrW.mono (by lia);have hr2:Room 2 _:=hrW.mono (by lia);have hr1:Room 1 _:=hrW.mono (by lia);refine⟨_,
  (zh (sE 4 scWalk.nd xh)
  (zh (vK PassesOwn.never (tN zI (zn K (jv 0)) zw)
   (zh (vm hr1 (jv 4) (zn K (jv 0)) (v5 hr1 (jv 4) (zn K (jv 0)) (zn K (jv 0))))
   (zk (sE 0 scWalk.nd (zn K (jv 0))))))
  (zh (zE (tN zI (zn K (jv 0)) zw)
   (zh (sE 5 scWalk.nd (cA GA hr2 (jA3 (jv 0) (jv 1) (jv 3))))
   (zk (zv (Xk (yO (WA (n:=2) (by decide) hr1) (jv 4) xh (xI _)) (vJ (cA GW hrW (jA4 (zn K (jv 0)) (jv 5) (jv 2) (jv 3)))))))) zx)
  (zh (zE (tN zI (zn K (jv 0)) zw)
   (zh (zE (xn (yr (cA GW hrW (jA4 (zn K (jv 0)) (jv 1) (jv 2) (jv 3))))) (zk (zv xk)) zx)
   (zk (zv (Xk (yO (WA (n:=2) (by decide) hr1) (jv 4) xh (xI _)) (vJ (cA GW hrW (jA4 (zn K (jv 0)) (jv 1) (jv 2) (jv 3)))))))) zx)
  (zh (zE (tN zI (zn K (jv 0)) zw)
   (zh (yt PassesOwn.never rfl (yH K (zn K (jv 0))) (zN K rfl (zu (gN 6 scWalk.nd) (zu (gN 7 scWalk.nd) (zu (gN 8 scWalk.nd) (zu (gN 9 scWalk.nd) (zu (gN 10 scWalk.nd) zM))))))
    (zh (sE 5 scWalk.nd (jv 1))
    (zh (zE (tN zI (jv 8) zw)
     (zk (sE 5 scWalk.nd (cA GA hr2 (jA3 (jv 0) (jv 1) (jv 3))))) zx)
    (zk (zE (jW.pt (wu (tN (zbe (n:=2) (by decide) hr1) (jv 4) xh) (xM (xn (yr (cA GW hrW (jA4 (jv 10) (zA yz (jv 5) (zS (yK K) rfl m_list Ut (jA1 (jv 7)))) (jv 2) (jv 3))))))))
     (zk (zv xk)) zx)))))
   (zk (zv xk))) zx)
  (zh (zE (xn (yr (cA GF hrF (jA4 (jv 0) (jv 1) (jv 3) (jv 4))))) (zk (zv xk)) zx)
  (zh (zE (tN zI (zn K (jv 0)) zw) (zk (zv xk)) zx)
  (zh (sE 5 scWalk.nd (zA yz (cA GA hr2 (jA3 (jv 0) (jv 1) (jv 3))) (zD (jA1 (zn K (jv 0))))))
  (zk (zv (cA GW hrW (jA4 (zn K (jv 0)) (jv 5) (jv 2) (jv 3))))))))))))),?_⟩
 have sl:=zO;have OK:∀{H'},Same H H'->OwA H' od ow N:=fun s'=>hO.keep fun b u h _ _ _=>s' b u h;refine cut2 fun r1_ hr1_=>?_;intro sd hsd;have s1:=zo (o:=.dK []) hsd;have hsd1:=uX9 (H:=H) (a:=sd) (o:=.dK []);show(tWhile _ _:TS) { nx:=r1_ { nx:=fun x H'=>Q V.non H',rt:=Q },rt:=Q } [some v,sR a,sR e0,sR od,sR sd,none,none,none,none,none,none] (upd H sd (.dK []));generalize upd H sd (.dK [])=H1 at *;have fin:∀(H5:Hp)(ci:Hc)(vi:V)(ps:List (Str×Str)),Same H H5->H5 sd=some (.dK (stE ps))->IsHc H ci vi->ci.Ok N ow->wf ow ci ps l=true->(ps.map (·.1)).Nodup->ci.dp+ps.length<=c.dp->ci.uz<=4000000->(¬ ∃n x b,ci=.hold n x b)->r1_ { nx:=fun x H'=>Q V.non H',rt:=Q } [some vi,sR a,sR e0,sR od,sR sd,none,none,none,none,none,none] H5:=by
  intro H5 ci vi ps s5 hsd5 hI hok hg hnd hdp hz hh;subst hr1_;have nsd:∀{b:Addr}{u:HO},H b=some u->b≠sd:=fun{b u} e z=>by rw[z,hsd]at e;cases e
  have ha5:=s5 _ _ ha;have he5:=s5 _ _ he;cases ci with
  |hold m x b=>exact absurd ⟨m,x,b,rfl⟩ hh
  |drop x b =>
   obtain⟨p,u,rfl,hp,hb⟩:=hI;rw[wf,uJ]at hg;obtain⟨hps,hg⟩:=hg;have e:=List.isEmpty_iff.mp hps;subst e;rw[Hc.dp]at hdp;rw[Hc.uz]at hz;have hp5:=s5 _ _ hp;refine yV rfl hp5 ?_;refine(zq rfl rfl (zg rfl ⟨p,a,od,"drop",x,_,l,[x],rfl,hp5,fun _=>rfl,fun z=>absurd z (by decide),ha5,by lia,fun H6 r s6 fr hr6=>?_⟩));have s06:=s5.trans s6;refine(zg rfl (fun pd hpd=>⟨sd,pd,[],[],rfl,rfl,old hpd (s6 _ _ hsd5),uX9,rfl,(fun k v z=>by cases z),(zg rfl (iteT ?_))⟩));have s7:=s06.new (o:=.dK []) hpd
   have:=ZY l [x]
   exact(zg rfl (ixT (s7 _ _ hp) aI2 (zq rfl rfl (zg rfl ⟨b,u,r,e0,od,rst l [x],lent,ow,N,rfl,⟨hb.keep (.of s7),hok,old hpd hr6,s7 _ _ he,OK s7,by lia,hg,hz⟩,by lia,fun H8 s8=>q _ (s7.trans s8)⟩))))
  |iff x b1 b2 =>
   obtain⟨p,u1,u2,rfl,hp,h1,h2⟩:=hI;rw[wf,uJ,uJ]at hg;obtain⟨hps,hg1,hg2⟩:=hg;have e:=List.isEmpty_iff.mp hps;subst e;rw[Hc.dp]at hdp;rw[Hc.uz]at hz;have hp5:=s5 _ _ hp;refine ya rfl hp5 (yV rfl hp5 ?_);refine(zg rfl (ixT hp5 aI2 (zq rfl rfl (zg rfl ⟨b1,u1,a,e0,od,l,lent,ow,N,rfl,⟨h1.keep (.of s5),hok.1,ha5,he5,OK s5,by lia,hg1,by lia⟩,by lia,fun H6 s6=>(zg rfl (iteF (nxtC ?_)))⟩))));have s06:=s5.trans s6;refine(zg rfl (fun pd hpd=>⟨sd,pd,[],[],rfl,rfl,old hpd (s6 _ _ hsd5),uX9,rfl,(fun k v z=>by cases z),(zg rfl (iteT ?_))⟩));have s7:=s06.new (o:=.dK []) hpd;exact(zg rfl (ixT (s7 _ _ hp) aI3 (zq rfl rfl (zg rfl ⟨b2,u2,a,e0,od,l,lent,ow,N,rfl,⟨h2.keep (.of s7),hok.2,s7 _ _ ha,s7 _ _ he,OK s7,by lia,hg2,by lia⟩,by lia,fun H8 s8=>q _ (s7.trans s8)⟩))))
  |case x as =>
   obtain⟨p,q0,vs,rfl,hp,hq,hA⟩:=hI;rw[wf,uJ]at hg;obtain⟨hps,hg⟩:=hg;have e:=List.isEmpty_iff.mp hps;subst e;rw[Hc.dp]at hdp;rw[Hc.uz]at hz;have hp5:=s5 _ _ hp;refine ya rfl hp5 (ya rfl hp5 (yV rfl hp5 ?_));refine(zg rfl (ixT hp5 aI2 ⟨q0,rfl,⟨_,SqT.of (s5 _ _ hq)⟩,xi (xs:=vs) (fun i σ H'=>(∃y5 y6 y7 y8 y9 y10,σ=[sR p,sR a,sR e0,sR od,sR sd,y5,y6,y7,y8,y9,y10])/\Same H H'/\H' sd=some (.dK [])) ⟨⟨_,_,_,_,_,_,rfl⟩,s5,hsd5⟩ (fun i σ H' _ h=>SqT.of (h.2.1 _ _ hq)) ?_ ?_⟩))
   ·rintro i v1 σ H7 hv ⟨⟨y5,y6,y7,y8,y9,y10,rfl⟩,s7,hsd7⟩
    obtain⟨t,xs,m,b,pa,qa,u,rfl,e2,e3,e4,e5,e6,e7,e8⟩:=WB hA hok hg hv;refine⟨_,_,rfl,SqT.of (s7 _ _ e2),rfl,_,_,rfl,_,_,rfl,_,_,rfl,_,_,rfl,_,_,rfl,rfl,?_⟩;refine Jd fun E_ hE_=>?_;refine cut2 fun r2_ hr2_=>?_;have fin2:∀(H8:Hp)(r:Addr),Same H H8->H8 sd=some (.dK [])->H8 r=some (.lst ((if m then rst l [x]else l).map V.str))->r2_ E_ [sR p,sR a,sR e0,sR od,sR sd,sR r,some (.str t),sR qa,some (.str (yG m)),some (.str ""),some u] H8:=by
     intro H8 r s8 hsd8 hr8;subst hr2_ hE_;have ll:(if m then rst l [x]else l).length<=l.length:=by
      have:=ZY l [x]
      split<;>lia
     generalize (if m then rst l [x]else l)=L at *;refine(zg rfl (fun pd hpd=>⟨sd,pd,[],[],rfl,rfl,old hpd hsd8,uX9,rfl,(fun k v z=>by cases z),(zg rfl (iteF ?_))⟩));have s9:=s8.new (o:=.dK []) hpd;refine(zq rfl rfl (zg rfl ⟨qa,(zg rfl ⟨.inr (SqT.of (s9 _ _ e3)),fun l6 h6=>⟨r,l6,(zC rfl rfl ⟨old h6 (old hpd hr8),uX9,by rw[ua,ua];lia,fun l7 h7=>?_⟩)⟩⟩)⟩));have s10:=(s9.new (o:=.lst (xs.map V.str)) h6).new (o:=.lst (L.map V.str++xs.map V.str)) h7;have hsd10:=old (o:=.lst (L.map V.str++xs.map V.str)) h7 (old (o:=.lst (xs.map V.str)) h6 (old (o:=.dK []) hpd hsd8));exact(zq rfl rfl ⟨b,u,l7,e0,od,L++xs,lent,ow,N,rfl,⟨e4.keep (.of s10),e5.2,by rw[uX9,ut],s10 _ _ he,OK s10,by rw[uf];lia,e8,by lia⟩,by lia,fun H11 s11=>(zg rfl (iteF ⟨⟨_,_,_,_,_,_,rfl⟩,s10.trans s11,s11 _ _ hsd10⟩))⟩)
    refine(zg rfl ?_);cases m
    ·exact(zg rfl ⟨rfl,(zg rfl (iteF (nxtC (fin2 H7 a s7 hsd7 (s7 _ _ ha)))))⟩)
    ·refine(zg rfl ⟨rfl,(zg rfl (iteT (zq rfl rfl (zg rfl ⟨p,a,od,"case",x,_,l,[x],rfl,s7 _ _ hp,fun _=>rfl,fun z=>absurd z (by decide),s7 _ _ ha,by lia,fun H8 r s8 fr hr8=>?_⟩))))⟩)
     exact fin2 H8 r (s7.trans s8) (s8 _ _ hsd7) hr8
   ·rintro σ H7 ⟨⟨y5,y6,y7,y8,y9,y10,rfl⟩,s7,hsd7⟩
    exact q _ s7
  |give x =>
   obtain⟨p,rfl,hp⟩:=id hI;have hp5:=s5 _ _ hp;rw[wf]at hg;have hf:few ps (smH ow (.give x)) ((smH ow (.give x)).map (rot ps)) (goH ow (.give x) l)=true:=by
    rw[show goH ow (.give x) l=fun y=>decide (y∈l)from funext fun y=>by unfold goH leH nuH;simp];exact hg
   refine ya rfl hp5 (ya rfl hp5 (ya rfl hp5 ?_));refine(zq rfl rfl (zq rfl rfl ⟨.give x,.ref p,a,od,sd,l,ps,ow,N,rfl,hI.keep (.of s5),hok,.inl ⟨x,rfl⟩,by lia,hz,ha5,OK s5,hsd5,hf,by lia,hnd,fun H6 b6=>(zg rfl (iteF (nxtC ?_)))⟩));have s6:Same H H6:=fun b u e=>b6 _ _ (nsd e) (s5 _ _ e);exact yV rfl (s6 _ _ hp) (q _ s6)
  |lt x d b =>
   obtain⟨p,qd,u,rfl,hp,hD,hb⟩:=id hI;have hp5:=s5 _ _ hp;obtain⟨⟨hwd,hcd,hu⟩,hok'⟩:=id hok;rw[wf,uJ]at hg;have dd:=hdp;have zz:=hz;rw[Hc.dp]at dd;rw[Hc.uz]at zz;refine ya rfl hp5 (ya rfl hp5 (ya rfl hp5 ?_));refine(zq rfl rfl (zq rfl rfl ⟨.lt x d b,.ref p,a,od,sd,l,ps,ow,N,rfl,hI.keep (.of s5),hok,.inr ⟨x,d,b,rfl⟩,by lia,hz,ha5,OK s5,hsd5,hg.1,by lia,hnd,fun H6 b6=>(zg rfl (iteF (nxtC ?_)))⟩));have s6:Same H H6:=fun b u e=>b6 _ _ (nsd e) (s5 _ _ e);refine ya rfl (s6 _ _ hp) ?_;refine(zq rfl rfl (zg rfl ⟨p,a,od,"let",x,_,l,ups ow d,rfl,s6 _ _ hp,fun z=>absurd rfl z,fun _=>⟨qd,d,_,ow,N,rfl,hD.keep (.of s6),hwd,OK s6,hcd,hu,rfl⟩,s6 _ _ ha,by lia,fun H7 r s7 fr hr7=>?_⟩));have s07:=s6.trans s7
   have:=ZY l (ups ow d)
   refine(zg rfl (ixT (s07 _ _ hp) aI1 ⟨sN1,fun l4 h4=>⟨r,l4,(zC rfl rfl ⟨old h4 hr7,uX9,by rw[ua];show _+1<=_;lia,fun l5 h5=>?_⟩)⟩⟩));have s8:=(s07.new (o:=.lst [.str x]) h4).new (o:=.lst ((rst l (ups ow d)).map V.str++[.str x])) h5;refine(zg rfl (ixT (s8 _ _ hp) aI3 (zq rfl rfl (zg rfl ⟨b,u,l5,e0,od,rst l (ups ow d)++[x],lent,ow,N,rfl,⟨hb.keep (.of s8),hok',?_,s8 _ _ he,OK s8,?_,hg.2,by lia⟩,by lia,fun H9 s9=>q _ (s8.trans s9)⟩))))
   ·rw[uX9,ut]
    rfl
   ·rw[uf,uO]
    lia
 refine Vx (fun σ H'=>∃(ci:Hc)(vi:V)(ps:List (Str×Str)),σ=[some vi,sR a,sR e0,sR od,sR sd,none,none,none,none,none,none]/\Same H H'/\H' sd=some (.dK (stE ps))/\IsHc H ci vi/\ci.Ok N ow/\wf ow ci ps l=true/\(ps.map (·.1)).Nodup/\ci.dp+ps.length<=c.dp/\ci.uz<=4000000) (fun σ H'=>match H' sd with|some (.dK kvs)=>c.dp-kvs.length|_=>0) ⟨c,v,[],rfl,s1,hsd1,hI,hok,hg,.nil,uj _,hz⟩ ?_ ?_
 ·rintro σ H2 ⟨ci,vi,ps,rfl,s2,hsd2,hIi,hoki,hgi,hnd,hdp,hzi⟩
  obtain⟨p,w0,rest,rfl,hp,hho⟩:=hIi.hdH;refine(zg rfl (ixT (s2 _ _ hp) aI0 ⟨rfl,(zg rfl ?_)⟩));by_cases e:w0="hold"
  ·rw[decide_eq_true (congrArg V.str e)]
   obtain⟨m,x,b,rfl⟩:=hho.mp e;obtain⟨p',u,e1,hp',hb⟩:=hIi;cases e1;rw[wf,uJ,uJ,decide_eq_true_eq,decide_eq_true_eq]at hgi;obtain⟨⟨g1,g2⟩,hgi⟩:=hgi;rw[Hc.dp]at hdp;rw[Hc.uz]at hzi;have hp2:=s2 _ _ hp';refine iteT (zg rfl ⟨sd,rfl,.inl ⟨stE ps,.inl hsd2⟩,(zg rfl (ixT hp2 aI2 (zg rfl (ixT hp2 aI2 ⟨valV (stE ps) (.inr x),.inl ⟨stE ps,.inr x,.inl hsd2,rfl,rfl⟩,?_⟩))))⟩);rw[Wx,Y1 g2];have sl2:(stE ps).length=ps.length:=ua _;refine(zq rfl rfl (ixT hp2 aI1 ⟨sd,(zg rfl ⟨DPut.k (k:=.inr m) hsd2 (by lia),?_⟩)⟩));rw[zbf g1];have s3:Same H (upd H2 sd (.dK (stE (ps++[(m,x)])))):=s2.put hsd;refine(zg rfl (ixT (s3 _ _ hp') aI3 ?_));refine⟨⟨b,u,ps++[(m,x)],rfl,s3,uX9,hb,hoki,hgi,?_,?_,by lia⟩,?_⟩
   ·rw[ut]
    refine List.nodup_append.mpr ⟨hnd,by simp,fun y hy z hz e=>g1 ?_⟩;rw[<- uo.mp (show z∈[m]from hz),<- e];exact hy
   ·rw[uf,uO]
    lia
   ·rw[uX9,hsd2]
    dsimp only
    rw[sl2,show(stE (ps++[(m,x)])).length=ps.length+1 by unfold stE;simp]
    have:=b.dp_pos
    lia
  ·rw[decide_eq_false fun z=>e (V.str.inj z)]
   exact iteF (fin H2 ci _ ps s2 hsd2 hIi hoki hgi hnd hdp hzi fun z=>e (hho.mpr z))
 ·intro σ H' Q1 Q2 h q
  obtain⟨v1,e1,p1,xs,i,u,e2,e3,sq,at1,sc,k,e4,q⟩:=q;exact⟨v1,e1,p1,xs,i,u,e2,e3,sq,at1,sc,k,e4,h _ _ q⟩
theorem Y3(c:Hc):∀ds:lS,(wD ds c).uz=c.uz
 |[]=>rfl
 |x::ds=>by
  show(Hc.drop x (wD ds c)).uz=_;rw[Hc.uz,Y3 c ds]
theorem Qy(c:Hc):∀ps:List (Str×Str),(wH ps c).uz=ps.length+c.uz
 |[]=>by show c.uz=0+c.uz;lia
 |x::ps=>by
  show(Hc.hold x.1 x.2 (wH ps c)).uz=_;rw[Hc.uz,Qy c ps,ui];lia
mutual
theorem Y4{X:HX}:∀(b:Bd)(l:lS)(m:Nat),OkB X b->b.Dd->(hB X.ns X.ow b l m).1.uz<=200*b.sz
 |.give x,l,m,hk,g=>by
  have h2:=(yD (rO X.ns (.give x) l) [x] m).2.2.2;rw[hB,Y3,Qy,Hc.uz,Bd.sz];simp only[uO]at h2
  lia
 |.lt x d b,l,m,hk,g=>by
  obtain⟨⟨_,_,hca⟩,hkb⟩:=show(x∈X.ns/\(∀y∈d.uses,y∈X.ns)/\CaD X.N X.ow d)/\OkB X b from hk
  rw[Bd.Dd]at g;rw[hB,Y3,Qy,Hc.uz,Bd.sz];generalize rO X.ns (.lt x d b) l=R;have h2:(spL X.ns X.ow d b R m).2.1.length<=(upN d.uses (ends X.ow d)).length:=(yD _ _ m).2.2.2;have h3:=ZT d.uses (ends X.ow d);have h4:=Y4 b (stL R (spL X.ns X.ow d b R m).1 x) (spL X.ns X.ow d b R m).2.2 hkb g.2;have h5:=(zbR (st:=(spL X.ns X.ow d b R m).1) hca g.1.1 g.1.2).2.2
  have:=g.1.2
  lia
 |.iff x a b,l,m,hk,g=>by
  obtain⟨k1,k2⟩:=show OkB X a/\OkB X b from hk
  rw[Bd.Dd]at g;rw[hB,Y3,Hc.uz,Bd.sz];generalize rO X.ns (.iff x a b) l=R;have h2:=Y4 a R m k1 g.1;have h3:=Y4 b R (hB X.ns X.ow a R m).2 k2 g.2;lia
 |.case x as,l,m,hk,g=>by
  rw[Bd.Dd]at g;rw[hB,Y3,Hc.uz,Bd.sz];have h2:=zbW x (rO X.ns (.case x as) l) as m hk g;lia
theorem zbW{X:HX}(x:Str)(R:lS):∀(as:Arms)(m:Nat),OkA X as->as.Dd->(hA X.ns X.ow x R as m).1.uz<=200*as.sz
 |.nil,m,_,_=>by rw[hA,Ha.uz];exact uM _
 |.cons t xs b r,m,hk,g=>by
  obtain⟨⟨k1,k2⟩,k3⟩:=show((∀y∈xs,y∈X.ns)/\OkB X b)/\OkA X r from hk
  rw[Arms.Dd]at g;have h1:=Y4 b (stA (tkB X.ns x R b) x R xs) m k2 g.1;have h2:=zbW x R r (hB X.ns X.ow b (stA (tkB X.ns x R b) x R xs) m).2 k3 g.2;rw[hA,Ha.uz,Arms.sz];lia
end
theorem zdC{o:Wo}(wok:WOk o)(hn:dfs.map (·.z)=(uK 3).map (fun k=>nm o.z o.b (2-k)))(hF:∀d∈dfs,FOk 6 d/\FNm o d)(hl:∀d∈dfs,(ow d.z).length=d.ns.length){d:Df}(hd:d∈dfs)(hD:d.b.Dd):
  let c:=(hB (nsOf d) ow d.b (upN d.ns (ow d.z)) 0).1
  c.Ok (dfs.map (·.z)) ow/\(upN d.ns (ow d.z)).length<=3/\c.dp<=225/\wf ow c [] (upN d.ns (ow d.z))=true/\c.uz<=4000000:=by
 have dk:=ZR wok hn hF hl hd;obtain⟨c1,c2,c3⟩:=zdx wok hn hF hl hd hD;obtain⟨⟨f1,f2,f3⟩,h⟩:=hF d hd;have sz:SZ 6=14560:=rfl;have ok:=dk.b ⟨0,0,0,0,0,0,0,0,0,0,nsOf d,ow,dfs.map (·.z)⟩ rfl rfl rfl;refine⟨c1,c2,c3,?_,?_⟩
 ·refine Y2 (X:=⟨0,0,0,0,0,0,0,0,0,0,nsOf d,ow,dfs.map (·.z)⟩) (o:=o) dk.u (fun z k hm=>?_) d.b d.ns _ 0 h.sn ok (fun y hy=>vz hy) fun y hy=>?_
  ·obtain⟨j,_,e⟩:=zbP h f1 hm
   have:=zdw z k
   rw[e]at this
   have:=zd7 wok.zc 46 this
   lia
  ·show y∈nsOf d
   unfold nsOf;rw[xv];exact .inr (uU _ hy)
 ·have:=Y4 (X:=⟨0,0,0,0,0,0,0,0,0,0,nsOf d,ow,dfs.map (·.z)⟩) d.b (upN d.ns (ow d.z)) 0 ok hD
  dsimp only at this
  lia
end GN
namespace L2
open PySem PySem.Spec PyProof.Rows
theorem XU{mb:Str->Option Value}{k:Nat}{s₁:Shared}{ns:List Int}
  (KX:K.In s₁.heap) (hT:∀T∈Ts,s₁.heap.get? T=some { cls:=.none,data:=.fields #[] }) (hTK:∀T∈Ts,K.lookup T=none) (hTc:∀T∈Ts,isCodeTable s₁.heap T) (hns:s₁.heap.Ns mainGlobals mg) (hb:s₁.heap.Ns builtinsNs mb) (hbb:∀x:Str,x≠"__name__"->mb x=bootBuiltins x) (hlim:s₁.heap.NoLimit) (hBM:BMn mg s₁.heap) (hg:s₁.gens=#[])
  (ha:s₁.heap.get? a=some { cls:=.type "list",data:=.seq vs.toArray }) (hi:IntsAre vs ns) (hl:ns.length<=sizeLine) (hr:Room k callerA)
  (F:∀base:Heap,K.In base->base.Ns mainGlobals mg->BMn mg base->FnOk P w K mg base CX k fa fd [x] sp) (hbind:∀(s:Shared)(u:Value),BindsTo s fd ⟨[u],[]⟩ [(x,u)])
  (hsp:∀H:Hp,(∀T∈Ts,H T=some (.tbl #[]))->SqL K H a (ns.map V.int)->sp [.ref a] H (fun v _=>v=.bl true) fun _ _ _=>False)
  (hCX:∀H e s',CX [] H s₁ (fun _ _ _=>False) e s'->False) :
  codeAny (model P w) callerA (.call (.ref fa) ⟨[.ref a],[]⟩) (fun r s'=>r=.ok (.ret (.bool true))/\OldK s₁.heap s'.heap/\s'.os=s₁.os/\AllBare s'.gens) s₁:=by
 have rv:=jC hi;have lenV:=hi.length;have nTa:a∉Ts:=fun e=>by rw[hT a e]at ha;cases ha
 have core:∀H:Hp,(∀b,H b=none\/(∃o xs,H b=some (.frz o (.lst xs)))\/(b∈Ts/\H b=some (.tbl #[])))->(∀T∈Ts,H T=some (.tbl #[]))->SqL K H a (ns.map V.int)->HOk P w H s₁.heap->(∀b,H b≠none->b=a\/b∈Ts)->(H a≠none->K.lookup a=none) ->
   codeAny (model P w) callerA (.call (.ref fa) ⟨[.ref a],[]⟩) (fun r s'=>r=.ok (.ret (.bool true))/\OldK s₁.heap s'.heap/\s'.os=s₁.os/\AllBare s'.gens) s₁:=by
  intro H hO hHT hS hok hA hK;have base_of:∀{b:Addr}{o:Obj},s₁.heap.get? b=some o->H b=none->(hidT s₁.heap H).get? b=some o:=fun e n=>Vo e n;have noA:∀{b:Addr}{o:Obj}{es:Array DictEntry}{ep:Nat},s₁.heap.get? b=some o->o.data=.dict es ep->H b=none:=fun{b o es ep} e d=>by
   cases q:H b with
   |none=>rfl
   |some u =>
    rcases hA b (by rw[q];simp)with e'|e'
    ·subst e'
     rw[ha]at e;cases e;have d':Data.seq vs.toArray _=Data.dict es ep:=d;cases d'
    ·rw[hT b e']at e;cases e
     have d':Data.fields #[]=Data.dict es ep:=d;cases d'
  have nsK:∀{b:Addr}{m:Str->Option Value},s₁.heap.Ns b m->(hidT s₁.heap H).Ns b m:=fun{b m}⟨o,es,ep,e,d,r⟩=>⟨o,es,ep,base_of e (noA e d),d,r⟩;have hBb:BMn mg (hidT s₁.heap H):=by
   obtain⟨bm,ob,b1,b2,b3,b4,b5,b6⟩:=hBM;refine⟨bm,ob,b1,b2,base_of b3 ?_,b4,b5,b6⟩;cases q:H bm with
   |none=>rfl
   |some u =>
    rcases hA bm (by rw[q];simp)with e'|e'
    ·subst e'
     rw[ha]at b3;cases b3;cases b6
    ·rw[hT bm e']at b3;cases b3;cases b6
  have hKb:K.In (hidT s₁.heap H):=fun b o e=>base_of (KX b o e) (by
   cases q:H b with
   |none=>rfl
   |some u =>
    rcases hA b (by rw[q];simp)with e'|e'
    ·subst e'
     rw[hK (by rw[q];simp)]at e;cases e
    ·rw[hTK b e']at e;cases e)
  have hM:Mod K mg (hidT s₁.heap H):=⟨hKb,nsK hns,⟨mb,nsK hb,hbb⟩,let ⟨mc,h1,h2⟩:=hlim;⟨mc,nsK h1,h2⟩⟩;have e0:Env0 P w K mg (hidT s₁.heap H) callerA [] s₁ H:=⟨rfl,hM,fun b o e=>QB e,Nat.le_of_eq (WF _ _),trivial,fun b hb=>absurd (show b∈([]:List Addr)from hb) (by simp),hok,.of_eq hg⟩;refine codeAny_mono ((F _ hKb (nsK hns) hBb).run callerA [] s₁ H ⟨[.ref a],[]⟩ [.ref a] [.ref a] _ _ hr e0 (hbind s₁ (.ref a)) (.cons rfl .nil) (hsp H hHT hS)) fun r s' h=>?_;cases r with
  |error e=>exact(hCX H e s' h).elim
  |ok fl =>
   cases fl with
   |next=>exact False.elim h
   |brk=>exact False.elim h
   |cont=>exact False.elim h
   |ret u =>
    obtain⟨v,H',os,bare,un,hok',r',q⟩:=h;have q':v=.bl true:=q;subst q';obtain rfl:u=Value.bool true:=r';refine⟨rfl,⟨fun b o e=>?_,fun b o e=>un.there b o e (by simp)⟩,os,bare⟩;cases q:H b with
    |none=>exact .inl (un.keep b o e q (by intro z;exact absurd (show b∈([]:List Addr)from z) (by simp)) (by simp))
    |some u =>
     rcases hO b with z|⟨ob,xs,z⟩|⟨zm,z⟩
     ·rw[q]at z;cases z
     ·have z2:=un.frzs b ob _ z
      obtain⟨e1,_⟩:=hok b _ z;obtain⟨e2,_⟩:=hok' b _ z2;rw[e]at e1;cases e1;exact .inl e2
     ·obtain⟨more,z2⟩:=un.tbls b _ z
      have e2:s'.heap.get? b=some { cls:=.none,data:=.fields (#[]++more) }:=hok' b _ z2;rw[hT b zm]at e;cases e;exact .inr (.inl ⟨hTc b zm,rfl,#[],more,rfl,e2⟩)
 cases hk:K.lookup a with
 |some o =>
  have e:=KX a o hk;rw[ha]at e;cases e;refine core (fun b=>if b∈Ts then some (.tbl #[])else none) (fun b=>?_) (fun T hT=>if_pos hT) (.inr ⟨_,vs.toArray,_,hk,rfl,rfl,rfl,by rw[ux,lenV];exact hl,by simpa using rv⟩) (fun b u z=>?_) (fun b z=>?_) fun z=>absurd (if_neg nTa) z
  ·by_cases hb:b∈Ts
   ·exact .inr (.inr ⟨hb,if_pos hb⟩)
   ·exact .inl (if_neg hb)
  ·by_cases hb:b∈Ts
   ·have z':=(if_pos hb).symm.trans z
    cases z';exact hT b hb
   ·have z':=(if_neg hb).symm.trans z
    cases z'
  ·by_cases hb:b∈Ts
   ·exact .inr hb
   ·exact absurd (if_neg hb) z
 |none =>
  refine core (fun b=>if b∈Ts then some (.tbl #[])else if b=a then some (.frz { cls:=.type "list",data:=.seq vs.toArray } (.lst (ns.map V.int)))else none) (fun b=>?_) (fun T hT=>if_pos hT) (.inl (.inr ⟨{ cls:=.type "list",data:=.seq vs.toArray },(if_neg nTa).trans (if_pos rfl)⟩)) (fun b u z=>?_) (fun b z=>?_) fun _=>hk
  ·by_cases hb:b∈Ts
   ·exact .inr (.inr ⟨hb,if_pos hb⟩)
   ·by_cases hb2:b=a
    ·exact .inr (.inl ⟨_,_,(if_neg hb).trans (if_pos hb2)⟩)
    ·exact .inl ((if_neg hb).trans (if_neg hb2))
  ·by_cases hb:b∈Ts
   ·have z':=(if_pos hb).symm.trans z
    cases z';exact hT b hb
   ·by_cases hb2:b=a
    ·have z':some (HO.frz { cls:=.type "list",data:=.seq vs.toArray } (.lst (ns.map V.int)))=some u:=((if_neg hb).trans (if_pos hb2)).symm.trans z
     cases z';subst hb2;exact⟨ha,by rw[ua];exact hl,vs,_,rv,ha⟩
    ·have z':none=some u:=((if_neg hb).trans (if_neg hb2)).symm.trans z
     cases z'
  ·by_cases hb:b∈Ts
   ·exact .inr hb
   ·by_cases hb2:b=a
    ·exact .inl hb2
    ·exact absurd ((if_neg hb).trans (if_neg hb2)) z
def wT(K:ub)(Ts:List Addr):Sp:=fun vs H Q _=>∃(a:Addr)(ns:List Int),vs=[.ref a]/\SqL K H a (ns.map V.int)/\ns.length<=63/\(∀T∈Ts,H T=some (.tbl #[]))/\∀H',Q (.bl true) H'
theorem Qz{l:PySem.W.OpenLaw}{k:Nat}(d:DfIn K "law" st)(X:K.In h)(G:h.Ns mainGlobals mg)(hfa:mg "law"=some (.ref fa))
  (hb:∀(kV doc pm:Value)(an:Option Addr)(cdv ct:Value)(s:Shared)(u:Value),BindsTo s (Uh "law" "law" (yk st) (zP st) (zp st) .none kV doc pm an cdv ct) ⟨[u],[]⟩ [("_law_script",u)])
  (ok:∀(base:Heap)(fd:FuncData),BMn mg base->Fun K "law" "law" st fa fd->FnOk l.prog w K mg base CX0 k fa fd ["_law_script"] (wT K Ts)) :
  ∃fd:FuncData,(∀(s:Shared)(u:Value),BindsTo s fd ⟨[u],[]⟩ [("_law_script",u)])/\∀base:Heap,K.In base->base.Ns mainGlobals mg->BMn mg base->FnOk l.prog w K mg base CX0 k fa fd ["_law_script"] (wT K Ts):=by
 obtain⟨fl,al,oc,od,kV,doc,pm,an,cdv,ct,osl,lk,cc,kk⟩:=d;have e:fl=fa:=by
  have:=U7 X G al
  rw[hfa]at this;injection this with this
  injection this with this
  exact this.symm
 subst e;exact⟨_,fun s v=>hb _ _ _ _ _ _ s v,fun base _ _ B=>ok base _ B (VM (st:=st) lk cc kk)⟩
theorem walkTs{l:PySem.W.OpenLaw}{q:Program}{loose:lS}{d:DefRec}{K:Params->ub}{e:∀p,as=(K p).map (·.1)}{k:Nat}(hn:l.most=some 63)(hr:Room k callerA)(hdf:d.params.defaults=[])(hnm:d.name="law")
  (hc:∀p,∀T∈Ts,∃c,Ub (K p) c T=true) (hTK:∀p,∀T∈Ts,(K p).lookup T=none)
  (F:∀(w:World)(mg:Str->Option Value)(fa:Addr)(h:Heap),(K w.params).In h->h.Ns mainGlobals mg->mg "law"=some (.ref fa)->∃fd:FuncData,(∀(s:Shared)(u:Value),BindsTo s fd ⟨[u],[]⟩ [("_law_script",u)])/\∀base:Heap,(K w.params).In base->base.Ns mainGlobals mg->BMn mg base->FnOk l.prog w (K w.params) mg base CX0 k fa fd ["_law_script"] (wT (K w.params) Ts)) :
  PySem.W.WalkO q loose XP (PySem.W.kmHook K as e Ts).says l.row.toRowW d [] (fun f vs=>PySem.call f vs):=by
 refine Att.attach_call hn hdf fun w s₀ s₁ mg mb fa o pm cd doc a vs ns G Y ho hd hcd hmg hobj hints hlen hg=>?_;have KX:=PySem.W.km_in_of Y;have hT:∀T∈Ts,_:=fun T hm=>PySem.W.km_tabs_of Y T hm;obtain⟨fd,hb,hF⟩:=F w mg fa _ KX G.T.g (by rw[hnm]at hmg;exact hmg);have hTc:∀T∈Ts,isCodeTable s₁.heap T:=fun T hm=>by
  obtain⟨c,hc⟩:=hc w.params T hm;obtain⟨o1,vs1,_,_,_,_,_,_,_,c1,c2,c3,c4,_⟩:=PySem.W.codeHd_of_K KX hc;exact⟨c,o1,vs1,c1,c2,c3,c4⟩
 exact XU KX hT (hTK w.params) hTc G.T.g G.T.b G.T.builtins G.T.nolimit G.T.bmain hg hobj hints (uI hlen (by decide)) hr hF hb (fun H hO hS=>⟨a,ns,rfl,hS,hlen,hO,fun _=>rfl⟩) fun _ _ _ z=>z
def QA:List V->Hp->VK->Prop:=fun xs H Q=>∃d kvs,xs=[.ref d]/\H d=some (.dK kvs)/\∀l,H l=none->Q (.ref l) (upd H l (.dK kvs))
theorem jm:xH X (.type "dict") QA:=by
 intro pins s σ H xs us Q I r h;obtain⟨d,kvs,rfl,hd,q⟩:=h;obtain⟨u,rfl,rx⟩:=jt r;cases rx;obtain⟨z,hs,ws,rel,dd⟩:=vP I.hok hd;refine kt_call_dict (knd:=zU X.prog X.w) hs dd (by rw[<- rel.length];exact z) fun h' dn sb=>?_;have hk:∀b o,s.heap.get? b=some o->h'.get? b=some o:=fun b o e=>(sb.2 b (u7 (uB e))).trans (uc _ e);refine⟨.ref s.heap.objs.size,_,I.laid (t':=s.toks) hk (uj _) (show ObjOk X.prog X.w _ h' _ (.dK kvs)from⟨z,?_,ws,rel,dn⟩),rfl,q _ (I.hok.fresh (uj _))⟩
 have:=I.big
 exact beq_eq_false_iff_ne.mpr (fun e=>by rw[e]at this;exact Uw _ this)
theorem Z5:jCa X (.type "dict") QA:=⟨jm⟩
end L2
namespace GN
open PySem L2 K11
theorem TT.Ok.kp{t:TT}{st B:Addr}(h:t.Ok H)(S:Sta K H st B)(k:Kp st H H'):t.Ok H':=by
 obtain⟨a,ns,i,hst,_⟩:=S;have n:∀{b:Addr}{u:HO},H b=some u->(∀xs,u≠.lst xs)->H' b=some u:=fun{b u} e n=>k.k b u (fun z=>by rw[z,hst]at e;exact n _ (uZ.inj e).symm) e;exact h.keep fun a _=>a.keep (fun ps e=>n e (by intro _ z;cases z)) fun c q e=>n e (by intro _ z;unfold CodO at z;cases z)
theorem IsFs.dd{l:List Df}{ps:List Addr}(h:IsFs H l ps):∀d∈l,d.b.Dd:=by
 induction h with
 |nil=>intro d hd;cases hd
 |cons a _ ih =>
  intro d hd;rcases uk.mp hd with rfl|hd
  ·obtain⟨_,_,_,_,h⟩:=a.ex
   exact h.dd
  ·exact ih d hd
theorem OwI.own{od:Addr}(h:OwI H od dfs):∃ow,OwA H od ow (dfs.map (·.z))/\∀d∈dfs,(ow d.z).length=d.ns.length:=by
 obtain⟨kv,ow,h1,_,h2⟩:=h;refine⟨ow,⟨kv,h1,fun f hf=>?_⟩,fun d hd=>?_⟩
 ·obtain⟨d,hd,rfl⟩:=uu.mp hf
  obtain⟨a,e1,e2,_⟩:=h2 d hd;exact⟨a,e1,e2⟩
 ·obtain⟨_,_,_,e⟩:=h2 d hd
  exact e
theorem scLaw:FnScope ["_law_script","_law_state","_law_world_here","_law_program_here","_law_owns_here","_law_name_here","_law_params","_law_truths","_law_body_here","_law_first","_law_others"] ["_law_script"] (zp sLaw):=.ok
theorem WC:(["_law_script","_law_state","_law_world_here","_law_program_here","_law_owns_here","_law_name_here","_law_params","_law_truths","_law_body_here","_law_first","_law_others","_law_param","_law_own"]:lS).Nodup:=by decide +kernel
theorem zdD{t:TT}(F:Fun K "law" "law" sLaw f fd)(GW:Ca P w K mg base CX0 3 "_law_world" ["_law_state"] (spWorld K))(GP:Ca P w K mg base CX0 (8+2*6) "_law_program" lS11 (spProgram K 6))(GO:Ca P w K mg base CX0 (1+6+1) "_law_owns" lS22 (spOwns K 6))(GH:Ca P w K mg base CX0 9 "held" lS28 (spHeld t))(GK:Ca P w K mg base CX0 (3+225) "_law_walk" lS1 (spWalk 225))(m_zip:mg "zip"=none)(m_dict:mg "dict"=none):FnOk P w K mg base CX0 229 f fd ["_law_script"] (wT K [t.t7,t.t6,t.t5,t.t4,t.t2,t.t1,t.t3]):=by
 refine F.by scLaw (fun vs H Q E h=>?_) (fun cdv A outer s H vs Q E hr h=>?_)
 ·obtain⟨a,ns,rfl,_⟩:=h
  rfl
 obtain⟨a,ns,rfl,hS,h63,hTs,q⟩:=h;have hr1:Room 1 _:=hr.mono (by decide);have hr3:Room 3 _:=hr.mono (by decide);have hr8:Room (1+6+1) _:=hr.mono (by decide);have hr9:Room 9 _:=hr.mono (by decide);have hr20:Room (8+2*6) _:=hr.mono (by decide);have hrW:Room (3+225) _:=hr.mono (by decide);refine⟨_,
  (zh (sE 1 scLaw.nd (zD (jA2 (jv 0) zt)))
  (zh (sE 2 scLaw.nd (cA GW hr3 (jA1 (jv 1))))
  (zh (sE 3 scLaw.nd (cA GP hr20 (jA3 (jv 1) (jv 2) zt)))
  (zh (sE 4 scLaw.nd (cA GO hr8 (jA2 (jv 1) (jv 3))))
  (zh (yt PassesOwn.never rfl (yH K (zn K (cA GH hr9 (jA2 (jv 3) (zS Z5 rfl m_dict PyProof.Rows.boot_dict (jA1 (jv 4))))))) (zN K rfl (zu (gN 5 scLaw.nd) (zu (gN 6 scLaw.nd) (zu (gN 7 scLaw.nd) (zu (gN 8 scLaw.nd) zM)))))
   (zh (yx ["_law_param","_law_own"] (i:=9) scLaw.nd rfl (Or.inl rfl) rfl (yI K rfl m_zip (jA2 (jv 6) (yZ hr1 (jv 4) (jv 5)))) (fun _ _ _ _ _=>(zN K (n:=2) rfl (zu (gN 11 WC) (zu (gN 12 WC) zM)))) (fun _ _ _ _ _=>(z5 (yr (jv 12)))) (fun _ _ _ _ _=>(jv 11)))
   (zh (yx ["_law_param","_law_own"] (i:=10) scLaw.nd rfl (Or.inl rfl) rfl (yI K rfl m_zip (jA2 (jv 6) (yZ hr1 (jv 4) (jv 5)))) (fun _ _ _ _ _=>(zN K (n:=2) rfl (zu (gN 11 WC) (zu (gN 12 WC) zM)))) (fun _ _ _ _ _=>(z5 (xn (yr (jv 12))))) (fun _ _ _ _ _=>(jv 11)))
   (zk (zE (xn (yr (cA GK hrW (jA4 (jv 8) (jv 9) (jv 10) (jv 4))))) (zk (zv xk)) zx)))))
  (zk (zv xk))))))),?_⟩
 have sl:=zO;have LM:LIM=4611686018427387904:=rfl;have cb:CB 6=109200:=rfl;have sz:SZ 6=14560:=rfl;refine(zg rfl ⟨sN2,fun st h1=>?_⟩);have S1:Sta K (upd H st (.lst [.ref a,.int ((0:Nat):Int)])) st 0:=by
  refine⟨a,ns,0,uX9,fun e=>?_,(zo h1 _).seq hS,uj _⟩;rcases hS with(h|⟨o,h⟩)|h
  ·exact absurd e (zi h h1)
  ·exact absurd e (zi h h1)
  ·exact fun _=>.inr h
 have em:∀{T ls},T∈[t.t7,t.t6,t.t5,t.t4,t.t2,t.t1,t.t3]->TbG T ls (upd H st (.lst [.ref a,.int ((0:Nat):Int)])):=fun{T ls} m=>.empty (old h1 (hTs T m));have T1:t.Ok (upd H st (.lst [.ref a,.int ((0:Nat):Int)])):=⟨⟨em (by simp),em (by simp)⟩,em (by simp),em (by simp),em (by simp),em (by simp),em (by simp)⟩;show(tSeq _ _:TS) _ _ (upd H st (.lst [.ref a,.int ((0:Nat):Int)]));generalize upd H st (.lst [.ref a,.int ((0:Nat):Int)])=H1 at *;refine(zg rfl ⟨st,0,rfl,S1,by lia,fun H2 w0 o k2 S2 hW=>?_⟩);refine(zq rfl rfl ⟨st,w0,_,4,o,rfl,S2,by lia,hW,by decide,by decide,fun H3 p pk pd p1 p2 t1 t2 ds dfs k3 S3 hp hpk hp1 hp2 _ _ hpd hFs hdl hok hnm=>?_⟩);have wok:=hW.ok;have T3:=(T1.kp S1 k2).kp S2 k3;have hN:(dfs.map (·.z)).Nodup:=by rw[hnm];exact YR
 refine(zq rfl rfl ⟨st,p,pd,.ref pk,ds,dfs,(zg rfl ⟨S3,by lia,hp,hpd,hFs,hdl,(fun d hd=>?_),hN,fun H4 od k4 hOw=>?_⟩)⟩)
 ·obtain⟨⟨f1,f2,f3⟩,_⟩:=hok d hd
  exact⟨f1,by lia,f3⟩
 have T4:=T3.kp S3 k4;have tp34:=k4.tups S3;obtain⟨ow,hO4,hol⟩:=hOw.own;have hp4:=tp34 _ _ hp;have hpd4:=tp34 _ _ hpd;have hF4:=hFs.keep tp34;have dfl:=hF4.len;have hDd:=hF4.dd;clear k2 k3 k4 S1 S2 S3 T1 T3 hW hp1 hp2 hpk hOw hTs hS hFs hpd hp tp34;obtain⟨kv,hod,hov⟩:=id hO4;refine(zq rfl rfl ⟨od,kv,rfl,hod,fun l5 h5=>?_⟩);have s5:=zo (o:=.dK kv) h5;have hO5:OwA (upd H4 l5 (.dK kv)) l5 ow (dfs.map (·.z)):=⟨kv,uX9,fun f hf=>let ⟨b,e1,e2⟩:=hov f hf;⟨b,e1,s5 _ _ e2⟩⟩;have T5:=T4.same s5;generalize upd H4 l5 (.dK kv)=H5 at *;refine⟨p,pd,l5,.ref pk,ds,dfs,ow,dfs.map (·.z),rfl,s5 _ _ hp4,s5 _ _ hpd4,hF4.keep (.of s5),by lia,hO5,fun d hd=>ZR wok hnm hok hol hd,T5,fun H6 r q6 rs k6 T6 hr6 hq6 hA6=>?_⟩;have hO6:OwA H6 od ow (dfs.map (·.z)):=hO4.keep fun b u e n1 _ _=>k6 _ _ (T5.no (s5 _ _ e) n1) (s5 _ _ e);refine ixT hr6 aI1 ⟨q6,rfl,⟨_,SqT.of hq6⟩,xi (xs:=rs.map V.ref) (fun i σ H'=>(∃y1 y2 y3 y4 y5 y6,σ=[sR a,sR st,sR w0,sR p,sR od,y1,y2,y3,y4,y5,y6])/\Same H6 H') ⟨⟨_,_,_,_,_,_,rfl⟩,Same.refl _⟩ (fun i σ H' _ h=>SqT.of (h.2 _ _ hq6)) ?_ ?_⟩
 ·rintro i v σ H7 hv ⟨⟨y1,y2,y3,y4,y5,y6,rfl⟩,s7⟩
  obtain⟨ra,hra,rfl⟩:=L2.gM hv;obtain⟨d,hd,hHF⟩:=All2.get hA6 hra;have hdm:=uw hd;obtain⟨c1,c2,c3,c4⟩:=zdC wok hnm hok hol hdm (hDd d hdm);obtain⟨q1,q2,vb,g1,g2,g3,g4⟩:=hHF.keep (.of s7);have hlen:=hol d hdm;have n3:=(hok d hdm).1.1;have zl:(d.ns.zip (ow d.z)).length=d.ns.length:=by rw[Ue,hlen,tJ]
  have hO7:OwA H7 od ow (dfs.map (·.z)):=hO6.keep fun b u e _ _ _=>s7 _ _ e;obtain⟨kv7,hod7,hov7⟩:=id hO7;obtain⟨ao,ga,hao⟩:=hov7 d.z (UM hdm);have dg:DGet H7 od (kV (.inr d.z)) (some (.ref ao)):=ga ▸ DGet.k hod7;refine cutF fun k_ hk_=>?_;refine⟨_,_,rfl,SqT.of g1,rfl,_,_,rfl,_,_,rfl,_,_,rfl,_,_,rfl,rfl,?_⟩;refine hk_ _ _ ?_;refine Jd fun E_ hE_=>?_;refine(zq rfl rfl (zg rfl ⟨od,.ref ao,rfl,dg,q1,ao,false,false,_,_,rfl,SqK.t g2,SqK.t hao,xP (xs:=d.ns.map V.str) (ys:=(ow d.z).map V.bl) (by rw[ua,ua];exact hlen.symm) (fun j τ zs H'=>Same H7 H'/\(∃u v,τ=[sR a,sR st,sR w0,sR p,sR od,some (.str d.z),sR q1,sR q2,some vb,y5,y6,u,v])/\zs=(((d.ns.zip (ow d.z)).take j).filter (·.2)).map fun p=>V.str p.1) ⟨Same.refl _,⟨none,none,rfl⟩,rfl⟩ (fun j τ zs H' _ h=>⟨SqK.t (h.1 _ _ g2),SqK.t (h.1 _ _ hao)⟩) ?_ ?_⟩))
  ·rintro j v1 v2 T τ zs H3 hv1 hv2 hT ⟨s3,⟨u,v,rfl⟩,rfl⟩
   rw[ug]at hv1 hv2;obtain⟨y,hy,rfl⟩:=ue.mp hv1;obtain⟨e,he,rfl⟩:=ue.mp hv2;rw[wQ (Uc (z:=(y,e)).mpr ⟨hy,he⟩)];refine⟨T,(zg rfl ⟨SqT.of uX9,rfl,_,_,rfl,_,_,rfl,rfl,(zq rfl rfl ?_)⟩)⟩;have hfl:((((d.ns.zip (ow d.z)).take j).filter (·.2)).map fun p=>V.str p.1).length < sizeLine:=by
    rw[ua];refine uQ (um _ _) ?_;rw[uq];lia
   cases e
   ·exact iteF ⟨s3.new hT,⟨_,_,rfl⟩,(u6 _).symm⟩
   ·exact iteT (zg rfl ⟨hfl,s3.new hT,⟨_,_,rfl⟩,rfl⟩)
  rintro τ zs H8 ⟨s8,_,rfl⟩ l9 h9;rw[ua,ur (by lia)];have e9:(((d.ns.zip (ow d.z)).filter (·.2)).map fun p=>V.str p.1)=(upN d.ns (ow d.z)).map V.str:=by
   unfold upN;rw[UB]
   rfl
  rw[e9];have s9:=s8.new (o:=.lst ((upN d.ns (ow d.z)).map V.str)) h9;have hl9:=uX9 (H:=H8) (a:=l9) (o:=.lst ((upN d.ns (ow d.z)).map V.str));show(tSeq _ _:TS) _ _ (upd H8 l9 (.lst ((upN d.ns (ow d.z)).map V.str)));generalize upd H8 l9 (.lst ((upN d.ns (ow d.z)).map V.str))=H9 at *;have dg9:DGet H9 od (kV (.inr d.z)) (some (.ref ao)):=ga ▸ DGet.k (s9 _ _ hod7);refine(zq rfl rfl (zg rfl ⟨od,.ref ao,rfl,dg9,q1,ao,false,false,_,_,rfl,SqK.t (s9 _ _ g2),SqK.t (s9 _ _ hao),xP (xs:=d.ns.map V.str) (ys:=(ow d.z).map V.bl) (by rw[ua,ua];exact hlen.symm) (fun j τ zs H'=>Same H9 H'/\(∃u v,τ=[sR a,sR st,sR w0,sR p,sR od,some (.str d.z),sR q1,sR q2,some vb,sR l9,y6,u,v])/\zs=(((d.ns.zip (ow d.z)).take j).filter fun p=>!p.2).map fun p=>V.str p.1) ⟨Same.refl _,⟨none,none,rfl⟩,rfl⟩ (fun j τ zs H' _ h=>⟨SqK.t (h.1 _ _ (s9 _ _ g2)),SqK.t (h.1 _ _ (s9 _ _ hao))⟩) ?_ ?_⟩))
  ·rintro j v1 v2 T τ zs H3 hv1 hv2 hT ⟨s3,⟨u,v,rfl⟩,rfl⟩
   rw[ug]at hv1 hv2;obtain⟨y,hy,rfl⟩:=ue.mp hv1;obtain⟨e,he,rfl⟩:=ue.mp hv2;rw[wZ (Uc (z:=(y,e)).mpr ⟨hy,he⟩)];refine⟨T,(zg rfl ⟨SqT.of uX9,rfl,_,_,rfl,_,_,rfl,rfl,(zq rfl rfl ?_)⟩)⟩;have hfl:((((d.ns.zip (ow d.z)).take j).filter fun p=>!p.2).map fun p=>V.str p.1).length < sizeLine:=by
    rw[ua];refine uQ (um _ _) ?_;rw[uq];lia
   cases e
   ·exact iteT (zg rfl ⟨hfl,s3.new hT,⟨_,_,rfl⟩,rfl⟩)
   ·exact iteF ⟨s3.new hT,⟨_,_,rfl⟩,(u6 _).symm⟩
  rintro τ zs H10 ⟨s10,_,rfl⟩ l11 h11;rw[ua,ur (by lia)];have e11:(((d.ns.zip (ow d.z)).filter fun p=>!p.2).map fun p=>V.str p.1)=(ltN d.ns (ow d.z)).map V.str:=by
   unfold ltN;rw[UB]
   rfl
  rw[e11];have s11:=s10.new (o:=.lst ((ltN d.ns (ow d.z)).map V.str)) h11;have hl11:=uX9 (H:=H10) (a:=l11) (o:=.lst ((ltN d.ns (ow d.z)).map V.str));generalize upd H10 l11 (.lst ((ltN d.ns (ow d.z)).map V.str))=H11 at *;have s711:=s9.trans s11;subst hE_;exact(zq rfl rfl (zq rfl rfl ⟨_,vb,l9,l11,od,_,_,ow,(zg rfl ⟨⟨g4.keep (.of s711),c1,s11 _ _ hl9,hl11,hO7.keep fun b u e _ _ _=>s711 _ _ e,by lia,c4⟩,c3,fun H12 s12=>(zg rfl (iteF ⟨⟨_,_,_,_,_,_,rfl⟩,(s7.trans s711).trans s12⟩))⟩)⟩))
 ·rintro σ H7 ⟨⟨y1,y2,y3,y4,y5,y6,rfl⟩,s7⟩
  exact q _
structure TopK(K:ub)(cB cP cL:Addr):Prop where
 q9:OwnIn K "Begun" cB
 qh:uV K (.ref cB) "within"=some none
 qi:uV K (.ref cB) "finish"=some none
 qg:uV K (.ref cB) "results"=some none
 q8:OwnIn K "Putter" cP
 ql:uV K (.ref cP) "owns"=some none
 qm:uV K (.ref cP) "bits"=some none
 qn:uV K (.ref cP) "many"=some none
 qaa:OwnIn K "Place" cL
 qs:uV K (.ref cL) "body"=some none
 qt:uV K (.ref cL) "note"=some none
 qo:uV K (.ref cL) "names"=some none
 qab:DcIn K "noted" wV 81
 qu:DcIn K "begun_note" yR 86
 qW:DcIn K "held_def" wG 129
 qp:DcIn K "begun_place" xW 197
 qq:DcIn K "begun_piece" xu 202
 qJ:DcIn K "begun_let" vo 207
 qv:DcIn K "begun_case" wI 219
 hc1:Ub K 81 77=true
 hc2:Ub K 86 84=true
 hc3:Ub K 129 127=true
 hc4:Ub K 197 195=true
 hc5:Ub K 202 200=true
 hc6:Ub K 207 205=true
 hc7:Ub K 219 217=true
 q4:DfIn K "ways_on" Jk
 qac:DfIn K "bound" Xt
 qd:MeIn K cB "__init__" "Begun.__init__" Xu
 qX:DfIn K "only_one" Jl
 qw:DfIn K "worked_out" Zp
 q5:DfIn K "bits_of" Jm
 qY:DfIn K "together" sTog
 qZ:DfIn K "names_of" vR
 qx:DfIn K "names_used" wj
 q6:DfIn K "note_of" Zq
 qa:MeIn K cP "new_name" "Putter.new_name" vT
 qb:MeIn K cP "is_ahead" "Putter.is_ahead" vU
 qj:MeIn K cP "spent" "Putter.spent" XA
 qy:DfIn K "with_drops" XB
 qz:DfIn K "with_holds" XC
 qA:DfIn K "with_names" Jn
 q7:DfIn K "used_up" Zu
 qK:DfIn K "held_deed" wW
 qe:MeIn K cL "__init__" "Place.__init__" Zv
 qc:MeIn K cP "__init__" "Putter.__init__" Zw
 qL:DfIn K "held_arms" wX
 qaf:DfIn K "held" Js
 qM:DfIn K "_law_draw" Jo
 qN:DfIn K "_law_name" sNm
 qB:DfIn K "_law_sorts" Xv
 qC:DfIn K "_law_world" Xw
 qD:DfIn K "_law_kinds" Xx
 qO:DfIn K "_law_pick" Jp
 qE:DfIn K "_law_picks" Xy
 qr:DfIn K "_law_handed" Zr
 qP:DfIn K "_law_deed" Jq
 qF:DfIn K "_law_rooms" Xz
 qQ:DfIn K "_law_case" Jr
 qR:DfIn K "_law_body" Wd
 q0:DfIn K "_law_def" sDef
 qk:DfIn K "_law_program" vS
 qG:DfIn K "_law_named" vp
 qS:DfIn K "_law_owns" XD
 q1:DfIn K "_law_ups" Jt
 qf:DfIn K "_law_deed_uses" wm
 qT:DfIn K "_law_uses" Zs
 qH:DfIn K "_law_lends" Zx
 qI:DfIn K "_law_after" Zt
 qU:DfIn K "_law_goes" XE
 q2:DfIn K "_law_few" Ju
 qV:DfIn K "_law_walk" Zy
 qai:DfIn K "law" sLaw
 qaj:UJ K mainGlobals "len"=some none
 qad:UJ K mainGlobals "range"=some none
 qag:UJ K mainGlobals "list"=some none
 qae:UJ K mainGlobals "tuple"=some none
 qak:UJ K mainGlobals "zip"=some none
 qal:UJ K mainGlobals "max"=some none
 q3:UJ K mainGlobals "reversed"=some none
 qah:UJ K mainGlobals "dict"=some none
theorem top_ok{l:PySem.W.OpenLaw}(T:TopK K cB cP cL)(X:K.In h)(G:h.Ns mainGlobals mg)(hfa:mg "law"=some (.ref fa)):
  ∃fd:FuncData,(∀(s:Shared)(u:Value),BindsTo s fd ⟨[u],[]⟩ [("_law_script",u)])/\∀base:Heap,K.In base->base.Ns mainGlobals mg->BMn mg base->FnOk l.prog w K mg base CX0 229 fa fd ["_law_script"] (wT K [217,205,200,195,84,77,127]):=by
 refine Qz T.qai X G hfa (fun _ _ _ _ _ _ s v=>.of_eq rfl) fun base fd hBM FL=>?_;have qaj:mg "len"=none:=UK X G T.qaj;have qad:mg "range"=none:=UK X G T.qad;have qag:mg "list"=none:=UK X G T.qag;have qae:mg "tuple"=none:=UK X G T.qae;have qak:mg "zip"=none:=UK X G T.qak;have qal:mg "max"=none:=UK X G T.qal;have q3:mg "reversed"=none:=UK X G T.q3;have qah:mg "dict"=none:=UK X G T.qah;have n_Begun:mg "Begun"=some (.ref cB):=U7 X G T.q9.n;have n_Putter:mg "Putter"=some (.ref cP):=U7 X G T.q8.n;have n_Place:mg "Place"=some (.ref cL):=U7 X G T.qaa.n;have BN:Bn K cB:=⟨T.q9.cls,T.qh,T.qi,T.qg⟩;have PN:Pn K cP:=⟨T.q8.cls,T.ql,T.qm,T.qn⟩;have LN0:Ln K cL:=⟨T.qaa.cls,T.qs,T.qt,T.qo⟩;have G1:=DfIn.ca (P:=l.prog) (w:=w) (base:=base) X G T.q4 (ps:=["body"]) (fun _ _ _ _ _ _=>us1 fun _=>rfl) fun f fd F=>zaB F;have G2:=DfIn.ca X G T.qac (ps:=["one"]) (fun _ _ _ _ _ _=>us1 fun _=>rfl) fun f fd F=>J2 F G1 qaj q3 qag;have GB:=T.qd.ma (P:=l.prog) (w:=w) (mg:=mg) (base:=base) (x:="Begun") (ps:=lS21) (fun _ _ _ _ _ _=>us3 fun _ _ _=>rfl) T.q9.mks T.q9.kp n_Begun fun f fd F=>JH F BN;have GO:=DfIn.ca (P:=l.prog) (w:=w) (base:=base) X G T.qX (ps:=["results"]) (fun _ _ _ _ _ _=>us1 fun _=>rfl) fun f fd F=>zaF F;obtain⟨fo,fdo,GO1,GO2,GO3,GO4⟩:=GO.ex;have GW4:=DfIn.ca (P:=l.prog) (w:=w) (base:=base) X G T.qw (ps:=lS26) (fun _ _ _ _ _ _=>us2 fun _ _=>rfl) fun f fd F=>jU (k:=4) F BN GB GO1 GO2 GO3 GO4 qaj (by decide);have GW6:=DfIn.ca (P:=l.prog) (w:=w) (base:=base) X G T.qw (ps:=lS26) (fun _ _ _ _ _ _=>us2 fun _ _=>rfl) fun f fd F=>jU (k:=6) F BN GB GO1 GO2 GO3 GO4 qaj (by decide);have GBi:=DfIn.ca (P:=l.prog) (w:=w) (base:=base) X G T.q5 (ps:=["names"]) (fun _ _ _ _ _ _=>us1 fun _=>rfl) fun f fd F=>zaI F;have GT:=DfIn.ca (P:=l.prog) (w:=w) (base:=base) X G T.qY (ps:=["names","bits"]) (fun _ _ _ _ _ _=>us2 fun _ _=>rfl) fun f fd F=>zc6 F;have GNo:=DfIn.ca (P:=l.prog) (w:=w) (base:=base) X G T.qZ (ps:=["deed"]) (fun _ _ _ _ _ _=>us1 fun _=>rfl) fun f fd F=>XJ F;have GU:=DfIn.ca X G T.qx (ps:=["body"]) (fun _ _ _ _ _ _=>us1 fun _=>rfl) fun f fd F=>zaJ F GNo;have GNt:=DfIn.ca X G T.q6 (ps:=lS16) (fun _ _ _ _ _ _=>us4 fun _ _ _ _=>rfl) fun f fd F=>W9 F GT GU qak;have GBn:=DcIn.ca (P:=l.prog) (w:=w) (base:=base) X G T.qu (ps:=lS19) (fun _ _ _ _ _=>us2 fun _ _=>rfl) fun f fd F=>XL F hBM T.hc2 G1;have GNd:=DcIn.ca (P:=l.prog) (w:=w) (base:=base) X G T.qab (ps:=lS19) (fun _ _ _ _ _=>us2 fun _ _=>rfl) fun f fd F=>JS F hBM T.hc1 (by decide) GBn GNt GW4;have MN:=T.qa.me (P:=l.prog) (w:=w) (mg:=mg) (base:=base) (ps:=["self","name"]) (fun _ _ _ _ _ _=>us2 fun _ _=>rfl) fun f fd F=>zdc F PN;have MA:=T.qb.me (P:=l.prog) (w:=w) (mg:=mg) (base:=base) (ps:=lS20) (fun _ _ _ _ _ _=>us3 fun _ _ _=>rfl) fun f fd F=>zdd F PN;have MS:=T.qj.me (P:=l.prog) (w:=w) (mg:=mg) (base:=base) (ps:=lS24) (fun _ _ _ _ _ _=>us3 fun _ _ _=>rfl) fun f fd F=>JX F PN MN;have GDr:=DfIn.ca (P:=l.prog) (w:=w) (base:=base) X G T.qy (ps:=["names","body"]) (fun _ _ _ _ _ _=>us2 fun _ _=>rfl) fun f fd F=>JY F q3;have GHo:=DfIn.ca (P:=l.prog) (w:=w) (base:=base) X G T.qz (ps:=["pairs","body"]) (fun _ _ _ _ _ _=>us2 fun _ _=>rfl) fun f fd F=>JZ F q3;have GWn:=DfIn.ca (P:=l.prog) (w:=w) (base:=base) X G T.qA (ps:=["deed","names"]) (fun _ _ _ _ _ _=>us2 fun _ _=>rfl) fun f fd F=>zaV F qae;have GUu:=DfIn.ca X G T.q7 (ps:=["deed","owns"]) (fun _ _ _ _ _ _=>us2 fun _ _=>rfl) fun f fd F=>Ve F GNo qae;have GHd:=DfIn.ca X G T.qK (ps:=lS27) (fun _ _ _ _ _ _=>us3 fun _ _ _=>rfl) fun f fd F=>YK F GNo GWn qak;have GPl:=T.qe.ma (P:=l.prog) (w:=w) (mg:=mg) (base:=base) (x:="Place") (ps:=lS7) (fun _ _ _ _ _ _=>us4 fun _ _ _ _=>rfl) T.qaa.mks T.qaa.kp n_Place fun f fd F=>Vg F LN0;have GPu:=T.qc.ma (P:=l.prog) (w:=w) (mg:=mg) (base:=base) (x:="Putter") (ps:=lS25) (fun _ _ _ _ _ _=>us3 fun _ _ _=>rfl) T.q8.mks T.q8.kp n_Putter fun f fd F=>Vh F PN GBi G2;have GAr:=DfIn.ca (P:=l.prog) (w:=w) (base:=base) X G T.qL (ps:=lS23) (fun _ _ _ _ _ _=>us3 fun _ _ _=>rfl) fun f fd F=>YL F qae qak;have GBp:∀Y:HX,XOk Y->Y.cP=cP->Y.cL=cL->Y.T4=195->Y.T5=200->Y.T6=205->Y.T7=217->Ca l.prog w K mg base CX0 5 "begun_place" lS3 (spBegPl l.prog w K mg base Y):=by
  rintro⟨y1,y2,pu,dx,od,bd,x4,x5,x6,x7,y3,y4,y5⟩ x0 e1 e2 e4 e5 e6 e7;dsimp only at e1 e2 e4 e5 e6 e7
  subst e1 e2 e4 e5 e6 e7;have GLt:=DcIn.ca (P:=l.prog) (w:=w) (base:=base) X G T.qJ (ps:=lS3) (fun _ _ _ _ _=>us2 fun _ _=>rfl) fun f fd F=>Vi F hBM T.hc6 x0 PN LN0 GUu GNo MA MS GHd GPl GHo qak;have GCs:=DcIn.ca (P:=l.prog) (w:=w) (base:=base) X G T.qv (ps:=lS3) (fun _ _ _ _ _=>us2 fun _ _=>rfl) fun f fd F=>XO F hBM T.hc7 x0 PN LN0 MA GPl GAr qak qag;have GPi:=DcIn.ca (P:=l.prog) (w:=w) (base:=base) X G T.qq (ps:=lS3) (fun _ _ _ _ _=>us2 fun _ _=>rfl) fun f fd F=>YN F hBM T.hc5 x0 PN LN0 GLt GCs MS GPl GHo qak qae;exact DcIn.ca (P:=l.prog) (w:=w) (base:=base) X G T.qp (ps:=lS3) (fun _ _ _ _ _=>us2 fun _ _=>rfl) fun f fd F=>YO F hBM T.hc4 x0 PN LN0 MA GPi GPl GDr
 have GHf:=DcIn.ca (P:=l.prog) (w:=w) (base:=base) X G T.qW (ps:=["one","owns"]) (fun _ _ _ _ _=>us2 fun _ _=>rfl) fun f fd F=>XQ (t:=⟨77,84,127,195,200,205,217⟩) F hBM T.hc3 (by decide) PN LN0 GPu GPl GNd GW6 GBp qak qae;have GHe:=DfIn.ca (P:=l.prog) (w:=w) (base:=base) X G T.qaf (ps:=lS28) (fun _ _ _ _ _ _=>us2 fun _ _=>rfl) fun f fd F=>za0 F GHf qae;have LD:=DfIn.ca (P:=l.prog) (w:=w) (base:=base) X G T.qM (ps:=lS5) (fun _ _ _ _ _ _=>us2 fun _ _=>rfl) fun f fd F=>zaq F qaj;have LN:=DfIn.ca (P:=l.prog) (w:=w) (base:=base) X G T.qN (ps:=lS14) (fun _ _ _ _ _ _=>us2 fun _ _=>rfl) fun f fd F=>zdY F;have LS:=DfIn.ca X G T.qB (ps:=lS13) (fun _ _ _ _ _ _=>us3 fun _ _ _=>rfl) fun f fd F=>Jw F LD qad;have LW:=DfIn.ca X G T.qC (ps:=["_law_state"]) (fun _ _ _ _ _ _=>us1 fun _=>rfl) fun f fd F=>Jy F LD LN LS qad;have LK:=DfIn.ca (P:=l.prog) (w:=w) (base:=base) X G T.qD (ps:=["_law_world_here"]) (fun _ _ _ _ _ _=>us1 fun _=>rfl) fun f fd F=>JD F qaj qae;have LP:=DfIn.ca X G T.qO (ps:=lS8) (fun _ _ _ _ _ _=>us3 fun _ _ _=>rfl) fun f fd F=>zat F LD qaj;have LQ:=DfIn.ca X G T.qE (ps:=lS9) (fun _ _ _ _ _ _=>us3 fun _ _ _=>rfl) fun f fd F=>Jz F LP qae;have LH:=DfIn.ca X G T.qr (ps:=lS18) (fun _ _ _ _ _ _=>us3 fun _ _ _=>rfl) fun f fd F=>WY F LD LQ qaj qad qal;have LE:=DfIn.ca X G T.qP (ps:=lS10) (fun _ _ _ _ _ _=>us4 fun _ _ _ _=>rfl) fun f fd F=>zaw F LD LP LQ LH;have LR:=DfIn.ca X G T.qF (ps:=lS15) (fun _ _ _ _ _ _=>us3 fun _ _ _=>rfl) fun f fd F=>JB F LD qad;have LB:∀n:Nat,Ca l.prog w K mg base CX0 (6+2*n) "_law_body" lS0 (spBody K n):=by
  intro n
  induction n with
  |zero=>exact DfIn.ca (P:=l.prog) (w:=w) (base:=base) X G T.qR (ps:=lS0) (fun _ _ _ _ _ _=>us6 fun _ _ _ _ _ _=>rfl) fun f fd F=>JC F
  |succ n ih =>
   have LC:=DfIn.ca (P:=l.prog) (w:=w) (base:=base) X G T.qQ (ps:=lS0) (fun _ _ _ _ _ _=>us6 fun _ _ _ _ _ _=>rfl) fun f fd F=>zaz (n:=n) F LD LN LP LR ih qaj qad qak qag qae;exact DfIn.ca (P:=l.prog) (w:=w) (base:=base) X G T.qR (ps:=lS0) (fun _ _ _ _ _ _=>us6 fun _ _ _ _ _ _=>rfl) fun f fd F=>zaA F LD LN LP LR LE LC ih
 have LF:=DfIn.ca X G T.q0 (ps:=lS12) (fun _ _ _ _ _ _=>us4 fun _ _ _ _=>rfl) fun f fd F=>zc1 F LN (LB 6) qaj qad qak qag qae;have LG:=DfIn.ca X G T.qk (ps:=lS11) (fun _ _ _ _ _ _=>us3 fun _ _ _=>rfl) fun f fd F=>XH F LK LF qad qae;have LNa:∀n:Nat,Ca l.prog w K mg base CX0 (1+n) "_law_named" ["_law_body_here"] (spNamed n):=by
  intro n
  induction n with
  |zero=>exact DfIn.ca (P:=l.prog) (w:=w) (base:=base) X G T.qG (ps:=["_law_body_here"]) (fun _ _ _ _ _ _=>us1 fun _=>rfl) fun f fd F=>Vk F
  |succ n ih=>exact DfIn.ca (P:=l.prog) (w:=w) (base:=base) X G T.qG (ps:=["_law_body_here"]) (fun _ _ _ _ _ _=>us1 fun _=>rfl) fun f fd F=>Qa F ih
 have LOw:=DfIn.ca X G T.qS (ps:=lS22) (fun _ _ _ _ _ _=>us2 fun _ _=>rfl) fun f fd F=>Qc F LD (LNa 6) qae;have LUp:=DfIn.ca (P:=l.prog) (w:=w) (base:=base) X G T.q1 (ps:=lS2) (fun _ _ _ _ _ _=>us2 fun _ _=>rfl) fun f fd F=>za2 F qag qak;have LDu:=DfIn.ca (P:=l.prog) (w:=w) (base:=base) X G T.qf (ps:=["_law_deed_here"]) (fun _ _ _ _ _ _=>us1 fun _=>rfl) fun f fd F=>Qj F qag;have LUs:∀n:Nat,Ca l.prog w K mg base CX0 (1+n) "_law_uses" ["_law_body_here"] (spUses n):=by
  intro n
  induction n with
  |zero=>exact DfIn.ca (P:=l.prog) (w:=w) (base:=base) X G T.qT (ps:=["_law_body_here"]) (fun _ _ _ _ _ _=>us1 fun _=>rfl) fun f fd F=>Qo F
  |succ n ih=>exact DfIn.ca (P:=l.prog) (w:=w) (base:=base) X G T.qT (ps:=["_law_body_here"]) (fun _ _ _ _ _ _=>us1 fun _=>rfl) fun f fd F=>za6 F ih LDu
 have LLe:=DfIn.ca (P:=l.prog) (w:=w) (base:=base) X G T.qH (ps:=lS2) (fun _ _ _ _ _ _=>us2 fun _ _=>rfl) fun f fd F=>Vm F qak;have LLf:=DfIn.ca X G T.qI (ps:=lS17) (fun _ _ _ _ _ _=>us3 fun _ _ _=>rfl) fun f fd F=>Qq F LUp;have LFe:∀n:Nat,Ca l.prog w K mg base CX0 (1+n+1+1) "_law_few" lS6 (spFew n):=fun n=>DfIn.ca (P:=l.prog) (w:=w) (base:=base) X G T.q2 (ps:=lS6) (fun _ _ _ _ _ _=>us4 fun _ _ _ _=>rfl) fun f fd F=>zdB F (DfIn.ca (P:=l.prog) (w:=w) (base:=base) X G T.qU (ps:=lS4) (fun _ _ _ _ _ _=>us4 fun _ _ _ _=>rfl) fun f fd F=>za8 F (LUs n)) LUp LLe qaj;have LWk:∀n:Nat,Ca l.prog w K mg base CX0 (3+n) "_law_walk" lS1 (spWalk n):=by
  intro n
  induction n with
  |zero=>exact DfIn.ca (P:=l.prog) (w:=w) (base:=base) X G T.qV (ps:=lS1) (fun _ _ _ _ _ _=>us4 fun _ _ _ _=>rfl) fun f fd F=>Qx F
  |succ n ih=>exact DfIn.ca (P:=l.prog) (w:=w) (base:=base) X G T.qV (ps:=lS1) (fun _ _ _ _ _ _=>us4 fun _ _ _ _=>rfl) fun f fd F=>zbg F ih LLf (LFe n) qag
 exact zdD (t:=⟨77,84,127,195,200,205,217⟩) FL LW LG LOw GHe (LWk 225) qak qah
end GN
namespace PySem.W.Fast
def tw9933457711992281552:=()
def tw17587988202454699355:=()
def tw2461302152540836789:=()
def tw16405490048969272156:=()
def tw11340486172074787297:=()
def tw1207929952267036260:=()
def tw13327226789860687026:=()
def tw6130980080894029179:=()
def tw12518328131660485020:=()
def tw15283491197756688044:=()
def tw11278526175999789429:=()
def tw6936964693642083915:=()
def tw932471913539928001:=()
def tw15960067278579160442:=()
def tw10317285767671333293:=()
def tw14637137968055880033:=()
def tw702574869077729012:=()
def tw17467242556885238457:=()
def tw14288919775523827732:=()
def tw9496986979519369363:=()
def tw14093826017995550374:=()
def tw1907731842806836887:=()
def tw3538879914041804358:=()
def tw4980693580428607310:=()
def tw4970654470581663405:=()
def tw12665498387537961772:=()
def tw7999965331621338463:=()
def tw13427478462933309157:=()
def tw16879565760143548499:=()
def tw5130631159403120934:=()
def tw10775620804604003826:=()
def tw12421449305505749738:=()
def tw2677782299730714008:=()
def tw3741351061177953486:=()
def tw8108985753366674822:=()
def tw7820810810621559302:=()
def tw1830360635321544485:=()
def tw5681988521031437244:=()
def tw10135902816264280476:=()
def tw9043627831379332535:=()
def tw15779110877704854675:=()
def tw2198364661815099838:=()
def tw10841927253853499257:=()
def tw11544975450344509010:=()
def tw8243179254587323781:=()
def tw18318955361847537937:=()
def tw8510548357309462542:=()
def tw10149217508381664693:=()
def tw8366028589288222706:=()
def tw10873166659510919029:=()
def tw13797453639617973477:=()
def tw13561370738361966951:=()
def tw4417817927815799390:=()
def tw14266997096518420394:=()
def tw18005591357766465555:=()
def tw6053142083450465617:=()
def tw14380436028446048493:=()
def tw7389686964033460226:=()
def tw1817904735324674609:=()
def tw2965454646741288027:=()
def tw1625045105741403993:=()
def tw3288014235072607376:=()
def tw17722050263026197194:=()
def tw2816739855560802813:=()
def tw17182584767916666286:=()
def tw8750840707170910481:=()
def tw953848588421559168:=()
def tw3895769279604400956:=()
def tw5113974215850349459:=()
def tw11865001134086693508:=()
def tw1590970265352362168:=()
def tw15553012283939651623:=()
def tw7614822060728469173:=()
def tw3381916278377120199:=()
def tw3927848535088456485:=()
def tw6888462044757275845:=()
def tw17959394181383845028:=()
def tw16252913400941588766:=()
def tw655430655236472092:=()
def tw10822589319458937321:=()
def tw7100877292671769467:=()
def tw10387158843431910322:=()
def tw13109883211911208441:=()
def tw13670361909371619912:=()
def tw18122108861888832056:=()
def tw14396551268556275424:=()
def tw18071888742274407869:=()
def tw9750371270263278932:=()
def tw11063194632444140158:=()
def tw7095027139282680656:=()
def tw943904232778464613:=()
def tw14881974379216843715:=()
def tw1842819551982902308:=()
def tw4773874326466610899:=()
def tw15288819101910878669:=()
def tw14162736621076318479:=()
def tw17175731889455653386:=()
def tw1082578296808907101:=()
def tw15286604290129313177:=()
def tw12455450637019240382:=()
def tw5902493703565399989:=()
def tw10548545484652502852:=()
def tw9411683798730299521:=()
def tw11877589052616266114:=()
def tw200165656649519214:=()
def tw4081604535887339660:=()
def tw5918974124638747709:=()
def tw4286728077043731598:=()
def tw10088420256288608814:=()
def tw18034943797037763155:=()
def tw10673118540709617299:=()
def tw4659683472324312344:=()
def tw10640688914497958796:=()
def tw11279354896875952676:=()
def tw16357620368523839171:=()
def tw9277217277275978775:=()
def tw5902444235090623801:=()
def tw17083328724050071712:=()
def tw9896013404585611319:=()
def tw18335699726710330058:=()
def tw12313634513964132756:=()
def tw18389583826873723378:=()
def tw15085053203479215334:=()
def tw2247911698869289472:=()
def tw9055158141750869959:=()
def tw6944289636821342595:=()
def tw7507212964029757806:=()
def tw15267771803939596268:=()
def tw14302071718731548344:=()
def tw5943786371770226321:=()
def tw3205370977082185875:=()
def tw15862329031150707623:=()
def tw4614186759715607907:=()
def tw1735461972341802898:=()
def tw1965994506116149892:=()
def tw1335100018433406188:=()
def tw3154298403067903162:=()
def tw14594131543113401445:=()
def tw4211766931710812240:=()
def tw15837365970486309947:=()
def tw1820458939160308741:=()
def tw15386619373226407635:=()
def tw785309388867039874:=()
def tw12826932829330367564:=()
def tw14904724420368455907:=()
def tw5283107020644140548:=()
def tw7212959918322953092:=()
def tw17783213890675504343:=()
def tw7667588351290290215:=()
def tw18234933615944760585:=()
def tw16074000205774074294:=()
def tw14496927232311019894:=()
def tw13515971060904045311:=()
def tw1244520067271128002:=()
def tw17829719580207417036:=()
def tw17126113902770520707:=()
def tw7915536115624023532:=()
def tw4542724409260982856:=()
def tw18041584709843487799:=()
def tw3401256247795774329:=()
def tw1802930851289991971:=()
def tw6202142410274324200:=()
def tw2014931540467950365:=()
def tw6694255697869677728:=()
def tw6003811541970623346:=()
def tw6796976202410379083:=()
def tw8555440799815628822:=()
def tw9515359866097965872:=()
def tw17210979857480561657:=()
def tw5018179797714695739:=()
def tw12582263499300326935:=()
def tw3172173071141096795:=()
def tw8181839816545531155:=()
def tw16284450977471709567:=()
def tw17021290966216360474:=()
def tw10127956892997204232:=()
def tw10000760170483602877:=()
def tw7635988392621753533:=()
def tw5819121403572257605:=()
def tw6053407331653787716:=()
def tw7639166132141068968:=()
def tw4852250973559216989:=()
def tw13402352940370260325:=()
def tw3228432140348461025:=()
def tw6146115060304100269:=()
def tw6849347087304798628:=()
def tw4594942498855325596:=()
def tw4406375760533650811:=()
def tw4553936987064163084:=()
def tw7887227023970261451:=()
def tw11090353955038519082:=()
def tw4201324278868743507:=()
def tw11011763512977550507:=()
def tw16019561305579739084:=()
def tw13639918908797120789:=()
def tw8530648006078485019:=()
def tw10432006027646351647:=()
def tw13681485358828499498:=()
def tw759489285945179556:=()
def tw12264913474710989564:=()
def tw3876405694573237089:=()
def tw14838508671738951602:=()
def tw16623265685758312679:=()
def tw16212680685034838635:=()
def tw5918206562789924483:=()
def tw2048792411934438919:=()
def tw8936875329091093413:=()
def tw6786351045538972453:=()
def tw6660825470490830224:=()
def tw4437475938375847256:=()
def tw14283120223108333081:=()
def tw3542891845805873321:=()
def tw4896644772732166190:=()
def tw7954677898604581369:=()
def tw16624648119812506263:=()
def tw10092285169108753916:=()
def tw14864656693517626321:=()
def tw13009050130651132956:=()
def tw9943254567331204922:=()
def tw13179294358816156275:=()
def tw8587186004836392896:=()
def tw17011056097468860299:=()
def tw501089917621128173:=()
def tw9857051589952993135:=()
def tw3846228419345173608:=()
def tw9472106294649088994:=()
def tw2338834160414751084:=()
def tw17699810902303260500:=()
def tw5558750743081686688:=()
def tw18084079949988934681:=()
def tw2211295741941256578:=()
def tw3151688801129356189:=()
def tw10488716403107520767:=()
def tw7937935546499299587:=()
def tw2635829911816758855:=()
def tw1143705575333555432:=()
def tw14877784170038524032:=()
def tw912690512190903248:=()
def tw9666632996876032483:=()
def tw17793889805416560218:=()
def tw5508302358875895012:=()
def tw17910339997783382614:=()
def tw16743262869243598880:=()
def tw8117924578061177208:=()
def tw13775910935761640854:=()
def tw7914523022875777270:=()
def tw3395803290249042301:=()
def tw7748123098913823327:=()
end PySem.W.Fast
open PySem PySem.W PyProof.Rows
set_option maxRecDepth 100000 in
set_option maxHeartbeats 0 in
theorem PySem.Challenge.cw_reusewise_k47_held_late_and_few_holds : PySem.Challenge.rw_reusewise_k47_held_late_and_few.Holds := by
 w_on;o_law;k_head;(case hw=>w_witness2)
 k_fill
 refine L2.walkTs (l:=PySem.Challenge.rw_reusewise_k47_held_late_and_few) (k:=229) (Ts:=[217,205,200,195,84,77,127]) rfl ⟨rfl,by decide,by decide⟩ rfl rfl (fun p T hT=>by
  simp only[uk,Up,or_false]at hT
  rcases hT with rfl|rfl|rfl|rfl|rfl|rfl|rfl
  ·exact⟨219,rfl⟩
  ·exact⟨207,rfl⟩
  ·exact⟨202,rfl⟩
  ·exact⟨197,rfl⟩
  ·exact⟨86,rfl⟩
  ·exact⟨81,rfl⟩
  ·exact⟨129,rfl⟩
  ) (fun p T hT=>by
  simp only[uk,Up,or_false]at hT
  rcases hT with rfl|rfl|rfl|rfl|rfl|rfl|rfl
  ·exact rfl
  ·exact rfl
  ·exact rfl
  ·exact rfl
  ·exact rfl
  ·exact rfl
  ·exact rfl
  ) ?F
 case F =>
  intro w mg fa h KX G hm
  refine' GN.top_ok (GN.TopK.mk ?q9 ?qh ?qi ?qg ?q8 ?ql ?qm ?qn ?qaa ?qs ?qt ?qo ?qab ?qu ?qW ?qp ?qq ?qJ ?qv ?hc1 ?hc2 ?hc3 ?hc4 ?hc5 ?hc6 ?hc7 ?q4 ?qac ?qd ?qX ?qw ?q5 ?qY ?qZ ?qx ?q6 ?qa ?qb ?qj ?qy ?qz ?qA ?q7 ?qK ?qe ?qc ?qL ?qaf ?qM ?qN ?qB ?qC ?qD ?qO ?qE ?qr ?qP ?qF ?qQ ?qR ?q0 ?qk ?qG ?qS ?q1 ?qf ?qT ?qH ?qI ?qU ?q2 ?qV ?qai ?qaj ?qad ?qag ?qae ?qak ?qal ?q3 ?qah) KX G hm
  (case q9|q8|qaa=>(refine' L2.OwnIn.mk ?n ?pg ?hd ?po ?sa ?mks ?kp;(case n=>k_is);(case pg=>k_is);(case hd=>k_is);(case po=>k_is);(case sa=>k_is);(case mks=>k_is);(case kp=>k_is)))
  (case qh|qi|qg|ql|qm|qn|qs|qt|qo|qaj|qad|qag|qae|qak|qal|q3|qah=>k_is)
  (case qab|qu|qW|qp|qq|qJ|qv=>(refine' L2.DcIn.mk ?a ?l ?c ?k;(case a=>k_is);(case l=>k_is);(case c=>k_is);(case k=>k_is)))
  (case hc1|hc2|hc3|hc4|hc5|hc6|hc7=>(exact rfl))
  (case q4|qac|qX|qw|q5|qY|qZ|qx|q6|qy|qz|qA|q7|qK|qL|qaf|qM|qN|qB|qC|qD|qO|qE|qr|qP|qF|qQ|qR|q0|qk|qG|qS|q1|qf|qT|qH|qI|qU|q2|qV|qai=>(refine' L2.DfIn.mk ?a ?l ?c ?k;(case a=>k_is);(case l=>k_is);(case c=>k_is);(case k=>k_is)))
  (case qd|qa|qb|qj|qe|qc=>(refine' L2.MeIn.mk ?a ?l ?c ?k ?n;(case a=>k_is);(case l=>k_is);(case c=>k_is);(case k=>k_is);(case n=>k_is)))
#print axioms PySem.Challenge.cw_reusewise_k47_held_late_and_few_holds
