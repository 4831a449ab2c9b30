import PyProof.Rows.All
import Wide.All
import OpenK.AllK
import Wide.FinOn
import Lean
import PyProof.EqAt
import PyProof.EqKinds
import PyProof.TupleCall
import PyProof.PassesOwn
import PyProof.StationsW
import OpenK.KCls
import PyProof.ExcAttrAll.ValueError
import PyProof.ExcClass3
import PyProof.WalksEnum
import PyProof.EnumMake
import PyProof.EnumFor
import PyProof.EnumStmt
import PyProof.MeetsStr
import PyProof.StrLawsTight
import PyProof.NeKinds
import PyProof.Rows.SumAny
import PyProof.SeqI3
import PyProof.ZipIter
import PyProof.WalksMore
import PyProof.ListNew
import KE.KLam
import KE.KNestM
import KE.KRevIter
import PyProof.AutoSeq1
import PyProof.FactsAll.list
import PyProof.IsRules
import KE.KItemsList
import PyProof.StrBlockL
import PyProof.StrBlockI
import PyProof.StrBlock2
import PyProof.StrLawsIn
import PyProof.StrLawsChain
import PyProof.Rows.StrLast
import PyProof.Rows.StrItems
import KE.IntTextText
import KE.KDictList
import PyProof.Rows.BitMore
import KE.KIntText
import PyProof.IsiTupleOf
import KE.KDictSum
import PyProof.Rows.SortWalk
import PyProof.FString
import KE.KSortTup
import KE.KFind
import PyProof.WalkInts
import KE.KDictOf
import PySem.Challenge.RW_reusewise_k49_whole_every_way_pays
abbrev VSP:=PySem.Value->PySem.Shared->Prop
set_option Elab.async false
set_option linter.all false
set_option maxRecDepth 100000
set_option maxHeartbeats 4000000
open List renaming length_map → ub, getElem?_eq_some_iff → ud, length_append → uf, getElem?_map → uh, getElem?_eq_getElem → ui, mem_singleton → uk, length_cons → um, take_of_length_le → uo, mem_map → uq, map_append → ur, length_take → ut, mem_append_right → uv, mem_of_getElem? → uw, mem_append → ux, mem_cons → uy, mem_append_left → uz, size_toArray → uA, length_filter_le → uB, take_add_one → uD, map_cons → uF, mem_filter → uI, range → uM, nodup_cons → uP, replicate → uQ, append_nil → uU, length_singleton → uY, getD_eq_getElem?_getD → u6, length_zip → Ub, getElem?_zip_eq_some → Uc, length_eq_zero_iff → Ug, mem_cons_self → Uk, exists_cons_of_length_eq_add_one → Uo, length_replicate → Uq, mem_cons_of_mem → Us, getElem?_append_left → Ut, mem_range → Uu, of_mem_zip → Uv, lookup_cons → Ux, sum_cons → Uy, not_mem_nil → Uz, length_reverse → UA, append_assoc → UC, map_map → UD, getElem?_append_right → UE, all_eq_true → UF, drop_eq_getElem_cons → UG, replicate_succ → UH, foldl_cons → UJ, take_length → UM, mem_map_of_mem → UO, length_range → US, lookup → UV, filter_append → UY, filter_congr → U1, reverse_append → U3, find?_cons → U6, getElem?_eq_none → U8, mem_iff_getElem? → U9, reverse_cons → tj, flatten_cons → tm, drop_zero → tD, set → tE, map_nil → tG, getElem?_range → tM, length → tU
open PySem.W renaming Frag → uc, findIn → uZ, keepIn → u5, codeHdIn → Ua, fnOf → Ul, emptyDict → UI, nsIn → UK, mg_none_of → UL, codeIn → UN, instObj → UT, callWith_K → U5, mg_of → U7, plainGet → tF, envX → tI
open PySem.Heap renaming get?_push_of_some → ue, get?_push_size → uu, lt_size → uC, size_push → Uf, get?_update_other → Ui, get?_update_self → UB, size_update → tH
open Option renaming map_eq_some_iff → ug, some → uX, map_some → UZ, isSome_iff_exists → U2
open Nat renaming le_refl → uj, le_trans → uH, lt_of_lt_of_le → uJ, zero_le → uK, ne_of_lt → uT, lt_of_le_of_lt → Ue, lt_irrefl → Uw, testBit_or → UQ, lt_succ_self → UW, le_add_right → UX, mul_le_mul_right → U0, add_mul → tw, testBit_succ → tJ, zero_testBit → tK, not_lt_zero → tQ
open Bool renaming false_ne_true → uE, and_eq_true → uS, or_eq_true → Uj, eq_iff_iff → UP, false_or → tP, false_eq_true → tR
open PySem.F renaming plainAttrs_list → uN, slot_list_append → uV, type_list_append → uW
open PyProof.Rows renaming boot_tuple → uO, callWith_type1 → Um, slot_tuple_getitem → Up, boot_list → UU
open PySem renaming mem_of_lookup → u4, boot_len → Ud, sizeLine → U4
open PySem.Builtin.SmallTypes renaming nextOf → Uh, ownedTupleIsFree → Ur, ownedTupleHandOut → tL
open Int renaming toNat_natCast → UR, toNat_of_nonneg → tO, emod_lt_of_pos → tS, natCast_nonneg → tT
open Option renaming some→sO,none→nO
open Bool renaming true→tV,false→fO
open PySem renaming Addr→aO,Value→aA,wpAny_bind→bA,wpAny_pure→pO
theorem dA{p:Prop}[Decidable p]:(decide p=true)=p:=decide_eq_true_eq
theorem eO{p:Prop}[Decidable p](h:¬p):decide p=false:=decide_eq_false h
theorem iN{c:Prop}{h:Decidable c}(hnc:¬c){α:Sort u}{t e:α}:ite c t e=e:=if_neg hnc
theorem iP{c:Prop}{h:Decidable c}(hc:c){α:Sort u}{t e:α}:ite c t e=t:=if_pos hc
abbrev L2.lS0:List PySem.Str:=["_law_state","_law_scope","_law_k","_law_room","_law_world_here","_law_at"]
abbrev L2.lS1:List PySem.Str:=["_law_body_here","_law_owns_here","_law_stands"]
abbrev L2.lS2:List PySem.Str:=["_law_deed_here","_law_owns_here"]
abbrev L2.lS3:List PySem.Str:=["_law_marks_here","_law_body_here","_law_owns_here","_law_stands"]
abbrev L2.lS4:List PySem.Str:=["putter","place"]
abbrev L2.lS5:List PySem.Str:=["_law_state","_law_many"]
abbrev L2.lS6:List PySem.Str:=["self","body","note","names"]
abbrev L2.lS7:List PySem.Str:=["_law_state","_law_scope","_law_sort"]
abbrev L2.lS8:List PySem.Str:=["_law_state","_law_scope","_law_sorts_here"]
abbrev L2.lS9:List PySem.Str:=["_law_state","_law_scope","_law_world_here","_law_at"]
abbrev L2.lS10:List PySem.Str:=["_law_state","_law_world_here","_law_room"]
abbrev L2.lS11:List PySem.Str:=["_law_state","_law_world_here","_law_at","_law_room"]
abbrev L2.lS12:List PySem.Str:=["_law_state","_law_least","_law_most"]
abbrev L2.lS13:List PySem.Str:=["_law_world_here","_law_k"]
abbrev L2.lS14:List PySem.Str:=["_law_state","_law_room","_law_many"]
abbrev L2.lS15:List PySem.Str:=["_law_names","_law_by","_law_stands"]
abbrev L2.lS16:List PySem.Str:=["body","ways","notes","bits"]
abbrev L2.lS17:List PySem.Str:=["_law_state","_law_scope","_law_world_here"]
abbrev L2.lS18:List PySem.Str:=["body","bits"]
abbrev L2.lS19:List PySem.Str:=["self","name","note"]
abbrev L2.lS20:List PySem.Str:=["_law_program_here","_law_owns_here"]
abbrev L2.lS21:List PySem.Str:=["_law_way","_law_mine","_law_lent"]
abbrev L2.lS22:List PySem.Str:=["self","within","finish"]
abbrev L2.lS23:List PySem.Str:=["_law_state","_law_program_here"]
abbrev L2.lS24:List PySem.Str:=["arms","modes","bodies"]
abbrev L2.lS25:List PySem.Str:=["self","names","free"]
abbrev L2.lS26:List PySem.Str:=["self","one","owns"]
abbrev L2.lS27:List PySem.Str:=["task","begin"]
abbrev L2.lS28:List PySem.Str:=["deed","ends","stand"]
abbrev L2.lS29:List PySem.Str:=["program","owns"]
theorem L2.sN0:0<=U4:=by decide
theorem L2.sN1:1<=U4:=by decide
theorem L2.sN2:2<=U4:=by decide
theorem L2.sN3:3<=U4:=by decide
theorem L2.sN4:4<=U4:=by decide
theorem L2.sN5:5<=U4:=by decide
theorem L2.sN7:7<=U4:=by decide
theorem L2.gM{α β:Type}{f:α->β}{l:List α}{i:Nat}{v:β}(h:(l.map f)[i]?=sO v):∃z,l[i]?=sO z/\f z=v:=by rw[List.getElem?_map]at h;exact Option.map_eq_some_iff.mp h
abbrev lS:=List PySem.Str
variable{u v doc pm cdv ct oc vl vu:aA}{a b it c f p C dx T sl d cB c1 T1 T2 fl c0 cc cP cL fa:aO}{h h' base h0:Heap}{items:Array aA}{P prog:Program}{w:World}{x name qual y z w0:Str}{e o tg iter value elt e1 e2 e3 e4 e5:Expr}{ob:Obj}{pins:List (aO×Obj)}{s s':Shared}{g':Array GenState}{t' i j n m B:Nat}{ch fp q as ts Ts:List aO}{N ns ps lent:lS}{A:Around}{E:VSP}{Q:Unit->Shared->Prop}{pos pos' tpos apos p2 cpos py spos:Pos}{st:Stmt}{es ifs elts:List Expr}{body:List Stmt}{vs ds its its':List aA}{lo hi:Option Int}{op:CmpOp}{mA mg:Str->Option aA}{R R':aO->Prop}{kw:List (Str×aA)}{env:Env}{fd:FuncData}{kindOf:Str->Option NameKind}{scope:Scope}{params:Arguments}{an od:Option aO}{osl:Array (Option aA)}{id:String}{zs:List (Bool×Nat)}{XP:(Str->Option aA)->Heap->Prop}{S:List Nat}{ow:Str->List Bool}
namespace L2
open PySem PySem.Spec PyProof.Rows
variable{c:Expr}{g:Int->Int->Int}{p:Pos}
abbrev Key:=Sum Int Str
def vF:Key->aA->Bool
 |.inl k,v=>Value.isInt k v
 |.inr x,v=>Value.isStrOf x v
def keyH(w:World):Key->Int
 |.inl k=>hashInt k
 |.inr x=>hashStr w x
theorem z4:∀{k:Key}{v:aA},vF k v=tV->(∃i t,k=Sum.inl i/\v=Value.int i t)\/(∃x t,k=Sum.inr x/\v=Value.str x t)
 |.inl i,v,h=>by
  obtain⟨t,e⟩:=Value.isInt_shape (k:=i) (v:=v) h;exact .inl ⟨i,t,rfl,e⟩
 |.inr x,v,h=>by
  obtain⟨t,e⟩:=Value.isStrOf_shape (x:=x) (v:=v) h;exact .inr ⟨x,t,rfl,e⟩
theorem Wk(i:Int)(t:Tok):vF (.inl i) (.int i t)=tV:=by simp[vF,Value.isInt]
theorem Wl(x:Str)(t:Tok):vF (.inr x) (.str x t)=tV:=by simp[vF,Value.isStrOf]
theorem zbK(a b:Int):decide ((Sum.inl a:Key)=Sum.inl b)=(a == b):=by
 by_cases e:a=b
 ·subst e;simp
 ·have h:¬ (Sum.inl a:Key)=Sum.inl b:=fun q=>e (Sum.inl.inj q)
  rw[eO h];exact(beq_eq_false_iff_ne.mpr e).symm
theorem zbL(a b:Str):decide ((Sum.inr a:Key)=Sum.inr b)=decide (a=b):=by
 by_cases e:a=b
 ·subst e;simp
 ·have h:¬ (Sum.inr a:Key)=Sum.inr b:=fun q=>e (Sum.inr.inj q)
  rw[eO h,eO e]
theorem zbM(a:Int)(b:Str):decide ((Sum.inl a:Key)=Sum.inr b)=fO:=eO (fun q=>nomatch q)
theorem zbN(a:Str)(b:Int):decide ((Sum.inr a:Key)=Sum.inl b)=fO:=eO (fun q=>nomatch q)
def zR(prog:Program)(w:World):PySem.KeyKind prog w Key where
 is:=vF
 hash:=keyH w
 inj:=fun v a b ha hb=>by
  rcases z4 ha with⟨i,t,rfl,rfl⟩|⟨x,t,rfl,rfl⟩
  ·rcases z4 hb with⟨j,u,rfl,e⟩|⟨y,u,rfl,e⟩
   ·injection e with e1 _;rw[e1]
   ·exact nomatch e
  ·rcases z4 hb with⟨j,u,rfl,e⟩|⟨y,u,rfl,e⟩
   ·exact nomatch e
   ·injection e with e1 _;rw[e1]
 byValue:=fun k v h=>by
  rcases z4 h with⟨i,t,rfl,rfl⟩|⟨x,t,rfl,rfl⟩<;>rfl
 pyHash:=fun hv h=>by
  rcases z4 hv with⟨i,t,rfl,rfl⟩|⟨x,t,rfl,rfl⟩
  ·exact wpAny_pyHash_int h
  ·exact wpAny_pyHash_str h
 eqBool:=fun hu hv h=>by
  rcases z4 hu with⟨i,t,rfl,rfl⟩|⟨x,t,rfl,rfl⟩
  ·rcases z4 hv with⟨j,u,rfl,rfl⟩|⟨y,u,rfl,rfl⟩
   ·rw[zbK]at h;exact wpAny_eqBool_int h
   ·rw[zbM]at h;exact SeqAt.EqAt.int_str i t y u _ _ _ _ h
  ·rcases z4 hv with⟨j,u,rfl,rfl⟩|⟨y,u,rfl,rfl⟩
   ·rw[zbN]at h;exact SeqAt.EqAt.str_int x t j u _ _ _ _ h
   ·rw[zbL]at h;exact wpAny_eqBool_str h
 «strs»:=fun k x t v h=>by
  rcases z4 h with⟨i,u,rfl,e⟩|⟨y,u,rfl,e⟩
  ·exact nomatch e
  ·injection e with e1 _
   subst e1;cases v<;>rfl
theorem YY(prog:Program)(w:World)(k:Key)(v:aA):(zR prog w).is k v=vF k v:=rfl
theorem ZV(prog:Program)(w:World)(i:Int)(t:Tok):(zR prog w).is (.inl i) (.int i t)=tV:=Wk i t
theorem ZX(prog:Program)(w:World)(x:Str)(t:Tok):(zR prog w).is (.inr x) (.str x t)=tV:=Wl x t
inductive V where
 |non|bl (b:Bool)|int (i:Int)|str (x:Str)|byt (b:Array UInt8)|flt (b:UInt64)|ref (a:aO)|ty (n:String)
 deriving DecidableEq
variable{xs:List V}
abbrev sR(a:aO):Option V:=sO (.ref a)
def RelV:V->aA->Prop
 |.non,u=>u=Value.none
 |.bl b,u=>u=Value.bool b
 |.int i,u=>∃t,u=Value.int i t
 |.str x,u=>∃t,u=Value.str x t
 |.byt b,u=>∃t,u=Value.bytes b t
 |.flt b,u=>∃t,u=Value.float b t
 |.ref a,u=>u=Value.ref a
 |.ty n,u=>u=Value.type n
abbrev Vals:List V->List aA->Prop:=Paired RelV
theorem Vals.length{us:List aA}(r:Vals xs us):xs.length=us.length:=Paired.length r
theorem Vals.get:∀{xs:List V}{us:List aA}{i:Nat}{x:V},Vals xs us->xs[i]?=sO x->∃u,us[i]?=sO u/\RelV x u
 |_,_,_,_,.nil,e=>by simp at e
 |_,_,0,_,.cons r _,e=>by simp at e;subst e;exact⟨_,rfl,r⟩
 |_,_,i+1,x,.cons _ t,e=>by
  obtain⟨u,h1,h2⟩:=Vals.get (i:=i) (x:=x) t (by simpa using e);exact⟨u,by simpa using h1,h2⟩
theorem Vals.set{x:V}{u:aA}(r:RelV x u):∀{xs:List V}{us:List aA}(i:Nat),Vals xs us->Vals (xs.set i x) (us.set i u)
 |_,_,_,.nil=>.nil
 |_,_,0,.cons _ t=>.cons r t
 |_,_,i+1,.cons q t=>.cons q (Vals.set r i t)
theorem Vals.append:∀{xs ys:List V}{us ws:List aA},Vals xs us->Vals ys ws->Vals (xs++ys) (us++ws)
 |_,_,_,_,.nil,s=>s
 |_,_,_,_,.cons r t,s=>.cons r (Vals.append t s)
theorem Vals.take:∀{xs:List V}{us:List aA}(n:Nat),Vals xs us->Vals (xs.take n) (us.take n)
 |_,_,0,_=>.nil
 |_,_,_+1,.nil=>.nil
 |_,_,n+1,.cons r t=>.cons r (Vals.take n t)
theorem Vals.drop:∀{xs:List V}{us:List aA}(n:Nat),Vals xs us->Vals (xs.drop n) (us.drop n)
 |_,_,0,r=>r
 |_,_,_+1,.nil=>.nil
 |_,_,n+1,.cons _ t=>Vals.drop n t
def RelO:Option V->Option aA->Prop
 |some v,sO u=>RelV v u
 |none,nO=>True
 |_,_=>False
def KV{κ:Type}:List (κ×V)->List (κ×aA)->Prop:=Paired fun(p:κ×V)(q:κ×aA)=>p.1=q.1/\RelV p.2 q.2
def kV:Key->V
 |.inl i=>.int i
 |.inr x=>.str x
inductive HO where
 |lst (xs:List V)
 |tup (xs:List V)
 |dK (kvs:List (Key×V))|dT (kvs:List (List Key×V))
 |set (S:Int->Bool) (n:Nat)
 |ins (C dx:aO) (fs:List (Str×V))
 |own (x:aO)
 |xd (fs:List (Str×V))
 |met (f x:aO)
 |rng (lo hi:Int)
 |frz (o:Obj) (u:HO)
 |tbl (ps:Array aA)
 |ext (φ:Heap->Prop)
variable{o:HO}
abbrev Hp:=aO->Option HO
variable{H H':Hp}
def upd(H:Hp)(a:aO)(o:HO):Hp:=fun b=>if b=a then sO o else H b
theorem uX9:upd H a o a=sO o:=by unfold upd;rw[iP rfl]
theorem zj(h:b≠a):upd H a o b=H b:=by unfold upd;rw[iN h]
theorem yn{u:HO}(h:H a=sO o)(h':H b=sO u)(d:o≠u):a≠b:=by
 intro e;subst e;rw[h]at h';exact d (uX.inj h')
theorem zi(h:H a=sO o)(h':H b=nO):a≠b:=by
 intro e;subst e;rw[h]at h';cases h'
def IsTupN(h:Heap)(a:aO)(items:Array aA):Prop:=∃o,h.get? a=sO o/\o.cls=.type "tuple"/\o.dict=nO/\∃n,o.data=.seq items n
theorem IsTupN.is(x:IsTupN h a items):IsTup h a items:=by obtain⟨o,a,b,_,c⟩:=x;exact⟨o,a,b,c⟩
theorem IsTupN.new(h:Heap)(items:Array aA):IsTupN (h.push { cls:=.type "tuple",data:=.seq items }) h.objs.size items:=⟨_,uu _ rfl,rfl,rfl,_,rfl⟩
section
variable(P:Program)(w:World)
def ObjOk(H:Hp)(h:Heap)(a:aO):HO->Prop
 |.lst xs=>xs.length<=sizeLine/\∃(its:List aA)(n:Nat),Vals xs its/\h.get? a=sO { cls:=.type "list",data:=.seq its.toArray n }
 |.tup xs=>xs.length<=sizeLine/\∃its:List aA,Vals xs its/\IsTupN h a its.toArray
 |.dK kvs=>kvs.length<=sizeLine/\(a == sysModules)=fO/\∃vs,KV kvs vs/\h.DictOf (zR P w) a vs
 |.dT kvs=>kvs.length<=sizeLine/\(a == sysModules)=fO/\∃xs:List (List Key×aO×aA),
   Paired (fun(p:List Key×V)(q:List Key×aO×aA)=>p.1=q.1/\H q.2.1=sO (.tup (p.1.map kV))/\RelV p.2 q.2.2) kvs xs /\
   ∃o es ep,h.get? a=sO o/\o.ExactDict/\o.data=.dict es ep/\es.toList=xs.map (entryOfKey (tupleKind (zR P w)))/\(xs.map (·.1)).Nodup
 |.set S n=>h.SetOf (intKind P w) a S n
 |.ins C dx fs=>H dx=sO (.own a)/\fs.length<=1000/\dx≠a/\h.get? a=sO (UT C dx) /\
   ∃mA,h.Ns1 dx mA/\(∀f,RelO (fs.lookup f) (mA f))/\PySem.Within mA (fs.map (·.1))
 |.own _=>∃o,h.get? a=sO o
 |.xd fs=>∃mA,h.Ns1 a mA/\∀f,RelO (fs.lookup f) (mA f)
 |.rng lo hi=>∃t u v,h.get? a=sO { cls:=.type "range",data:=.fields #[.int lo t,.int hi u,.int 1 v] }
 |.frz o u=>h.get? a=sO o/\ObjOk H h a u
 |.tbl ps=>h.get? a=sO { cls:=.none,data:=.fields ps }
 |.met f x=>h.get? a=sO (PySem.W.methodObj (.ref f) (.ref x))
 |.ext φ=>φ h/\(∃o,h.get? a=sO o)/\∀h1 h2:Heap,φ h1->(∀o,h1.get? a=sO o->h2.get? a=sO o)->φ h2
def HOk(H:Hp)(h:Heap):Prop:=∀a o,H a=sO o->ObjOk P w H h a o
end
theorem ObjOk.lt(x:ObjOk P w H h a o):a < h.objs.size:=by
 cases o with
 |lst xs=>obtain⟨_,_,_,_,e⟩:=x;exact uC e
 |tup xs=>obtain⟨_,_,_,p⟩:=x;exact p.is.lt
 |dK kvs=>obtain⟨_,_,_,_,o,_,_,e,_⟩:=x;exact uC e
 |dT kvs=>obtain⟨_,_,_,_,o,_,_,e,_⟩:=x;exact uC e
 |set S n=>obtain⟨o,_,_,_,e,_⟩:=x;exact uC e
 |ins C dx fs=>obtain⟨_,_,_,e,_⟩:=x;exact uC e
 |own y=>obtain⟨_,e⟩:=x;exact uC e
 |xd fs=>obtain⟨_,⟨_,_,_,e,_⟩,_⟩:=x;exact uC e
 |rng lo hi=>obtain⟨_,_,_,e⟩:=x;exact uC e
 |frz ob u=>obtain⟨e,_⟩:=x;exact uC e
 |tbl ps=>exact uC (show h.get? a=sO _ from x)
 |met f y=>exact uC (show h.get? a=sO _ from x)
 |ext φ=>obtain⟨_,⟨_,e⟩,_⟩:=x;exact uC e
theorem Paired.mapP{α β:Type}{F G:α->β->Prop}:∀{l₁:List α}{l₂:List β},Paired F l₁ l₂->(∀a b,F a b->G a b)->Paired G l₁ l₂
 |_,_,.nil,_=>.nil
 |_,_,.cons r t,f=>.cons (f _ _ r) (Paired.mapP t f)
theorem ObjOk.stay(x:ObjOk P w H h a o)(k:∀b u,(b=a\/H b=sO (.own a))->h.get? b=sO u->h'.get? b=sO u)
  (ho:∀b,H b=sO (.own a)->H' b=sO (.own a)) (ht:∀b xs,H b=sO (.tup xs)->H' b=sO (.tup xs)):ObjOk P w H' h' a o:=by
 induction o with
 |lst xs=>obtain⟨z,its,n,r,e⟩:=x;exact⟨z,its,n,r,k _ _ (.inl rfl) e⟩
 |tup xs=>obtain⟨z,its,r,ob,e,c⟩:=x;exact⟨z,its,r,ob,k _ _ (.inl rfl) e,c⟩
 |dK kvs=>obtain⟨z,y,vs,r,ob,es,ep,e,c⟩:=x;exact⟨z,y,vs,r,ob,es,ep,k _ _ (.inl rfl) e,c⟩
 |dT kvs =>
  obtain⟨z,y,xs,r,ob,es,ep,e,c⟩:=x;exact⟨z,y,xs,Paired.mapP r fun p q z=>⟨z.1,ht _ _ z.2.1,z.2.2⟩,ob,es,ep,k _ _ (.inl rfl) e,c⟩
 |set S n=>obtain⟨ob,es,ep,t,e,c⟩:=x;exact⟨ob,es,ep,t,k _ _ (.inl rfl) e,c⟩
 |ins C dx fs =>
  obtain⟨d,z,ne,e,mA,⟨od,es,ep,e2,c⟩,r⟩:=x;exact⟨ho _ d,z,ne,k _ _ (.inl rfl) e,mA,⟨od,es,ep,k _ _ (.inr d) e2,c⟩,r⟩
 |own y=>obtain⟨ob,e⟩:=x;exact⟨ob,k _ _ (.inl rfl) e⟩
 |xd fs=>obtain⟨mA,⟨od,es,ep,e,c⟩,r⟩:=x;exact⟨mA,⟨od,es,ep,k _ _ (.inl rfl) e,c⟩,r⟩
 |rng lo hi=>obtain⟨t,u,v,e⟩:=x;exact⟨t,u,v,k _ _ (.inl rfl) e⟩
 |frz ob u ih=>obtain⟨e,q⟩:=x;exact⟨k _ _ (.inl rfl) e,ih q⟩
 |tbl ps =>
  have e:h.get? a=sO { cls:=.none,data:=.fields ps }:=x;show h'.get? a=sO { cls:=.none,data:=.fields ps };exact k a _ (.inl rfl) e
 |met f y =>
  have e:h.get? a=sO (PySem.W.methodObj (.ref f) (.ref y)):=x;show h'.get? a=sO (PySem.W.methodObj (.ref f) (.ref y));exact k a _ (.inl rfl) e
 |ext φ=>obtain⟨p,⟨o,e⟩,st⟩:=x;exact⟨st _ _ p fun o q=>k _ _ (.inl rfl) q,⟨o,k _ _ (.inl rfl) e⟩,st⟩
theorem HOk.lt(x:HOk P w H h)(e:H a=sO o):a < h.objs.size:=(x a o e).lt
theorem HOk.fresh(x:HOk P w H h)(e:h.objs.size<=a):H a=nO:=by
 cases q:H a with
 |none=>rfl
 |some u=>exact absurd (uJ (x.lt q) e) (Uw _)
theorem HOk.kept(x:HOk P w H h)(k:∀b u,h.get? b=sO u->h'.get? b=sO u):HOk P w H h':=fun a o e =>
 (x a o e).stay (fun b u _ q=>k b u q) (fun _ q=>q) fun _ _ q=>q
theorem HOk.laid(x:HOk P w H h)(k:∀b u,h.get? b=sO u->h'.get? b=sO u)(hp:h.objs.size<=a)(new:ObjOk P w (upd H a o) h' a o):HOk P w (upd H a o) h':=fun b u e=>by
 have hn:=x.fresh hp;by_cases hb:b=a
 ·subst hb;rw[uX9]at e;cases e;exact new
 ·rw[zj hb]at e
  exact(x b u e).stay (fun c v _ q=>k c v q) (fun c q=>by rw[zj (zi q hn)];exact q) fun c xs q=>by rw[zj (zi q hn)];exact q
def Rd(H:Hp)(a:aO)(u:HO):Prop:=H a=sO u\/∃o,H a=sO (.frz o u)
theorem Rd.ok{u:HO}(r:Rd H a u)(x:HOk P w H h):ObjOk P w H h a u:=by
 rcases r with r|⟨o,r⟩
 ·exact x a u r
 ·obtain⟨_,q⟩:=x a _ r
  exact q
def Mut:Option HO->Prop
 |some (.lst _)=>True
 |some (.dK _)=>True
 |some (.dT _)=>True
 |some (.set _ _)=>True
 |some (.ins _ _ _)=>True
 |some (.ext _)=>True
 |_=>False
section
variable{x e:aO}{o':HO}
theorem HOk.write(ok:HOk P w H h)(mu:Mut (H x))(he:e=x\/H e=sO (.own x))(k:∀b u,b≠e->h.get? b=sO u->h'.get? b=sO u)(heo:∃u,h'.get? e=sO u)
  (new:ObjOk P w (upd H x o') h' x o'):HOk P w (upd H x o') h':=fun b u q=>by
 have nown:∀c y,H c=sO (.own y)->c≠x:=fun c y r z=>by subst z;rw[r]at mu;exact mu
 have ntup:∀c xs,H c=sO (.tup xs)->c≠x:=fun c xs r z=>by subst z;rw[r]at mu;exact mu
 by_cases hb:b=x
 ·subst hb;rw[uX9]at q;cases q;exact new
 ·rw[zj hb]at q
  by_cases hbe:b=e
  ·have q':H b=sO (.own x):=by
    rcases he with z|z
    ·exact absurd (hbe.trans z) hb
    ·rw[hbe];exact z
   rw[q]at q';cases q';obtain⟨v,hv⟩:=heo;exact⟨v,by rw[hbe];exact hv⟩
  ·refine(ok b u q).stay (fun c v hc r=>k c v ?_ r) (fun c r=>by rw[zj (nown c b r)];exact r) fun c xs r=>by rw[zj (ntup c xs r)];exact r
   rcases hc with rfl|hc
   ·exact hbe
   ·rintro rfl
    rcases he with z|z
    ·exact nown c b hc z
    ·rw[hc]at z;cases z;exact hb rfl
end
structure Un(fs ex:List aO)(H H':Hp)(h h':Heap):Prop where
 keep:∀b o,h.get? b=sO o->H b=nO->b∉fs->b∉ex->h'.get? b=sO o
 slot:∀b o,h.get? b=sO o->H b=nO->b∈fs->b∉ex->∃sl,h'.get? b=sO { o with slots:=sl }
 free:∀b o,h.get? b=sO o->H b=nO->b∉ex->H' b=nO
 there:∀b o,h.get? b=sO o->b∉ex->∃o',h'.get? b=sO o'
 tups:∀b xs,H b=sO (.tup xs)->H' b=sO (.tup xs)
 frzs:∀b o u,H b=sO (.frz o u)->H' b=sO (.frz o u)
 tbls:∀b ps,H b=sO (.tbl ps)->∃more,H' b=sO (.tbl (ps++more))
section
variable{fs fs' ex ex':List aO}{H1 H2:Hp}{h1 h2:Heap}{x e:aO}
theorem Un.any(u:Un fs ex H H1 h h1)(q:h.get? b=sO ob)(n:H b=nO)(hx:b∉ex):∃sl,h1.get? b=sO { ob with slots:=sl }:=by
 by_cases hb:b∈fs
 ·exact u.slot b ob q n hb hx
 ·exact⟨ob.slots,u.keep b ob q n hb hx⟩
theorem Un.kept(k:∀b u,h.get? b=sO u->h'.get? b=sO u):Un fs ex H H h h' :=
 ⟨fun b ob q _ _ _=>k b ob q,fun b ob q _ _ _=>⟨ob.slots,k b ob q⟩,fun _ _ _ n _=>n,fun b ob q _=>⟨ob,k b ob q⟩,fun _ _ q=>q,fun _ _ _ q=>q,fun _ ps q=>⟨#[],by rw[q];simp⟩⟩
theorem Un.refl:Un fs ex H H h h:=Un.kept fun _ _ q=>q
theorem Un.laid(k:∀b u,h.get? b=sO u->h'.get? b=sO u)(hp:h.objs.size<=a)(hn:H a=nO):Un fs ex H (upd H a o) h h' where
 keep:=fun b u q _ _ _=>k b u q
 slot:=fun b u q _ _ _=>⟨u.slots,k b u q⟩
 free:=fun b u q n _=>by rw[zj (uT (uJ (uC q) hp))];exact n
 there:=fun b u q _=>⟨u,k b u q⟩
 tups:=fun b xs q=>by rw[zj (zi q hn)];exact q
 frzs:=fun b u xs q=>by rw[zj (zi q hn)];exact q
 tbls:=fun b ps q=>⟨#[],by rw[zj (zi q hn),q];simp⟩
theorem Un.write(mu:Mut (H x))(he:e=x\/H e=sO (.own x))(k:∀b u,b≠e->h.get? b=sO u->h'.get? b=sO u)(heo:∃u,h'.get? e=sO u):Un fs ex H (upd H x o) h h':=by
 have hx:∀b,H b=nO->b≠x:=fun b n z=>by subst z;rw[n]at mu;exact mu
 have hb:∀b,H b=nO->b≠e:=fun b n z=>by
  subst z;rcases he with r|r
  ·exact hx b n r
  ·rw[n]at r;cases r
 have hm:∀b u,H b=sO u->¬ Mut (sO u)->b≠x:=fun b u q nm z=>by subst z;rw[q]at mu;exact nm mu
 refine⟨fun b u q n _ _=>k b u (hb b n) q,fun b u q n _ _=>⟨u.slots,k b u (hb b n) q⟩,fun b u q n _=>by rw[zj (hx b n)];exact n,fun b u q _=>?_,
  fun b xs q=>by rw[zj (hm b _ q fun z=>z)];exact q,fun b u xs q=>by rw[zj (hm b _ q fun z=>z)];exact q,fun b ps q=>⟨#[],by rw[zj (hm b _ q fun z=>z),q];simp⟩⟩
 by_cases hbe:b=e
 ·subst hbe;exact heo
 ·exact⟨u,k b u hbe q⟩
end
def trk(h:Heap)(H:Hp):List aO:=(uM h.objs.size).filter fun a=>(H a).isSome
def hidT(h:Heap)(H:Hp):Heap:=PySem.W.hideAll h (trk h H)
theorem Wm(h:Heap)(H:Hp):(hidT h H).objs.size=h.objs.size:=PySem.W.hideAll_size _ _
theorem Va{o:Obj}(e:h.get? b=sO o)(n:H b=nO):(hidT h H).get? b=sO o :=
 PySem.W.hideAll_get _ e fun hm=>by
  have q:(H b).isSome=tV:=(uI.mp hm).2;rw[n]at q;simp at q
theorem Qn{o:Obj}(e:(hidT h H).get? b=sO o):h.get? b=sO o/\H b=nO:=by
 have e':h.get? b=sO o:=PySem.W.of_hideAll (trk h H) e;refine⟨e',?_⟩;cases q:H b with
 |none=>rfl
 |some x =>
  have hm:b∈trk h H:=uI.mpr ⟨Uu.mpr (uC e'),by simp[q]⟩;have z:(hidT h H).get? b=nO:=PySem.W.hideAll_none (trk h H) hm;rw[z]at e;cases e
def Qo(g h:Heap)(L:aO):List (aO×Obj):=(uM h.objs.size).filterMap fun a=>if a=L\/(g.get? a).isSome=tV then nO else(h.get? a).map fun o=>(a,o)
def rest(g h:Heap)(L d:aO):List (aO×Obj):=(Qo g h L).filter fun p=>decide (p.1≠d)
structure Mod(K:uc)(mg:Str->Option aA)(base:Heap):Prop where
 kin:K.In base
 glob:base.Ns mainGlobals mg
 blt:∃mb,base.Ns builtinsNs mb/\∀x:Str,x≠"__name__"->mb x=bootBuiltins x
 nolimit:base.NoLimit
structure Cx where
 prog:Program
 w:World
 K:uc
 mg:Str->Option aA
 base:Heap
 A:Around
 N:lS
 s₀:Shared
 H₀:Hp
 env:Env
 outer:List Env
 stack:List Env
 ex:List aO
 fn:Str->Bool
 calm:Bool
 pn:List (aO×Obj)
 xe:aA->Shared->Prop
variable{X:Cx}
def frs(l:List Env):List aO:=l.filterMap (·.frame)
abbrev Cx.fs(X:Cx):List aO:=frs X.outer
def Vis(sc:Scope)(x:Str):Prop:=sc.names.lookup x=sO .local\/sc.names.lookup x=sO .cell\/sc.names.lookup x=sO .free
def Loc(sc:Scope)(x:Str):Prop:=sc.names.lookup x=sO .local\/sc.names.lookup x=sO .cell
def Look(env:Env)(h:Heap)(m:Str->Option aA)(x:Str)(u:aA):Prop :=
 (env.kindOf x=sO .local/\m x=sO u)\/((env.kindOf x=sO .cell\/env.kindOf x=sO .free)/\∃c,env.cells.lookup x=sO c/\h.IsCell c (sO u))
structure Cx.Ok(X:Cx):Prop where
 mod:Mod X.K X.mg X.base
 kind:X.env.scope.kind=.function
 glob:X.env.globals=mainGlobals
 blt:X.env.builtins=builtinsNs
 above:X.s₀.heap.objs.size<=X.env.locals
 inj:∀x y c,X.env.cells.lookup x=sO c->X.env.cells.lookup y=sO c->x=y
 has:∀x,(X.env.kindOf x=sO .cell\/X.env.kindOf x=sO .free)->∃c,X.env.cells.lookup x=sO c
 cab:∀x c,X.fn x=tV->X.env.cells.lookup x=sO c->X.s₀.heap.objs.size<=c
 hd:X.calm=tV->X.A.handled=nO
 frames:X.A.frames=sO X.stack
 stk:X.stack=X.outer\/(X.stack=X.env::X.outer/\X.env.frame=sO X.env.locals)
 exf:∀b∈X.ex,b≠X.env.locals/\∀x c,X.env.cells.lookup x=sO c->c≠b
 bs:∀b o,X.base.get? b=sO o->X.s₀.heap.get? b=sO o/\X.H₀ b=nO
 bsz:X.base.objs.size<=X.s₀.heap.objs.size
 noex:∀b o,X.base.get? b=sO o->b∉X.ex
 exfs:∀b∈X.ex,b∉X.fs
 funs:X.s₀.heap.FunFrames X.base X.outer
 frf:∀b∈X.fs,X.H₀ b=nO
structure Inv(X:Cx)(pins:List (aO×Obj))(σ:List (Option V))(H:Hp)(s:Shared):Prop where
 ok:X.Ok
 os:s.os=X.s₀.os
 bare:AllBare s.gens
 base:Un X.fs X.ex X.H₀ H X.s₀.heap s.heap
 loc:∃m,s.heap.Ns X.env.locals m/\∀(i:Nat)(x:Str)(v:V),X.N[i]?=sO x->σ[i]?=sO (sO v)->Vis X.env.scope x->∃u,RelV v u/\Look X.env s.heap m x u
 cell:∀x c,X.env.cells.lookup x=sO c->∃v,s.heap.IsCell c v
 free:H X.env.locals=nO
 freeC:∀x c,X.env.cells.lookup x=sO c->H c=nO
 pin:∀p∈X.pn++pins,s.heap.get? p.1=sO p.2/\H p.1=nO/\p.1≠X.env.locals/\p.1∉X.fs/\∀v,p.2.data≠.cell v
 hok:HOk X.prog X.w H s.heap
 len:σ.length=X.N.length
section
variable{σ:List (Option V)}
theorem Cx.Ok.nofr(ok:X.Ok){o:Obj}(e:X.base.get? b=sO o):b∉X.fs:=fun hb=>by
 have:=(ok.funs.mem hb).1
 rw[e]at this;cases this
theorem Inv.bs(I:Inv X pins σ H s):∀b o,X.base.get? b=sO o->s.heap.get? b=sO o/\H b=nO:=fun b o e =>
 ⟨I.base.keep b o (I.ok.bs b o e).1 (I.ok.bs b o e).2 (I.ok.nofr e) (I.ok.noex b o e),I.base.free b o (I.ok.bs b o e).1 (I.ok.bs b o e).2 (I.ok.noex b o e)⟩
theorem Inv.bk(I:Inv X pins σ H s):∀b o,X.base.get? b=sO o->s.heap.get? b=sO o:=fun b o e=>(I.bs b o e).1
theorem Inv.mod(I:Inv X pins σ H s):Mod X.K X.mg X.base:=I.ok.mod
theorem Inv.kIn(I:Inv X pins σ H s):X.K.In s.heap:=I.ok.mod.kin.keeps I.bk
theorem Inv.lt(I:Inv X pins σ H s):X.env.locals < s.heap.objs.size:=by obtain⟨_,hn,_⟩:=I.loc;exact hn.lt
theorem Inv.sz(I:Inv X pins σ H s):X.s₀.heap.objs.size<=s.heap.objs.size:=uH I.ok.above (Nat.le_of_lt I.lt)
theorem Inv.nofs(I:Inv X pins σ H s)(h:s.heap.objs.size<=a):a∉X.fs:=fun hb=>by
 obtain⟨_,o,ho,_⟩:=I.ok.funs.mem hb;exact absurd (uJ (uC ho) (uH I.sz h)) (Uw _)
theorem Inv.cne(I:Inv X pins σ H s):∀x c,X.env.cells.lookup x=sO c->c≠X.env.locals:=fun x c e z=>by
 obtain⟨v,o,ho,hd⟩:=I.cell x c e;obtain⟨m,⟨o',es,ep,ho',hd',_⟩,_⟩:=I.loc;rw[z,ho']at ho;cases ho;rw[hd']at hd;cases hd
theorem Inv.funs(I:Inv X pins σ H s):s.heap.FunFrames X.base X.outer:=by
 have all:∀(l:List Env),(∀b∈frs l,b∈X.fs)->X.s₀.heap.FunFrames X.base l->s.heap.FunFrames X.base l:=by
  intro l
  induction l with
  |nil=>intro _ _;trivial
  |cons env r ih =>
   intro hs hl;obtain⟨hk,⟨L,o,hf,hn,ho,hd⟩,hr⟩:=hl;have hL:L∈X.fs:=hs L (by unfold frs;rw[List.filterMap_cons,hf];exact Uk);obtain⟨sl,e⟩:=I.base.slot L o ho (I.ok.frf L hL) hL fun z=>I.ok.exfs L z hL;exact⟨hk,⟨L,_,hf,hn,e,hd⟩,ih (fun b hb=>hs b (by unfold frs;rw[List.filterMap_cons,hf];exact Us _ hb)) hr⟩
 exact all X.outer (fun _ hb=>hb) I.ok.funs
theorem Inv.stack(I:Inv X pins σ H s):s.heap.FunFrames X.base X.stack:=by
 rcases I.ok.stk with e|⟨e,hf⟩
 ·rw[e];exact I.funs
 ·rw[e]
  obtain⟨m,hn,_⟩:=I.loc;refine .cons (by rw[I.ok.kind];decide) hf hn ?_ I.funs;exact Heap.get?_none_of_le (uH I.ok.bsz I.ok.above)
theorem Inv.stkSub(I:Inv X pins σ H s):∀b∈frs X.stack,b∈X.env.locals::X.fs:=fun b hb=>by
 rcases I.ok.stk with e|⟨e,hf⟩
 ·rw[e]at hb;exact Us _ hb
 ·rw[e]at hb
  unfold frs at hb;rw[List.filterMap_cons,hf]at hb;exact hb
theorem Inv.stkFree(I:Inv X pins σ H s):∀b∈frs X.stack,H b=nO:=fun b hb=>by
 rcases uy.mp (I.stkSub b hb)with e|hb
 ·rw[e];exact I.free
 ·obtain⟨_,o,ho,_⟩:=I.ok.funs.mem hb
  exact I.base.free b o ho (I.ok.frf b hb) fun z=>I.ok.exfs b z hb
theorem Inv.step{d':Drawn}(I:Inv X pins σ H s)
  (hch:∀b∈ch,(b∈X.ex\/X.s₀.heap.objs.size<=b)/\b≠X.env.locals/\(∀x c,X.env.cells.lookup x=sO c->c≠b)/\∀p∈X.pn++pins,p.1≠b)
  (keep:∀b o,b≠X.env.locals->b∉X.fs->b∉ch->s.heap.get? b=sO o->H b=nO->h'.get? b=sO o)
  (slot:∀b o,b≠X.env.locals->b∈X.fs->b∉ch->s.heap.get? b=sO o->H b=nO->∃sl,h'.get? b=sO { o with slots:=sl }) (free:∀b o,b∉ch->s.heap.get? b=sO o->H b=nO->H' b=nO)
  (there:∀b o,b∉ch->s.heap.get? b=sO o->∃o',h'.get? b=sO o')
  (tups:∀b xs,H b=sO (.tup xs)->H' b=sO (.tup xs)) (frzs:∀b o u,H b=sO (.frz o u)->H' b=sO (.frz o u)) (tbls:∀b ps,H b=sO (.tbl ps)->∃more,H' b=sO (.tbl (ps++more)))
  (ns:∀m,s.heap.Ns X.env.locals m->h'.Ns X.env.locals m) (hok:HOk X.prog X.w H' h') (hg:AllBare g') :
  Inv X pins σ H' { s with heap:=h',gens:=g',drawn:=d',toks:=t' }:=by
 have neL:∀b o,X.s₀.heap.get? b=sO o->b≠X.env.locals:=fun b o e=>uT (uJ (uC e) I.ok.above);have neC:∀b o,X.s₀.heap.get? b=sO o->b∉X.ex->b∉ch:=fun b o e hx hb=>by
  rcases(hch b hb).1 with z|z
  ·exact hx z
  ·exact absurd (uJ (uC e) z) (Uw _)
 have cellK:∀x c,X.env.cells.lookup x=sO c->∀v,s.heap.IsCell c v->h'.IsCell c v:=fun x c e v ⟨o,ho,hd⟩=>by
  have nch:c∉ch:=fun z=>(hch c z).2.2.1 x c e rfl;by_cases hc:c∈X.fs
  ·obtain⟨sl,q⟩:=slot c o (I.cne x c e) hc nch ho (I.freeC x c e)
   exact⟨_,q,hd⟩
  ·exact⟨o,keep c o (I.cne x c e) hc nch ho (I.freeC x c e),hd⟩
 refine⟨I.ok,I.os,hg,⟨fun b o e n hb hx=>?_,fun b o e n hb hx=>?_,fun b o e n hx=>?_,fun b o e hx=>?_,fun b xs e=>tups b xs (I.base.tups b xs e),fun b o xs e=>frzs b o xs (I.base.frzs b o xs e),fun b ps e=>?_⟩,?_,fun x c e=>?_,?_,fun x c e=>?_,fun p hp=>?_,hok,I.len⟩
 ·exact keep b o (neL b o e) hb (neC b o e hx) (I.base.keep b o e n hb hx) (I.base.free b o e n hx)
 ·obtain⟨sl,e1⟩:=I.base.slot b o e n hb hx
  obtain⟨sl',e2⟩:=slot b _ (neL b o e) hb (neC b o e hx) e1 (I.base.free b o e n hx);exact⟨sl',e2⟩
 ·obtain⟨o',e1⟩:=I.base.there b o e hx
  exact free b o' (neC b o e hx) e1 (I.base.free b o e n hx)
 ·obtain⟨o',e1⟩:=I.base.there b o e hx
  exact there b o' (neC b o e hx) e1
 ·obtain⟨m1,e1⟩:=I.base.tbls b ps e
  obtain⟨m2,e2⟩:=tbls b _ e1;exact⟨m1++m2,by rw[e2,Array.append_assoc]⟩
 ·obtain⟨m,hn,hl⟩:=I.loc
  refine⟨m,ns m hn,fun i x v e1 e2 e3=>?_⟩;obtain⟨u,r,l⟩:=hl i x v e1 e2 e3;refine⟨u,r,?_⟩;rcases l with l|⟨k,c,e,z⟩
  ·exact .inl l
  ·exact .inr ⟨k,c,e,cellK x c e _ z⟩
 ·obtain⟨v,z⟩:=I.cell x c e
  exact⟨v,cellK x c e v z⟩
 ·obtain⟨m,⟨o,_,_,ho,_⟩,_⟩:=I.loc
  exact free _ o (fun z=>(hch _ z).2.1 rfl) ho I.free
 ·obtain⟨v,o,ho,hd⟩:=I.cell x c e
  exact free c o (fun z=>(hch c z).2.2.1 x c e rfl) ho (I.freeC x c e)
 ·obtain⟨e,n,ne,nf,d⟩:=I.pin p hp
  have nch:p.1∉ch:=fun z=>(hch p.1 z).2.2.2 p hp rfl;exact⟨keep p.1 p.2 ne nf nch e n,free p.1 p.2 nch e n,ne,nf,d⟩
theorem Inv.un(I:Inv X pins σ H s)(u:Un X.fs [] H H' s.heap h')(hok:HOk X.prog X.w H' h'):Inv X pins σ H' { s with heap:=h',toks:=t' }:=by
 obtain⟨m,⟨o,es,ep,ho,r⟩,_⟩:=id I.loc;obtain⟨sl,hL⟩:=u.any ho I.free (by simp);exact I.step (g':=s.gens) (d':=s.drawn) (ch:=[]) (fun _ z=>nomatch z) (fun b o _ hb _ e n=>u.keep b o e n hb (by simp)) (fun b o _ hb _ e n=>u.slot b o e n hb (by simp)) (fun b o _ e n=>u.free b o e n (by simp)) (fun b o _ e=>u.there b o e (by simp)) u.tups u.frzs u.tbls (fun m' hm=>by
  obtain⟨o',es',ep',ho',r'⟩:=hm;rw[ho]at ho';cases ho';exact⟨_,es',ep',hL,r'⟩) hok I.bare
theorem Inv.call{d':Drawn}(I:Inv X pins σ H s)(u:Un (frs X.stack) ch H H' s.heap h')(hok:HOk X.prog X.w H' h')(hg:AllBare g')
  (hch:∀b∈ch,(b∈X.ex\/X.s₀.heap.objs.size<=b)/\b≠X.env.locals/\(∀x c,X.env.cells.lookup x=sO c->c≠b)/\∀p∈X.pn++pins,p.1≠b) :
  Inv X pins σ H' { s with heap:=h',gens:=g',drawn:=d',toks:=t' }:=by
 obtain⟨m,⟨o,es,ep,ho,r⟩,_⟩:=id I.loc;obtain⟨sl,hL⟩:=u.any ho I.free fun z=>(hch _ z).2.1 rfl;exact I.step (ch:=ch) hch (fun b o hL hb hc e n=>u.keep b o e n (fun z=>(uy.mp (I.stkSub b z)).elim hL hb) hc) (fun b o _ _ hc e n=>u.any e n hc) (fun b o hc e n=>u.free b o e n hc) (fun b o hc e=>u.there b o e hc) u.tups u.frzs u.tbls (fun m' hm=>by
  obtain⟨o',es',ep',ho',r'⟩:=hm;rw[ho]at ho';cases ho';exact⟨_,es',ep',hL,r'⟩) hok hg
theorem Inv.turned(I:Inv X pins σ H s)(k:∀b o,b≠it->s.heap.get? b=sO o->h'.get? b=sO o)(hn:H it=nO)(hL:it≠X.env.locals)
  (h1:it∈X.ex\/X.s₀.heap.objs.size<=it) (h2:∀x c,X.env.cells.lookup x=sO c->c≠it) (h3:∀p∈X.pn++pins,p.1≠it):Inv X pins σ H { s with heap:=h',toks:=t' }:=by
 have nit:∀b u,H b=sO u->b≠it:=fun b u e z=>by rw[z,hn]at e;cases e
 refine I.step (g':=s.gens) (d':=s.drawn) (ch:=[it]) (fun b hb=>?_) (fun b o _ _ hc e _=>k b o (fun z=>hc (by simp[z])) e) (fun b o _ _ hc e _=>⟨o.slots,k b o (fun z=>hc (by simp[z])) e⟩) (fun _ _ _ _ n=>n)
  (fun b o hc e=>⟨o,k b o (fun z=>hc (by simp[z])) e⟩) (fun _ _ e=>e) (fun _ _ _ e=>e) (fun b ps e=>⟨#[],by rw[e];simp⟩) (fun m hm=>?_) (fun b u e=>?_) I.bare
 ·have e:b=it:=by simpa using hb
  subst e;exact⟨h1,hL,h2,h3⟩
 ·obtain⟨o,es,ep,ho,r⟩:=hm
  exact⟨o,es,ep,k _ o (Ne.symm hL) ho,r⟩
 ·refine(I.hok b u e).stay (fun c v hc q=>k c v ?_ q) (fun _ q=>q) fun _ _ q=>q
  rcases hc with z|z
  ·rw[z];exact nit b u e
  ·exact nit c _ z
theorem Inv.tok(I:Inv X pins σ H s)(t:Nat):Inv X pins σ H { s with toks:=t }:=I.un (h':=s.heap) (t':=t) Un.refl I.hok
theorem Inv.kept(I:Inv X pins σ H s)(k:∀b u,s.heap.get? b=sO u->h'.get? b=sO u):Inv X pins σ H { s with heap:=h',toks:=t' }:=I.un (Un.kept k) (I.hok.kept k)
theorem Inv.laid(I:Inv X pins σ H s)(k:∀b u,s.heap.get? b=sO u->h'.get? b=sO u)(hp:s.heap.objs.size<=a)(new:ObjOk X.prog X.w (upd H a o) h' a o):
  Inv X pins σ (upd H a o) { s with heap:=h',toks:=t' }:=I.un (Un.laid k hp (I.hok.fresh hp)) (I.hok.laid k hp new)
theorem Inv.write{x e:aO}(I:Inv X pins σ H s)(mu:Mut (H x))(he:e=x\/H e=sO (.own x))(k:∀b u,b≠e->s.heap.get? b=sO u->h'.get? b=sO u)(heo:∃u,h'.get? e=sO u)
  (new:ObjOk X.prog X.w (upd H x o) h' x o):Inv X pins σ (upd H x o) { s with heap:=h',toks:=t' }:=I.un (Un.write mu he k heo) (I.hok.write mu he k heo new)
theorem Inv.pins_of{pins':List (aO×Obj)}(I:Inv X pins σ H s)(h:∀p∈pins',s.heap.get? p.1=sO p.2/\H p.1=nO/\p.1≠X.env.locals/\p.1∉X.fs/\∀v,p.2.data≠.cell v):Inv X pins' σ H s :=
 ⟨I.ok,I.os,I.bare,I.base,I.loc,I.cell,I.free,I.freeC,fun p hp=>(ux.mp hp).elim (fun z=>I.pin p (uz _ z)) (h p),I.hok,I.len⟩
theorem ZY(hN:N.Nodup)(a:N[i]?=sO x)(b:N[j]?=sO x):i=j:=by
 obtain⟨h1,e1⟩:=ud.mp a;obtain⟨h2,e2⟩:=ud.mp b;exact(List.getElem_inj hN).mp (e1.trans e2.symm)
theorem jr{M:Model}{v:V}(I:Inv X pins σ H s)(hN:X.N.Nodup)(hi:X.N[i]?=sO x)(hx:Loc X.env.scope x)(r:RelV v u)
  (h:∀s',Inv X pins (σ.set i (sO v)) H s'->(∃a,Heap.SameBut a s.heap s'.heap/\(a=X.env.locals\/X.env.cells.lookup x=sO a))->Q () s') (hf:X.fn x=tV\/X.env.scope.names.lookup x=sO .local:=by first|exact .inl rfl|exact .inr rfl|assumption):wpAny M A (storeName X.env x u) Q E s:=by
 obtain⟨m,hn,hl⟩:=id I.loc;have hcls:(X.env.scope.kind == .class || (X.env.scope.kind == .module && X.env.locals != X.env.globals))=fO:=by rw[I.ok.kind];rfl
 have hiσ:i < σ.length:=by rw[I.len];exact(ud.mp hi).1
 have cne:=I.cne;have tracked:∀{a:aO}{h':Heap},(∃o,s.heap.get? a=sO o/\H a=nO)->Heap.SameBut a s.heap h'->HOk X.prog X.w H h':=fun{a h'} ha hs b ob e=>by
  obtain⟨_,_,hfree⟩:=ha;refine(I.hok b ob e).stay (fun c w' hc q=>(hs.2 c ?_).trans q) (fun _ q=>q) fun _ _ q=>q;rintro rfl;rcases hc with rfl|hc
  ·rw[hfree]at e;cases e
  ·rw[hfree]at hc;cases hc
 rcases hx with hk|hk
 ·refine wpAny_storeName_local hk hn (fun h' hn' hs=>?_) hcls
  obtain⟨oL,_,_,hoL,_⟩:=id hn;refine h _ ⟨I.ok,I.os,I.bare,⟨fun b o e n hb hx=>?_,fun b o e n hb hx=>?_,I.base.free,fun b o e hx=>?_,I.base.tups,I.base.frzs,I.base.tbls⟩,⟨_,hn',fun j y v' e1 e2 e3=>?_⟩,fun y c e=>?_,I.free,I.freeC,fun p hp=>?_,tracked ⟨oL,hoL,I.free⟩ hs,by simpa using I.len⟩ ⟨_,hs,.inl rfl⟩
  ·exact(hs.2 b (uT (uJ (uC e) I.ok.above))).trans (I.base.keep b o e n hb hx)
  ·obtain⟨sl,e1⟩:=I.base.slot b o e n hb hx
   exact⟨sl,(hs.2 b (uT (uJ (uC e) I.ok.above))).trans e1⟩
  ·obtain⟨o',e1⟩:=I.base.there b o e hx
   exact⟨o',(hs.2 b (uT (uJ (uC e) I.ok.above))).trans e1⟩
  ·by_cases hj:j=i
   ·subst hj
    rw[hi]at e1;cases e1;rw[List.getElem?_set_self hiσ]at e2;cases e2;exact⟨u,r,.inl ⟨hk,by simp⟩⟩
   ·rw[List.getElem?_set_ne (Ne.symm hj)]at e2
    obtain⟨u',r',q⟩:=hl j y v' e1 e2 e3;refine⟨u',r',?_⟩;rcases q with⟨k,e⟩|⟨k,c,e,z⟩
    ·refine .inl ⟨k,?_⟩
     have:y≠x:=fun e=>hj (ZY hN e1 (e ▸ hi))
     simp[this,e]
    ·exact .inr ⟨k,c,e,z.sameBut hs (cne y c e)⟩
  ·obtain⟨w',z⟩:=I.cell y c e
   exact⟨w',z.sameBut hs (cne y c e)⟩
  ·obtain⟨e,n,ne,nf,d⟩:=I.pin p hp
   exact⟨(hs.2 p.1 ne).trans e,n,ne,nf,d⟩
 ·have hfn:X.fn x=tV:=by
   rcases hf with z|z
   ·exact z
   ·rw[z]at hk;cases hk
  obtain⟨c,hc⟩:=I.ok.has x (.inl hk);obtain⟨w',z⟩:=I.cell x c hc;refine wpAny_storeName_cell I.ok.kind hk hc z (fun h' hc' hs=>?_);obtain⟨oc,hoc,hocd⟩:=id z;refine h { s with heap:=h' } ⟨I.ok,I.os,I.bare,⟨fun b o e n hb hx=>?_,fun b o e n hb hx=>?_,I.base.free,fun b o e hx=>?_,I.base.tups,I.base.frzs,I.base.tbls⟩,⟨m,hn.sameBut hs (Ne.symm (cne x c hc)),fun j y v' e1 e2 e3=>?_⟩,fun y c' e=>?_,I.free,I.freeC,fun p hp=>?_,tracked ⟨oc,hoc,I.freeC x c hc⟩ hs,by simpa using I.len⟩ ⟨c,hs,.inr hc⟩
  ·exact(hs.2 b (uT (uJ (uC e) (I.ok.cab x c hfn hc)))).trans (I.base.keep b o e n hb hx)
  ·obtain⟨sl,e1⟩:=I.base.slot b o e n hb hx
   exact⟨sl,(hs.2 b (uT (uJ (uC e) (I.ok.cab x c hfn hc)))).trans e1⟩
  ·obtain⟨o',e1⟩:=I.base.there b o e hx
   exact⟨o',(hs.2 b (uT (uJ (uC e) (I.ok.cab x c hfn hc)))).trans e1⟩
  ·by_cases hj:j=i
   ·subst hj
    rw[hi]at e1;cases e1;rw[List.getElem?_set_self hiσ]at e2;cases e2;exact⟨u,r,.inr ⟨.inl hk,c,hc,hc'⟩⟩
   ·rw[List.getElem?_set_ne (Ne.symm hj)]at e2
    obtain⟨u',r',q⟩:=hl j y v' e1 e2 e3;refine⟨u',r',?_⟩;rcases q with q|⟨k,c',e,z'⟩
    ·exact .inl q
    ·refine .inr ⟨k,c',e,z'.sameBut hs ?_⟩
     rintro rfl;exact hj (ZY hN e1 (I.ok.inj _ _ _ e hc ▸ hi))
  ·by_cases hcc:c'=c
   ·subst hcc;exact⟨_,hc'⟩
   ·obtain⟨w2,z2⟩:=I.cell y c' e
    exact⟨w2,z2.sameBut hs hcc⟩
  ·obtain⟨e,n,ne,nf,d⟩:=I.pin p hp
   refine⟨(hs.2 p.1 ?_).trans e,n,ne,nf,d⟩;intro q;rw[q,hoc]at e;have q':oc=p.2:=uX.inj e;exact d w' (by rw[<- q'];exact hocd)
theorem ZZ{M:Model}{v:V}(I:Inv X pins σ H s)(hN:X.N.Nodup)(hi:X.N[i]?=sO x)(hx:Loc X.env.scope x)(r:RelV v u)
  (h:∀s',Inv X pins (σ.set i (sO v)) H s'->Q () s') (hf:X.fn x=tV\/X.env.scope.names.lookup x=sO .local:=by first|exact .inl rfl|exact .inr rfl|assumption):wpAny M A (storeName X.env x u) Q E s :=
 jr I hN hi hx r (fun s' I' _=>h s' I') hf
theorem Inv.call'(I:Inv X pins σ H s)(ho:s'.os=s.os)(u:Un (frs X.stack) ch H H' s.heap s'.heap)(hok:HOk X.prog X.w H' s'.heap)(hg:AllBare s'.gens)
  (hch:∀b∈ch,(b∈X.ex\/X.s₀.heap.objs.size<=b)/\b≠X.env.locals/\(∀x c,X.env.cells.lookup x=sO c->c≠b)/\∀p∈X.pn++pins,p.1≠b):Inv X pins σ H' s':=by
 obtain⟨h',g',d',t',o'⟩:=s';have e:o'=s.os:=ho;subst e;exact I.call (g':=g') (t':=t') (d':=d') u hok hg hch
end
abbrev XK:=aA->Option aO->Hp->Prop
abbrev St:=List (Option V)
variable{σ:St}
abbrev VK:=V->Hp->Prop
abbrev TE:=St->Hp->VK->Prop
variable{ta te:TE}
abbrev TT:=St->Hp->(Bool->Hp->Prop)->Prop
abbrev TA:=St->Hp->(List V->Hp->Prop)->Prop
structure Ends where
 nx:St->Hp->Prop
 rt:VK
 bk:St->Hp->Prop:=fun _ _=>False
 ct:St->Hp->Prop:=fun _ _=>False
variable{D:Ends}
abbrev TS:=Ends->St->Hp->Prop
variable{tb:TS}
def EP(X:Cx)(pins:List (aO×Obj))(σ:St)(Q:VK)(u:aA)(s':Shared):Prop:=∃v H',Inv X pins σ H' s'/\RelV v u/\Q v H'
def TP(X:Cx)(pins:List (aO×Obj))(σ:St)(Q:Bool->Hp->Prop)(b:Bool)(s':Shared):Prop:=∃H',Inv X pins σ H' s'/\Q b H'
def AP(X:Cx)(pins:List (aO×Obj))(σ:St)(Q:List V->Hp->Prop)(us:List aA)(s':Shared):Prop:=∃vs H',Inv X pins σ H' s'/\Vals vs us/\Q vs H'
def SP(X:Cx)(pins:List (aO×Obj))(D:Ends)(f:Flow)(s':Shared):Prop :=
 match f with
 |.next=>∃σ' H',Inv X pins σ' H' s'/\D.nx σ' H'
 |.brk=>∃σ' H',Inv X pins σ' H' s'/\D.bk σ' H'
 |.cont=>∃σ' H',Inv X pins σ' H' s'/\D.ct σ' H'
 |.ret u=>∃v σ' H',Inv X pins σ' H' s'/\RelV v u/\D.rt v H'
def PE(X:Cx)(e:Expr)(t:TE):Prop :=
 ∀(pins:List (aO×Obj))(s:Shared)(σ:St)(H:Hp)(Q:VK),Inv X pins σ H s->t σ H Q->wpAny (model X.prog X.w) X.A (eval e X.env) (EP X pins σ Q) X.xe s
def PT(X:Cx)(e:Expr)(t:TT):Prop :=
 ∀(pins:List (aO×Obj))(s:Shared)(σ:St)(H:Hp)(Q:Bool->Hp->Prop),Inv X pins σ H s->t σ H Q->wpAny (model X.prog X.w) X.A (isTrue e X.env (eval e X.env)) (TP X pins σ Q) X.xe s
def PW(X:Cx)(e:Expr)(t:TT):Prop :=
 ∀(whole:Sem aA)(pins:List (aO×Obj))(s:Shared)(σ:St)(H:Hp)(Q:Bool->Hp->Prop),Inv X pins σ H s->t σ H Q->wpAny (model X.prog X.w) X.A (isTrue e X.env whole) (TP X pins σ Q) X.xe s
theorem PW.pt{t:TT}(h:PW X e t):PT X e t:=h _
def PA(X:Cx)(es:List Expr)(t:TA):Prop :=
 ∀(pos:Pos)(pins:List (aO×Obj))(s:Shared)(σ:St)(H:Hp)(Q:List V->Hp->Prop),Inv X pins σ H s->t σ H Q->wpAny (model X.prog X.w) X.A (spliced (backTo pos (starEach es X.env))) (AP X pins σ Q) X.xe s
def PS(X:Cx)(st:Stmt)(t:TS):Prop :=
 ∀(pins:List (aO×Obj))(s:Shared)(σ:St)(H:Hp)(D:Ends),Inv X pins σ H s->t D σ H->wpAny (model X.prog X.w) X.A (exec st X.env) (SP X pins D) X.xe s
def PSs(X:Cx)(st:List Stmt)(t:TS):Prop :=
 ∀(pins:List (aO×Obj))(s:Shared)(σ:St)(H:Hp)(D:Ends),Inv X pins σ H s->t D σ H->wpAny (model X.prog X.w) X.A (execs st X.env) (SP X pins D) X.xe s
theorem thn{α:Type}{t:Sem α}{Q Q':α->Shared->Prop}{M:Model}(h:wpAny M A t Q E s)(hQ:∀a s,Q a s->Q' a s):wpAny M A t Q' E s:=wpAny_mono h hQ fun _ _ x=>x
section
def tVar(i:Nat):TE:=fun σ H Q=>∃v,σ[i]?=sO (sO v)/\Q v H
def tC(v:V):TE:=fun _ H Q=>Q v H
theorem zbO(hN:X.N[i]?=sO x)(hv:Vis X.env.scope x)(hd:(x == ("__debug__":Str))=fO:=by decide)(hcd:(x == ("__classdict__":Str))=fO:=by decide):PE X (.Name x pos) (tVar i):=by
 intro pins s σ H Q I h;obtain⟨v,e,h⟩:=h;obtain⟨m,hn,hl⟩:=I.loc;obtain⟨u,r,l⟩:=hl i x v hN e hv;have fin:EP X pins σ Q u s:=⟨v,H,I,r,h⟩;rcases l with⟨hk,hm⟩|⟨hk,c,hc,hcell⟩
 ·exact wpAny_Name (wpAny_loadName_local I.ok.kind hk hn hm fin) hd
 ·rcases hk with hk|hk
  ·exact wpAny_Name (wpAny_loadName_cell I.ok.kind hk hc hcell fin) hd
  ·exact wpAny_Name (wpAny_loadName_free I.ok.kind hk hc hcell fin hcd) hd
theorem zbP{i j pos}:PE X (.Constant (.int i) j pos) (tC (.int i)):=fun _ _ _ H _ I h=>wpAny_Constant_int ⟨.int i,H,I.tok _,⟨_,rfl⟩,h⟩
theorem zds{b j pos}:PE X (.Constant (.bool b) j pos) (tC (.bl b)):=fun _ _ _ H _ I h=>Constant_bool ⟨.bl b,H,I,rfl,h⟩
theorem zbQ{x j pos}:PE X (.Constant (.str x) j pos) (tC (.str x)):=fun _ _ _ H _ I h=>Calls.Constant_str ⟨.str x,H,I.tok _,⟨_,rfl⟩,h⟩
def Gl(X:Cx)(x:Str):Prop:=X.env.kindOf x=sO .globalImplicit
theorem vq{Q:VSP}(I:Inv X pins σ H s)(hg:Gl X x)(hm:X.mg x=sO u)(h:Q u s)
  (hd:(x == ("__debug__":Str))=fO:=by decide):wpAny (model X.prog X.w) X.A (eval (.Name x pos) X.env) Q E s :=
 Calls.Name_function_global I.ok.kind hg (Calls.loadGlobal_global (by rw[I.ok.glob];exact I.mod.glob.keeps I.bk) hm h) hd
theorem xp{Q:VSP}(I:Inv X pins σ H s)(hg:Gl X x)(hm:X.mg x=nO)(hv:bootBuiltins x=sO u)(h:Q u s)
  (hn:x≠"__name__":=by decide) (hd:(x == ("__debug__":Str))=fO:=by decide):wpAny (model X.prog X.w) X.A (eval (.Name x pos) X.env) Q E s:=by
 obtain⟨mb,h1,h2⟩:=I.mod.blt;exact Calls.Name_function_global I.ok.kind hg (Calls.loadGlobal_builtin (by rw[I.ok.glob];exact I.mod.glob.keeps I.bk) hm (by rw[I.ok.blt];exact h1.keeps I.bk) ((h2 x hn).trans hv) h) hd
theorem Qp{v:V}(hg:Gl X x)(hm:X.mg x=sO u)(r:RelV v u)(hd:(x == ("__debug__":Str))=fO:=by decide):PE X (.Name x pos) (tC v) :=
 fun _ _ _ H _ I h=>vq I hg hm ⟨v,H,I,r,h⟩ hd
variable{a b:Expr}{tb:TE}
def tB(t:TE):TT:=fun σ H Q=>t σ H fun x H1=>∃c,x=.bl c/\Q c H1
theorem zbR{t:TE}(h:PE X e t)(he:∀whole,isTrue e X.env whole=(do let v <- whole;standAt e.pos;holding [v] (truthy v)):=by intro _;rfl):PT X e (tB t):=by
 intro pins s σ H Q I hw;refine isTrue_plain (thn (h pins s σ H _ I hw) fun v s1 ⟨x,H1,I1,r1,q1⟩=>?_) (he _);obtain⟨d,rfl,q⟩:=q1;cases r1;exact wpAny_truthy_bool ⟨H1,I1,q⟩
variable{tA tB':TT}{rest:List Expr}
def tAnd(t u:TT):TT:=fun σ H Q=>t σ H fun c H1=>if c=tV then u σ H1 Q else Q fO H1
def tOr(t u:TT):TT:=fun σ H Q=>t σ H fun c H1=>if c=tV then Q tV H1 else u σ H1 Q
def tNot(t:TT):TT:=fun σ H Q=>t σ H fun c H1=>Q (!c) H1
theorem pw_and1(ha:PT X a tA):PW X (.BoolOp .And [a] pos) tA:=by
 intro wh pins s σ H Q I h;refine isTrue_and (thn (ha pins s σ H Q I h) fun c s1 e=>?_);cases c with
 |true=>exact isTrue_and_nil e
 |false=>exact e
theorem pw_or1(ha:PT X a tA):PW X (.BoolOp .Or [a] pos) tA:=by
 intro wh pins s σ H Q I h;refine isTrue_or (thn (ha pins s σ H Q I h) fun c s1 e=>?_);cases c with
 |false=>exact isTrue_or_nil e
 |true=>exact e
theorem pw_and(ha:PT X a tA)(hb:PW X (.BoolOp .And (b::rest) pos) tB'):PW X (.BoolOp .And (a::b::rest) pos) (tAnd tA tB'):=by
 intro wh pins s σ H Q I h;refine isTrue_and (thn (ha pins s σ H _ I h) fun c s1 hq_=>?_);obtain⟨H1,I1,q1⟩:=hq_;cases c with
 |true=>exact hb wh pins s1 σ H1 Q I1 q1
 |false=>exact⟨H1,I1,q1⟩
theorem pw_or(ha:PT X a tA)(hb:PW X (.BoolOp .Or (b::rest) pos) tB'):PW X (.BoolOp .Or (a::b::rest) pos) (tOr tA tB'):=by
 intro wh pins s σ H Q I h;refine isTrue_or (thn (ha pins s σ H _ I h) fun c s1 hq_=>?_);obtain⟨H1,I1,q1⟩:=hq_;cases c with
 |true=>exact⟨H1,I1,q1⟩
 |false=>exact hb wh pins s1 σ H1 Q I1 q1
theorem zbS(ha:PT X a tA):PT X (.UnaryOp .Not a pos) (tNot tA):=by
 intro pins s σ H Q I h;exact isTrue_not (ha pins s σ H (fun c H1=>Q (!c) H1) I h)
def Vb(ta tb:TE):TE:=fun σ H Q=>ta σ H fun x H1=>∃c,x=.bl c/\if c=tV then tb σ H1 Q else Q (.bl fO) H1
def tOrV(ta tb:TE):TE:=fun σ H Q=>ta σ H fun x H1=>∃c,x=.bl c/\if c=tV then Q (.bl tV) H1 else tb σ H1 Q
def za1(ta:TE):TE:=fun σ H Q=>ta σ H fun x H1=>∃c,x=.bl c/\Q (.bl (!c)) H1
theorem zbT{op}{t:TE}(h:PE X a t):PE X (.BoolOp op [a] pos) t:=fun pins s σ H Q I hw=>BoolOp_one (h pins s σ H Q I hw)
theorem zbU(ha:PE X a ta)(hb:PE X (.BoolOp .And (b::rest) pos) tb):PE X (.BoolOp .And (a::b::rest) pos) (Vb ta tb):=by
 intro pins s σ H Q I h;refine BoolOp_and (thn (ha pins s σ H _ I h) fun v s1 hq_=>?_);obtain⟨x,H1,I1,r1,q1⟩:=hq_;obtain⟨c,rfl,q1⟩:=q1;cases r1;refine wpAny_truthy_bool ?_;cases c with
 |true=>exact hb pins s1 σ H1 Q I1 q1
 |false=>exact⟨.bl fO,H1,I1,rfl,q1⟩
theorem zdt(ha:PE X a ta)(hb:PE X (.BoolOp .Or (b::rest) pos) tb):PE X (.BoolOp .Or (a::b::rest) pos) (tOrV ta tb):=by
 intro pins s σ H Q I h;refine BoolOp_or (thn (ha pins s σ H _ I h) fun v s1 hq_=>?_);obtain⟨x,H1,I1,r1,q1⟩:=hq_;obtain⟨c,rfl,q1⟩:=q1;cases r1;refine wpAny_truthy_bool ?_;cases c with
 |false=>exact hb pins s1 σ H1 Q I1 q1
 |true=>exact⟨.bl tV,H1,I1,rfl,q1⟩
theorem zbV(ha:PE X a ta):PE X (.UnaryOp .Not a pos) (za1 ta):=by
 intro pins s σ H Q I h;refine UnaryOp_ (thn (ha pins s σ H _ I h) fun v s1 hq_=>?_);obtain⟨x,H1,I1,r1,q1⟩:=hq_;obtain⟨c,rfl,q1⟩:=q1;cases r1;exact not_of (wpAny_truthy_bool ⟨.bl (!c),H1,I1,rfl,q1⟩)
def tIf(t:TT)(ta tb:TE):TE:=fun σ H Q=>t σ H fun c H1=>if c=tV then ta σ H1 Q else tb σ H1 Q
theorem Vc(hc:PT X c tA)(ha:PE X a ta)(hb:PE X b tb):PE X (.IfExp c a b pos) (tIf tA ta tb):=by
 intro pins s σ H Q I h;refine wpAny_IfExp (thn (hc pins s σ H _ I h) fun d s1 hq_=>?_);obtain⟨H1,I1,q1⟩:=hq_;cases d with
 |true=>exact ha pins s1 σ H1 Q I1 q1
 |false=>exact hb pins s1 σ H1 Q I1 q1
end
def SqL(K:uc)(H:Hp)(a:aO)(xs:List V):Prop :=
 Rd H a (.lst xs) \/
  ∃(o:Obj)(its:Array aA)(n:Nat),K.lookup a=sO o/\o.cls=.type "list"/\o.dict=nO/\o.data=.seq its n/\its.size<=sizeLine/\Vals xs its.toList
def SqT(K:uc)(H:Hp)(a:aO)(xs:List V):Prop :=
 Rd H a (.tup xs) \/
  ∃(o:Obj)(its:Array aA)(n:Nat),K.lookup a=sO o/\o.cls=.type "tuple"/\o.data=.seq its n/\its.size<=sizeLine/\Vals xs its.toList
def absV:aA->Option V
 |.none=>sO .non
 |.bool b=>sO (.bl b)
 |.int i _=>sO (.int i)
 |.str x _=>sO (.str x)
 |.bytes b _=>sO (.byt b)
 |.float b _=>sO (.flt b)
 |.ref a=>sO (.ref a)
 |.type n=>sO (.ty n)
 |_=>nO
theorem RelV.abs{x:V}(r:RelV x u):absV u=sO x:=by
 cases x with
 |non=>cases r;rfl
 |bl _=>cases r;rfl
 |int _=>obtain⟨t,rfl⟩:=r;rfl
 |str _=>obtain⟨t,rfl⟩:=r;rfl
 |byt _=>obtain⟨t,rfl⟩:=r;rfl
 |flt _=>obtain⟨t,rfl⟩:=r;rfl
 |ref _=>cases r;rfl
 |ty _=>cases r;rfl
theorem RelV.inj{x y:V}(r:RelV x u)(q:RelV y u):x=y:=uX.inj (r.abs.symm.trans q.abs)
theorem Vals.inj:∀{xs ys:List V}{us:List aA},Vals xs us->Vals ys us->xs=ys
 |_,_,_,.nil,.nil=>rfl
 |_,_,_,.cons r t,.cons r' t'=>by rw[r.inj r',Vals.inj t t']
section
variable{ys:List V}
theorem SqL.of{K:uc}(h:H a=sO (.lst xs)):SqL K H a xs:=.inl (.inl h)
theorem SqT.of{K:uc}(h:H a=sO (.tup xs)):SqT K H a xs:=.inl (.inl h)
theorem Inv.list(I:Inv X pins σ H s)(h:SqL X.K H a xs):∃its:List aA,Vals xs its/\PlainL s.heap a its.toArray/\xs.length<=sizeLine:=by
 rcases h with h|⟨o,its,n,hk,hc,hd,hs,hz,r⟩
 ·obtain⟨z,its,n,r,e⟩:=h.ok I.hok
  exact⟨its,r,⟨_,n,e,rfl,rfl,rfl⟩,z⟩
 ·refine⟨its.toList,r,⟨o,n,I.kIn a o hk,hc,hd,by simpa using hs⟩,?_⟩
  have e:=r.length;simp only[Array.length_toList]at e
  lia
theorem Inv.tuple(I:Inv X pins σ H s)(h:SqT X.K H a xs):∃its:List aA,Vals xs its/\IsTup s.heap a its.toArray/\xs.length<=sizeLine:=by
 rcases h with h|⟨o,its,n,hk,hc,hs,hz,r⟩
 ·obtain⟨z,its,r,p⟩:=h.ok I.hok
  exact⟨its,r,p.is,z⟩
 ·refine⟨its.toList,r,⟨o,I.kIn a o hk,hc,n,by simpa using hs⟩,?_⟩
  have e:=r.length;simp only[Array.length_toList]at e
  lia
theorem Inv.list_inj(I:Inv X pins σ H s)(h:SqL X.K H a xs)(h':SqL X.K H a ys):xs=ys:=by
 obtain⟨its,r,⟨o,n,e,_,_,d⟩,_⟩:=I.list h;obtain⟨its',r',⟨o',n',e',_,_,d'⟩,_⟩:=I.list h';rw[e]at e';cases e';rw[d]at d';injection d' with d1 _
 have:its=its':=by simpa using congrArg Array.toList d1
 subst this;exact r.inj r'
theorem Inv.tuple_inj(I:Inv X pins σ H s)(h:SqT X.K H a xs)(h':SqT X.K H a ys):xs=ys:=by
 obtain⟨its,r,⟨o,e,_,n,d⟩,_⟩:=I.tuple h;obtain⟨its',r',⟨o',e',_,n',d'⟩,_⟩:=I.tuple h';rw[e]at e';cases e';rw[d]at d';injection d' with d1 _
 have:its=its':=by simpa using congrArg Array.toList d1
 subst this;exact r.inj r'
end
abbrev Cx.wish(X:Cx)(E:VSP):Cx:={ X with xe:=E }
abbrev Cx.nox(X:Cx):Cx:=X.wish fun _ _=>False
theorem Cx.Ok.wish(ok:X.Ok)(E:VSP):(X.wish E).Ok :=
 ⟨ok.mod,ok.kind,ok.glob,ok.blt,ok.above,ok.inj,ok.has,ok.cab,ok.hd,ok.frames,ok.stk,ok.exf,ok.bs,ok.bsz,ok.noex,ok.exfs,ok.funs,ok.frf⟩
theorem Cx.Ok.unwish(ok:(X.wish E).Ok):X.Ok :=
 ⟨ok.mod,ok.kind,ok.glob,ok.blt,ok.above,ok.inj,ok.has,ok.cab,ok.hd,ok.frames,ok.stk,ok.exf,ok.bs,ok.bsz,ok.noex,ok.exfs,ok.funs,ok.frf⟩
theorem Inv.wish(I:Inv X pins σ H s)(E:VSP):Inv (X.wish E) pins σ H s:=⟨I.ok.wish E,I.os,I.bare,I.base,I.loc,I.cell,I.free,I.freeC,I.pin,I.hok,I.len⟩
theorem Inv.unwish(I:Inv (X.wish E) pins σ H s):Inv X pins σ H s:=⟨I.ok.unwish,I.os,I.bare,I.base,I.loc,I.cell,I.free,I.freeC,I.pin,I.hok,I.len⟩
theorem SP.unwish{f:Flow}(h:SP (X.wish E) pins D f s'):SP X pins D f s':=by
 cases f with
 |next=>obtain⟨σ',H',I,q⟩:=h;exact⟨σ',H',I.unwish,q⟩
 |brk=>obtain⟨σ',H',I,q⟩:=h;exact⟨σ',H',I.unwish,q⟩
 |cont=>obtain⟨σ',H',I,q⟩:=h;exact⟨σ',H',I.unwish,q⟩
 |ret u=>obtain⟨v,σ',H',I,r,q⟩:=h;exact⟨v,σ',H',I.unwish,r,q⟩
theorem PSs.nox{st:List Stmt}{t:TS}(h:PSs X.nox st t):PSs X st t:=fun pins s σ H D I hw =>
 wpAny_mono (h pins s σ H D (I.wish _) hw) (fun _ _ q=>q.unwish) fun _ _ z=>False.elim z
section
variable{rest:List Stmt}{t u:TS}
def xA:TS:=fun D σ H=>D.nx σ H
def tSeq(t u:TS):TS:=fun D σ H=>t { D with nx:=u D } σ H
theorem Qq:PSs X [] xA:=fun _ _ σ H _ I h=>wpAny_execs_nil ⟨σ,H,I,h⟩
theorem Vd(h1:PS X st t)(h2:PSs X rest u):PSs X (st::rest) (tSeq t u):=by
 intro pins s σ H D I h;refine wpAny_execs_cons (thn (h1 pins s σ H { D with nx:=u D } I h) fun f s1 q=>?_);cases f with
 |next =>
  obtain⟨σ',H',I',q⟩:=q;exact h2 pins s1 σ' H' D I' q
 |ret v=>exact q
 |brk=>exact q
 |cont=>exact q
theorem Qr(h1:PS X st t):PSs X [st] t:=by
 intro pins s σ H D I h;refine wpAny_execs_cons (thn (h1 pins s σ H D I h) fun f s1 q=>?_);cases f with
 |next=>exact wpAny_execs_nil q
 |ret v=>exact q
 |brk=>exact q
 |cont=>exact q
theorem Inv.quiet(I:Inv X pins σ H s):interactive X.env=fO:=by simp[interactive,I.ok.kind]
def Ve(te:TE):TS:=fun D σ H=>te σ H fun _ H1=>D.nx σ H1
theorem Qs(he:PE X e te)(hs:swapsWith e nO pos.line X.env=pure fO:=by rfl):PS X (.Expr e pos) (Ve te):=by
 intro pins s σ H D I h;exact wpAny_Expr_any (thn (he pins s σ H _ I h) fun v s1 ⟨x,H1,I1,r1,q1⟩=>⟨σ,H1,I1,q1⟩) I.quiet hs
def tRet(te:TE):TS:=fun D σ H=>te σ H D.rt
theorem zbW(he:PE X e te):PS X (.Return (sO e) pos) (tRet te):=by
 intro pins s σ H D I h;exact wpAny_Return_some (thn (he pins s σ H _ I h) fun v s1 ⟨x,H1,I1,r1,q1⟩=>⟨x,σ,H1,I1,r1,q1⟩)
def tIfS(c:TT)(t u:TS):TS:=fun D σ H=>c σ H fun b H1=>if b=tV then t D σ H1 else u D σ H1
theorem zdu{a b:List Stmt}{tc:TT}(hc:PT X c tc)(ha:PSs X a t)(hb:PSs X b u):PS X (.If c a b pos) (tIfS tc t u):=by
 intro pins s σ H D I h;refine wpAny_If (thn (hc pins s σ H _ I h) fun d s1 hq_=>?_);obtain⟨H1,I1,q1⟩:=hq_;cases d with
 |true=>exact ha pins s1 σ H1 D I1 q1
 |false=>exact hb pins s1 σ H1 D I1 q1
end
abbrev TG:=V->St->Hp->(St->Hp->Prop)->Prop
abbrev TGs:=List V->St->Hp->(St->Hp->Prop)->Prop
def PG(X:Cx)(target:Expr)(t:TG):Prop :=
 ∀(pins:List (aO×Obj))(s:Shared)(σ:St)(H:Hp)(v:V)(u:aA)(Q:St->Hp->Prop),Inv X pins σ H s->RelV v u->t v σ H Q ->
  wpAny (model X.prog X.w) X.A (assign target X.env u) (fun _ s'=>∃σ' H',Inv X pins σ' H' s'/\Q σ' H') X.xe s
def PGs(X:Cx)(ts:List Expr)(t:TGs):Prop :=
 ∀(pins:List (aO×Obj))(s:Shared)(σ:St)(H:Hp)(vs:List V)(us:List aA)(Q:St->Hp->Prop),Inv X pins σ H s->Vals vs us->t vs σ H Q ->
  wpAny (model X.prog X.w) X.A (assignInOrder ((assignEach ts X.env).map (·.2)) us) (fun _ s'=>∃σ' H',Inv X pins σ' H' s'/\Q σ' H') X.xe s
abbrev TSet:=V->V->V->Hp->(Hp->Prop)->Prop
def PSet(X:Cx)(t:TSet):Prop :=
 ∀(pins:List (aO×Obj))(s:Shared)(σ:St)(H:Hp)(o i v:V)(ov iv u:aA)(Q:Hp->Prop),Inv X pins σ H s->RelV o ov->RelV i iv->RelV v u->t o i v H Q ->
  wpAny (model X.prog X.w) X.A (setItem ov iv u) (fun _ s'=>∃H',Inv X pins σ H' s'/\Q H') X.xe s
def xZ(i:Nat):TG:=fun v σ H Q=>Q (σ.set i (sO v)) H
theorem Qt(hN:X.N.Nodup)(hi:X.N[i]?=sO x)(hx:Loc X.env.scope x)(hf:X.fn x=tV\/X.env.scope.names.lookup x=sO .local:=by first|exact .inl rfl|exact .inr rfl|assumption):PG X (.Name x pos) (xZ i):=by
 intro pins s σ H v u Q I r h;exact wpAny_assign_Name (ZZ I hN hi hx r (fun s' I'=>⟨_,H,I',h⟩) hf)
def gNil:TGs:=fun vs σ H Q=>vs=[]/\Q σ H
def za2(t:TG)(u:TGs):TGs:=fun vs σ H Q=>∃v r,vs=v::r/\t v σ H fun σ' H'=>u r σ' H' Q
theorem Qu:PGs X [] gNil:=by
 intro pins s σ H vs us Q I r h;obtain⟨e,h⟩:=h;subst e;cases r;exact assignInOrder_nil ⟨σ,H,I,h⟩
theorem Vf{t:TG}{u:TGs}(h1:PG X e t)(h2:PGs X es u)
  (hs:(assignEach (e::es) X.env).map (·.2)=assign e X.env::(assignEach es X.env).map (·.2):=by rfl):PGs X (e::es) (za2 t u):=by
 intro pins s σ H vs us Q I r h;obtain⟨v,vr,e1,h⟩:=h;subst e1;cases r with
 |cons r rr =>
  rw[hs];refine assignInOrder_cons (thn (h1 pins s σ H _ _ _ I r h) fun _ s1 hq_=>?_);obtain⟨σ1,H1,I1,q1⟩:=hq_;exact h2 pins s1 σ1 H1 _ _ Q I1 rr q1
def gTup(K:uc)(n:Nat)(t:TGs):TG:=fun v σ H Q=>∃a xs,v=.ref a/\SqT K H a xs/\xs.length=n/\t xs σ H Q
theorem zbX{k:Nat}{t:TGs}(hc:X.calm=tV)(h:PGs X es t)
  (hn:(assignEach es X.env).length=n:=by rfl) (hst:(assignEach es X.env).findIdx? (·.1)=nO:=by rfl):PG X (.Tuple es k pos) (gTup X.K n t):=by
 intro pins s σ H v u Q I r hw;obtain⟨a,xs,e1,hq,hl,hw⟩:=hw;subst e1;cases r;obtain⟨its,rv,ht,hz⟩:=I.tuple hq;refine assign_Tuple_tuple (I.ok.hd hc) ht (by simp[hn,<- hl,rv.length]) hst fun h' hx=>?_;have I1:Inv X pins σ H { s with heap:=h' }:=I.kept (t':=s.toks) fun b o e=>hx b o (uT (uC e)) e;exact h pins _ σ H xs _ Q I1 (by simpa using rv) hw
def gSub(to ti:TE)(t:TSet):TG:=fun v σ H Q=>to σ H fun o H1=>ti σ H1 fun i H2=>t o i v H2 fun H3=>Q σ H3
theorem zbY{o i:Expr}{to ti:TE}{t:TSet}(ho:PE X o to)(hi:PE X i ti)(hs:PSet X t)
  (ha:∀v,assign (.Subscript o i pos) X.env v=(do
   let ov <- holding [v] (eval o X.env)
   let iv <- holding [v,ov] (eval i X.env)
   standAt pos
   holding [v,ov,iv] (setItem ov iv v)
   release [v,ov,iv] []):=by intro _;rfl):PG X (.Subscript o i pos) (gSub to ti t):=by
 intro pins s σ H v u Q I r h;rw[ha];refine bA (wpAny_holding (thn (ho pins s σ H _ I h) fun ov s1 hq_=>?_));obtain⟨x,H1,I1,r1,q1⟩:=hq_;refine bA (wpAny_holding (thn (hi pins s1 σ H1 _ I1 q1) fun iv s2 hq_=>?_));obtain⟨y,H2,I2,r2,q2⟩:=hq_;refine bA (wpAny_standAt (bA (wpAny_holding (thn (hs pins s2 σ H2 x y v ov iv u _ I2 r1 r2 r q2) fun _ s3 hq_=>?_))));obtain⟨H3,I3,q3⟩:=hq_;exact wpAny_release ⟨σ,H3,I3,q3⟩
def tAsg(te:TE)(g:TG):TS:=fun D σ H=>te σ H fun x H1=>g x σ H1 D.nx
theorem zbZ{g:TG}(he:PE X e te)(hg:PG X tg g)(hs:swapsWithSole [tg] e pos.line X.env=pure fO:=by rfl)(hw:swappedStores [tg] e X.env=pure nO:=by rfl)
  (h1:(assignEach [tg] X.env).map (·.2)=[assign tg X.env]:=by rfl):PS X (.Assign [tg] e pos) (tAsg te g):=by
 intro pins s σ H D I h;refine wpAny_Assign_stores (thn (he pins s σ H _ I h) fun v s1 ⟨x,H1,I1,r1,q1⟩=>?_) hs hw;rw[h1];exact thn (hg pins s1 σ H1 x v _ I1 r1 q1) fun _ s2 q=>q
theorem zb0(hN:X.N.Nodup)(hi:X.N[i]?=sO x)(hx:Loc X.env.scope x)(he:PE X e te)(hs:swapsWith e (sO (.Name x pos')) pos.line X.env=pure fO:=by rfl)(hf:X.fn x=tV\/X.env.scope.names.lookup x=sO .local:=by first|exact .inl rfl|exact .inr rfl|assumption):
  PS X (.Assign [.Name x pos'] e pos) (tAsg te (xZ i)):=by
 intro pins s σ H D I h;refine wpAny_Assign_Name (thn (he pins s σ H _ I h) fun v s1 ⟨y,H1,I1,r1,q1⟩=>?_) hs;exact ZZ I1 hN hi hx r1 (fun s2 I2=>⟨_,H1,I2,q1⟩) hf
def Vg(c:TT)(tb:TS):TS:=fun D σ H=>∃W:Nat->St->Hp->Prop,(∃m,W m σ H)/\∀m σ H,W m σ H ->
 c σ H fun b H1=>if b=tV then ∃N:St->Hp->Prop,(∀σ' H',N σ' H'->∃m',m' < m/\W m' σ' H')/\tb { D with nx:=N,ct:=N,bk:=D.nx } σ H1 else D.nx σ H1
theorem Vh{tc:TT}(hp:PassesOwn (model X.prog X.w) X.A X.env X.xe)(hc:PT X c tc)(hb:PSs X body tb):PS X (.While c body [] pos) (Vg tc tb):=by
 intro pins s σ H D I h;obtain⟨W,⟨m0,w0⟩,turn⟩:=h;refine wpAny_While (codeAny_whileLoop (fun n s'=>∃σ' H',Inv X pins σ' H' s'/\W n σ' H') ?_ m0 ⟨σ,H,I,w0⟩);rintro n s1 ⟨σ1,H1,I1,w1⟩;refine wpAny_passesOwn hp (thn (hc pins s1 σ1 H1 _ I1 (turn n σ1 H1 w1)) fun b s2 hq_=>?_);obtain⟨H2,I2,q2⟩:=hq_;cases b with
 |true =>
  obtain⟨N,hN,q2⟩:=q2;rw[iP rfl];refine wpAny_passesOwn hp (thn (hb pins s2 σ1 H2 _ I2 q2) fun f s3 q3=>?_);cases f with
  |next =>
   obtain⟨σ3,H3,I3,n3⟩:=q3;obtain⟨m',hm,w3⟩:=hN σ3 H3 n3;exact⟨m',hm,σ3,H3,I3,w3⟩
  |cont =>
   obtain⟨σ3,H3,I3,n3⟩:=q3;obtain⟨m',hm,w3⟩:=hN σ3 H3 n3;exact⟨m',hm,σ3,H3,I3,w3⟩
  |brk=>exact q3
  |ret v=>exact q3
 |false =>
  rw[iN uE];exact wpAny_execs_nil ⟨σ1,H2,I2,q2⟩
structure It where
 go:Nat->Hp->Prop
 yld:Nat->Hp->V->Hp->Prop
 stop:Nat->Hp->Prop
def FpOk(X:Cx)(pins:List (aO×Obj))(H:Hp)(b:aO):Prop :=
 H b=nO/\b≠X.env.locals/\b∉X.fs/\(b∈X.ex\/X.s₀.heap.objs.size<=b)/\(∀x c,X.env.cells.lookup x=sO c->c≠b)/\∀p∈X.pn++pins,p.1≠b
theorem Inv.fpOk(I:Inv X pins σ H s)(hb:s.heap.objs.size<=b)(hn:H' b=nO):FpOk X pins H' b:=by
 refine⟨hn,Nat.ne_of_gt (uJ I.lt hb),I.nofs hb,.inr (uH I.sz hb),fun x c e z=>?_,fun p hp z=>?_⟩
 ·obtain⟨v,q⟩:=I.cell x c e
  exact absurd (uJ q.lt (by rw[z];exact hb)) (Uw _)
 ·exact absurd (uJ (uC (I.pin p hp).1) (by rw[z];exact hb)) (Uw _)
structure Turn(P:Program)(w:World)(K:uc)(tg:Expr)(J:It)(fp:List aO)(it:aO)(tn:Nat->Heap->Prop):Prop where
 mem:it∈fp
 obj:∀i h,tn i h->∀b∈fp,∃o,h.get? b=sO o/\∀v,o.data≠.cell v
 keep:∀i h h',tn i h->(∀b∈fp,∀o,h.get? b=sO o->h'.get? b=sO o)->tn i h'
 item:∀(X:Cx),X.prog=P->X.w=w->X.K=K->X.calm=tV->∀(i:Nat)(pins:List (aO×Obj))(s:Shared)(σ:St)(H:Hp)(E:VSP),Inv X pins σ H s->(∀b∈fp,FpOk X pins H b)->tn i s.heap->J.go i H ->
  wpAny (model P w) X.A (pyNext (.ref it)) (fun r s1=>∃u,r=sO u /\
   wpAny (model P w) X.A (letOwnedTupleGo tg (.ref it) u) (fun _ s2=>∃x H',Inv X pins σ H' s2/\RelV x u/\J.yld i H x H'/\tn (i+1) s2.heap/\∀b∈fp,H' b=nO) E s1) E s
 done:∀(X:Cx),X.prog=P->X.w=w->X.K=K->X.calm=tV->∀(i:Nat)(pins:List (aO×Obj))(s:Shared)(σ:St)(H:Hp)(E:VSP),Inv X pins σ H s->(∀b∈fp,FpOk X pins H b)->tn i s.heap->J.stop i H ->
  wpAny (model P w) X.A (pyNext (.ref it)) (fun r s1=>r=nO/\Inv X pins σ H s1) E s
 self:∀(A:Around)(i:Nat)(s:Shared)(Q:VSP)(E:VSP),tn i s.heap->Q (.ref it) s->wpAny (model P w) A (pyIter (.ref it)) Q E s
abbrev TI:=St->Hp->(It->Hp->Prop)->Prop
def PIE(X:Cx)(pins:List (aO×Obj))(σ:St)(tg:Expr)(R:It->Hp->Prop)(itv:aA)(s2:Shared):Prop :=
 ∃(it:aO)(fp:List aO)(tn:Nat->Heap->Prop)(J:It)(H':Hp),itv=.ref it/\Inv X pins σ H' s2/\Turn X.prog X.w X.K tg J fp it tn/\tn 0 s2.heap/\(∀b∈fp,FpOk X pins H' b)/\R J H'
def PI(X:Cx)(tg iter:Expr)(wi:TI):Prop :=
 ∀(pins:List (aO×Obj))(s:Shared)(σ:St)(H:Hp)(R:It->Hp->Prop),Inv X pins σ H s->wi σ H R ->
  wpAny (model X.prog X.w) X.A (eval iter X.env) (fun v s1=>wpAny (model X.prog X.w) X.A (pyIter v) (PIE X pins σ tg R) X.xe s1) X.xe s
theorem Z0{M:Model}{o:Obj}{n:String}{vs:Array aA}(ho:s.heap.get? it=sO o)(hc:o.cls=.type n)(hd:o.data=.fields vs)
  (hn:["enumerate","zip","dict_itemiterator","dict_reverseitemiterator","odict_iterator","itertools.zip_longest","itertools.pairwise"].contains n=fO) (hQ:Q () s):wpAny M A (letOwnedTupleGo tg (.ref it) u) Q E s:=by
 unfold letOwnedTupleGo;cases tg<;>first
  |exact pO hQ
  | (cases u<;>first
    |exact pO hQ
    | (refine bA (wpAny_load ho ?_)
       rw[hc,hd];show wpAny M A (if(["enumerate","zip","dict_itemiterator","dict_reverseitemiterator","odict_iterator","itertools.zip_longest","itertools.pairwise"].contains n && vs[0]? == sO (rawInt _))=tV then _ else _) Q E s;rw[iN (by intro h;rw[hn,Bool.false_and]at h;cases h)];exact pO hQ))
def Itl(K:uc)(a:aO):It :=
 ⟨fun i H=>∃xs x,SqL K H a xs/\xs[i]?=sO x,fun i H x H'=>H'=H/\∀xs,SqL K H a xs->xs[i]?=sO x,fun i H=>∃xs,SqL K H a xs/\xs.length<=i⟩
def Itt(K:uc)(a:aO):It :=
 ⟨fun i H=>∃xs x,SqT K H a xs/\xs[i]?=sO x,fun i H x H'=>H'=H/\∀xs,SqT K H a xs->xs[i]?=sO x,fun i H=>∃xs,SqT K H a xs/\xs.length<=i⟩
def Itr(lo:Int)(n:Nat):It:=⟨fun i _=>i < n,fun i H x H'=>H'=H/\x=.int (lo+i),fun i _=>n<=i⟩
theorem Wn{K:uc}(a it:aO):Turn P w K tg (Itl K a) [it] it (fun i h=>h.IsListIter it a i) where
 mem:=by simp
 obj:=fun i h st b hb=>by
  have e:b=it:=by simpa using hb
  subst e;obtain⟨o,e,c,d⟩:=st;exact⟨o,e,fun v z=>by rw[d]at z;cases z⟩
 keep:=fun i h h' st k=>st.at fun o e=>k it (by simp) o e
 item:=by
  intro X hP hw hK hc i pins s σ H E I hf st hg;subst hP hw hK;obtain⟨xs,x,hq,hx⟩:=hg;obtain⟨its,rv,p,hz⟩:=I.list hq;obtain⟨u,hu,ru⟩:=rv.get hx;obtain⟨f0,f1,f2,f3,f4,f5⟩:=hf it (by simp);refine wpAny_pyNext_list_item st p.isList (x:=u) (by simpa using hu) fun h' st' sb=>?_;have I1:Inv X pins σ H { s with heap:=h' }:=I.turned (t':=s.toks) (fun b o hb e=>(sb.2 b hb).trans e) f0 f1 f3 f4 f5;obtain⟨o,e,c,d⟩:=id st';exact⟨u,rfl,Z0 (s:={ s with heap:=h' }) e c d (by decide) ⟨x,H,I1,ru,⟨rfl,fun ys hy=>by rw[I.list_inj hy hq];exact hx⟩,st',fun b hb=>(hf b hb).1⟩⟩
 done:=by
  intro X hP hw hK hc i pins s σ H E I hf st hg;subst hP hw hK;obtain⟨xs,hq,hx⟩:=hg;obtain⟨its,rv,p,hz⟩:=I.list hq;obtain⟨f0,f1,f2,f3,f4,f5⟩:=hf it (by simp);have hl:=rv.length;exact wpAny_pyNext_list_end (I.ok.hd hc) st p.isList (by simp;lia) fun h' eb=>⟨rfl,I.turned (t':=s.toks) (fun b o hb e=>eb b o hb e) f0 f1 f3 f4 f5⟩
 self:=fun _ _ _ _ _ st h=>wpAny_pyIter_listiter st h
theorem YZ{K:uc}(a it:aO):Turn P w K tg (Itt K a) [it] it (fun i h=>h.IsTupleIter it a i) where
 mem:=by simp
 obj:=fun i h st b hb=>by
  have e:b=it:=by simpa using hb
  subst e;obtain⟨o,e,c,d⟩:=st;exact⟨o,e,fun v z=>by rw[d]at z;cases z⟩
 keep:=fun i h h' st k=>st.at fun o e=>k it (by simp) o e
 item:=by
  intro X hP hw hK hc i pins s σ H E I hf st hg;subst hP hw hK;obtain⟨xs,x,hq,hx⟩:=hg;obtain⟨its,rv,p,hz⟩:=I.tuple hq;obtain⟨u,hu,ru⟩:=rv.get hx;obtain⟨f0,f1,f2,f3,f4,f5⟩:=hf it (by simp);refine wpAny_pyNext_tuple_item st (show s.heap.IsTuple a its.toArray from p) (x:=u) (by simpa using hu) fun h' st' sb=>?_;have I1:Inv X pins σ H { s with heap:=h' }:=I.turned (t':=s.toks) (fun b o hb e=>(sb.2 b hb).trans e) f0 f1 f3 f4 f5;obtain⟨o,e,c,d⟩:=id st';exact⟨u,rfl,Z0 (s:={ s with heap:=h' }) e c d (by decide) ⟨x,H,I1,ru,⟨rfl,fun ys hy=>by rw[I.tuple_inj hy hq];exact hx⟩,st',fun b hb=>(hf b hb).1⟩⟩
 done:=by
  intro X hP hw hK hc i pins s σ H E I hf st hg;subst hP hw hK;obtain⟨xs,hq,hx⟩:=hg;obtain⟨its,rv,p,hz⟩:=I.tuple hq;obtain⟨f0,f1,f2,f3,f4,f5⟩:=hf it (by simp);have hl:=rv.length;exact wpAny_pyNext_tuple_end (I.ok.hd hc) st (show s.heap.IsTuple a its.toArray from p) (by simp;lia) fun h' eb=>⟨rfl,I.turned (t':=s.toks) (fun b o hb e=>eb b o hb e) f0 f1 f3 f4 f5⟩
 self:=fun _ _ _ _ _ st h=>wpAny_pyIter_tupleiter st h
theorem Y0{K:uc}(it:aO)(lo:Int)(n:Nat):Turn P w K tg (Itr lo n) [it] it (fun i h=>IsRangeIter h it (lo+(i:Nat)*1) ((n:Int)-(i:Nat)) 1) where
 mem:=by simp
 obj:=fun i h st b hb=>by
  have e:b=it:=by simpa using hb
  subst e;exact⟨_,st,fun v z=>by
   have z':Data.fields _=Data.cell v:=z;cases z'⟩
 keep:=fun i h h' st k=>k it (by simp) _ st
 item:=by
  intro X hP hw hK hc i pins s σ H E I hf st hg;subst hP hw hK;obtain⟨f0,f1,f2,f3,f4,f5⟩:=hf it (by simp);have W:=Walks.range (prog:=X.prog) (w:=X.w) (I.ok.hd hc) it lo 1 n;refine W.item i s _ _ hg st fun v h' tk hv st' kk=>?_;obtain⟨t,rfl⟩:=hv;have I1:Inv X pins σ H { s with heap:=h',toks:=tk }:=I.turned (fun b o hb e=>kk b o (by simpa using hb) e) f0 f1 f3 f4 f5;refine⟨_,rfl,Z0 (s:={ s with heap:=h',toks:=tk }) (n:="range_iterator") st' rfl rfl (by decide) ⟨.int (lo+i),H,I1,⟨t,?_⟩,⟨rfl,rfl⟩,st',fun b hb=>(hf b hb).1⟩⟩;rw[Int.mul_one]
 done:=by
  intro X hP hw hK hc i pins s σ H E I hf st hg;subst hP hw hK;obtain⟨f0,f1,f2,f3,f4,f5⟩:=hf it (by simp);exact wpAny_pyNext_range_end (I.ok.hd hc) st (by have:n<=i:=hg;lia) fun h' eb=>⟨rfl,I.turned (t':=s.toks) (fun b o hb e=>eb b o hb e) f0 f1 f3 f4 f5⟩
 self:=fun _ _ _ _ _ st h=>wpAny_pyIter_rangeiter st h
def Vi(K:uc)(tl:TE):TI:=fun σ H R=>tl σ H fun x H1=>∃a,x=.ref a/\(∃xs,SqL K H1 a xs)/\R (Itl K a) H1
def iTup(K:uc)(tl:TE):TI:=fun σ H R=>tl σ H fun x H1=>∃a,x=.ref a/\(∃xs,SqT K H1 a xs)/\R (Itt K a) H1
theorem Qv{l:Expr}{tl:TE}(hl:PE X l tl):PI X tg l (Vi X.K tl):=by
 intro pins s σ H R I h;refine thn (hl pins s σ H _ I h) fun v s1 hq_=>?_;obtain⟨x,H1,I1,r1,q1⟩:=hq_;obtain⟨a,e,⟨xs,hq⟩,q⟩:=q1;subst e;cases r1;obtain⟨its,rv,p,hz⟩:=I1.list hq;refine wpAny_pyIter_list p.isList ?_;refine⟨s1.heap.objs.size,[s1.heap.objs.size],_,_,H1,rfl,I1.kept (t':=s1.toks) fun b o e=>ue _ e,Wn a _,⟨_,uu _ rfl,rfl,rfl⟩,fun b hb=>?_,q⟩;have e:b=s1.heap.objs.size:=by simpa using hb
 subst e;exact I1.fpOk (uj _) (I1.hok.fresh (uj _))
theorem zb1{l:Expr}{tl:TE}(hl:PE X l tl):PI X tg l (iTup X.K tl):=by
 intro pins s σ H R I h;refine thn (hl pins s σ H _ I h) fun v s1 hq_=>?_;obtain⟨x,H1,I1,r1,q1⟩:=hq_;obtain⟨a,e,⟨xs,hq⟩,q⟩:=q1;subst e;cases r1;obtain⟨its,rv,p,hz⟩:=I1.tuple hq;refine wpAny_pyIter_tuple (show s1.heap.IsTuple a its.toArray from p) ?_;refine⟨s1.heap.objs.size,[s1.heap.objs.size],_,_,H1,rfl,I1.kept (t':=s1.toks) fun b o e=>ue _ e,YZ a _,⟨_,uu _ rfl,rfl,rfl⟩,fun b hb=>?_,q⟩;have e:b=s1.heap.objs.size:=by simpa using hb
 subst e;exact I1.fpOk (uj _) (I1.hok.fresh (uj _))
theorem Vj{R:It->Hp->Prop}{lo hi:Int}{t u v:Tok}{tk:Nat}(I:Inv X pins σ H s)(h1:-(2 ^ 62)<=lo)(h2:lo < 2 ^ 62)(h3:-(2 ^ 62)<=hi)(h4:hi < 2 ^ 62)
  (q:R (Itr lo (hi-lo).toNat) H):wpAny (model X.prog X.w) X.A (pyIter (.ref s.heap.objs.size)) (PIE X pins σ tg R) E { s with heap:=s.heap.push { cls:=.type "range",data:=.fields #[.int lo t,.int hi u,.int 1 v] },toks:=tk }:=by
 refine wpAny_pyIter_range (IsRange.new ..) (small_one h1 h2 h3 h4) ?_;have I1:Inv X pins σ H { s with heap:=s.heap.push { cls:=.type "range",data:=.fields #[.int lo t,.int hi u,.int 1 v] },toks:=tk }:=I.kept fun b o e=>ue _ e;refine⟨(s.heap.push { cls:=.type "range",data:=.fields #[.int lo t,.int hi u,.int 1 v] }).objs.size,[(s.heap.push { cls:=.type "range",data:=.fields #[.int lo t,.int hi u,.int 1 v] }).objs.size],_,_,H,rfl,
  I1.kept (t':=tk) fun b o e=>ue _ e,Y0 _ lo (hi-lo).toNat,?_,fun b hb=>?_,q⟩
 ·have e1:lo+((0:Nat):Int)*1=lo:=by simp
  have e2:(((hi-lo).toNat:Nat):Int)-((0:Nat):Int)=Builtin.Range.rangeSize lo hi 1:=by rw[rangeSize_one];split<;>lia
  show IsRangeIter _ _ (lo+((0:Nat):Int)*1) ((((hi-lo).toNat:Nat):Int)-((0:Nat):Int)) 1;rw[e1,e2];exact uu _ rfl
 ·have e:b=(s.heap.push { cls:=.type "range",data:=.fields #[.int lo t,.int hi u,.int 1 v] }).objs.size:=by simpa using hb
  subst e;exact I1.fpOk (uj _) (I1.hok.fresh (uj _))
def za3(ta:TA):TI:=fun σ H R=>ta σ H fun vs H1=>∃j:Int,vs=[.int j]/\-(2 ^ 62)<=j/\j < 2 ^ 62/\R (Itr 0 j.toNat) H1
theorem Wp{a:Expr}{ta:TA}(hg:Gl X "range")(hm:X.mg "range"=nO)(ha:PA X [a] ta)(hs:starEach [a] X.env=[(fO,eval a X.env)]:=by rfl):PI X tg (.Call (.Name "range" p) [a] [] pos) (za3 ta):=by
 intro pins s σ H R I h;refine Call_ (xp I hg hm boot_range (Um (thn (ha pos pins s σ H _ I h) fun us s1 ⟨vs,H1,I1,r1,q1⟩=>?_) hs rfl));obtain⟨j,e,q1,q2,q⟩:=q1;subst e;cases r1 with
 |cons r rr =>
  cases rr;obtain⟨t,rfl⟩:=r;exact call_range_1 (Vj I1 (by lia) (by lia) q1 q2 (by simpa using q))
def tFor(wi:TI)(g:TG)(tb:TS):TS:=fun D σ H=>wi σ H fun J H1=>∃W:Nat->Nat->St->Hp->Prop,(∃m,W 0 m σ H1)/\∀i m σ H,W i m σ H ->
 (J.stop i H/\D.nx σ H)\/(J.go i H/\∃N:St->Hp->Prop,(∀σ' H',N σ' H'->∃m',m' < m/\W (i+1) m' σ' H')/\∀x H',J.yld i H x H'->g x σ H' fun σ2 H2=>tb { D with nx:=N,ct:=N,bk:=D.nx } σ2 H2)
def vG(fp:List aO)(h:Heap):List (aO×Obj):=fp.filterMap fun b=>(h.get? b).map fun o=>(b,o)
theorem x8{o:Obj}(hb:b∈fp)(e:h.get? b=sO o):(b,o)∈vG fp h:=List.mem_filterMap.mpr ⟨b,hb,by rw[e];rfl⟩
theorem Wq{p:aO×Obj}(hp:p∈vG fp h):p.1∈fp/\h.get? p.1=sO p.2:=by
 obtain⟨b,hb,e⟩:=List.mem_filterMap.mp hp;cases q:h.get? b with
 |none=>rw[q]at e;cases e
 |some o =>
  rw[q]at e;have e':(b,o)=p:=uX.inj e;subst e';exact⟨hb,q⟩
theorem Inv.pinned(I:Inv X pins σ H s)(hf:∀b∈fp,FpOk X pins H b)(ho:∀b∈fp,∃o,s.heap.get? b=sO o/\∀v,o.data≠.cell v):Inv X (pins++vG fp s.heap) σ H s :=
 I.pins_of fun p hp=>(ux.mp hp).elim (fun z=>I.pin p (uv _ z)) fun z=>by
  obtain⟨hb,e⟩:=Wq z;obtain⟨f0,f1,f2,_⟩:=hf p.1 hb;obtain⟨o,e',d⟩:=ho p.1 hb;rw[e]at e';cases e';exact⟨e,f0,f1,f2,d⟩
theorem Inv.unpinned{pl:List (aO×Obj)}(I:Inv X (pins++pl) σ H s):Inv X pins σ H s:=I.pins_of fun p hp=>I.pin p (uv _ (uz _ hp))
theorem zb2{wi:TI}{g:TG}(hp:PassesOwn (model X.prog X.w) X.A X.env X.xe)(hc:X.calm=tV)(hi:PI X tg iter wi)(hg:PG X tg g)(hb:PSs X body tb)
  (hs:∀x,foldedSetIterable iter X.env x=pure x:=by intro _;rfl):PS X (.For tg iter body [] pos) (tFor wi g tb):=by
 intro pins s σ H D I h;refine wpAny_For (thn (hi pins s σ H _ I h) fun v s1 h1=>thn h1 fun itv s2 h2=>?_) hs;obtain⟨it,fp,tn,J,H2,e,I2,T,st2,f2,W,⟨m0,w0⟩,turn⟩:=h2;subst e;have stat:∀{H':Hp},(∀b∈fp,H' b=nO)->∀b∈fp,FpOk X pins H' b:=fun hn b hb=>⟨hn b hb,(f2 b hb).2⟩;refine codeAny_forLoop_any (fun n s'=>∃i σ' H',Inv X pins σ' H' s'/\tn i s'.heap/\(∀b∈fp,H' b=nO)/\W i n σ' H') ?_ m0 ⟨0,σ,H2,I2,st2,fun b hb=>(f2 b hb).1,w0⟩;rintro n s3 ⟨i,σ3,H3,I3,st3,fr3,w3⟩;rcases turn i n σ3 H3 w3 with⟨stop,qn⟩|⟨go,N,hN,step⟩
 ·refine wpAny_passesOwn hp (thn (T.done X rfl rfl rfl hc i pins s3 σ3 H3 X.xe I3 (stat fr3) st3 stop) fun r s4 hq_=>?_)
  obtain⟨hr,I4⟩:=hq_;subst hr;exact wpAny_execs_nil ⟨σ3,H3,I4,qn⟩
 ·refine wpAny_passesOwn hp (thn (T.item X rfl rfl rfl hc i pins s3 σ3 H3 X.xe I3 (stat fr3) st3 go) fun r s4 hq_=>?_)
  obtain⟨u,hr,h4⟩:=hq_;subst hr;refine wpAny_passesOwn hp (thn h4 fun _ s5 hq_=>?_);obtain⟨x,H5,I5,r5,y5,st5,fr5⟩:=hq_;have I5':=I5.pinned (stat fr5) (T.obj _ _ st5);refine wpAny_passesOwn hp (thn (hg _ s5 σ3 H5 x u _ I5' r5 (step x H5 y5)) fun _ s6 hq_=>?_);obtain⟨σ6,H6,I6,q6⟩:=hq_;refine wpAny_passesOwn hp (thn (hb _ s6 σ6 H6 _ I6 q6) fun f s7 q7=>?_);have again:∀{σ7:St}{H7:Hp},Inv X (pins++vG fp s5.heap) σ7 H7 s7->N σ7 H7->∃m,m < n/\∃i σ' H',Inv X pins σ' H' s7/\tn i s7.heap/\(∀b∈fp,H' b=nO)/\W i m σ' H':=fun{σ7 H7} I7 n7=>by
   obtain⟨m',hm,w7⟩:=hN σ7 H7 n7;refine⟨m',hm,i+1,σ7,H7,I7.unpinned,T.keep _ _ _ st5 fun b hb o e=>(I7.pin (b,o) (uv _ (uv _ (x8 hb e)))).1,fun b hb=>?_,w7⟩;obtain⟨o,e,d⟩:=T.obj _ _ st5 b hb;exact(I7.pin (b,o) (uv _ (uv _ (x8 hb e)))).2.1
  cases f with
  |next=>obtain⟨σ7,H7,I7,n7⟩:=q7;exact again I7 n7
  |cont=>obtain⟨σ7,H7,I7,n7⟩:=q7;exact again I7 n7
  |brk=>obtain⟨σ7,H7,I7,q7⟩:=q7;exact⟨σ7,H7,I7.unpinned,q7⟩
  |ret v=>obtain⟨x7,σ7,H7,I7,r7,q7⟩:=q7;exact⟨x7,σ7,H7,I7.unpinned,r7,q7⟩
theorem yX{K:uc}{g:TG}(Pv:Nat->St->Hp->Prop)(h0:Pv 0 σ H)(hl:∀i σ H,i<=xs.length->Pv i σ H->SqL K H a xs)
  (hs:∀i x σ H,xs[i]?=sO x->Pv i σ H->g x σ H fun σ2 H2=>tb { D with nx:=Pv (i+1),ct:=Pv (i+1),bk:=D.nx } σ2 H2) (hd:∀σ H,Pv xs.length σ H->D.nx σ H) :
  ∃W:Nat->Nat->St->Hp->Prop,(∃m,W 0 m σ H)/\∀i m σ H,W i m σ H ->
   ((Itl K a).stop i H/\D.nx σ H)\/((Itl K a).go i H/\∃N:St->Hp->Prop,(∀σ' H',N σ' H'->∃m',m' < m/\W (i+1) m' σ' H')/\∀x H',(Itl K a).yld i H x H'->g x σ H' fun σ2 H2=>tb { D with nx:=N,ct:=N,bk:=D.nx } σ2 H2):=by
 refine⟨fun i m σ H=>m=xs.length-i/\i<=xs.length/\Pv i σ H,⟨xs.length,by simp,uK _,h0⟩,?_⟩;rintro i m σ H ⟨rfl,hi,p⟩;have q:=hl i σ H hi p;by_cases hlt:i < xs.length
 ·refine .inr ⟨⟨xs,xs[i],q,by simp[hlt]⟩,Pv (i+1),fun σ' H' p'=>⟨xs.length-(i+1),by lia,rfl,hlt,p'⟩,fun x H' y=>?_⟩
  obtain⟨e,y⟩:=y;subst e;exact hs i x σ _ (y xs q) p
 ·have e:i=xs.length:=by lia
  subst e;exact .inl ⟨⟨xs,q,uj _⟩,hd σ H p⟩
theorem xq{K:uc}{g:TG}(Pv:Nat->St->Hp->Prop)(h0:Pv 0 σ H)(hl:∀i σ H,i<=xs.length->Pv i σ H->SqT K H a xs)
  (hs:∀i x σ H,xs[i]?=sO x->Pv i σ H->g x σ H fun σ2 H2=>tb { D with nx:=Pv (i+1),ct:=Pv (i+1),bk:=D.nx } σ2 H2) (hd:∀σ H,Pv xs.length σ H->D.nx σ H) :
  ∃W:Nat->Nat->St->Hp->Prop,(∃m,W 0 m σ H)/\∀i m σ H,W i m σ H ->
   ((Itt K a).stop i H/\D.nx σ H)\/((Itt K a).go i H/\∃N:St->Hp->Prop,(∀σ' H',N σ' H'->∃m',m' < m/\W (i+1) m' σ' H')/\∀x H',(Itt K a).yld i H x H'->g x σ H' fun σ2 H2=>tb { D with nx:=N,ct:=N,bk:=D.nx } σ2 H2):=by
 refine⟨fun i m σ H=>m=xs.length-i/\i<=xs.length/\Pv i σ H,⟨xs.length,by simp,uK _,h0⟩,?_⟩;rintro i m σ H ⟨rfl,hi,p⟩;have q:=hl i σ H hi p;by_cases hlt:i < xs.length
 ·refine .inr ⟨⟨xs,xs[i],q,by simp[hlt]⟩,Pv (i+1),fun σ' H' p'=>⟨xs.length-(i+1),by lia,rfl,hlt,p'⟩,fun x H' y=>?_⟩
  obtain⟨e,y⟩:=y;subst e;exact hs i x σ _ (y xs q) p
 ·have e:i=xs.length:=by lia
  subst e;exact .inl ⟨⟨xs,q,uj _⟩,hd σ H p⟩
theorem js{lo:Int}{g:TG}(Pv:Nat->St->Hp->Prop)(h0:Pv 0 σ H)
  (hs:∀i σ H,i < n->Pv i σ H->g (.int (lo+i)) σ H fun σ2 H2=>tb { D with nx:=Pv (i+1),ct:=Pv (i+1),bk:=D.nx } σ2 H2) (hd:∀σ H,Pv n σ H->D.nx σ H) :
  ∃W:Nat->Nat->St->Hp->Prop,(∃m,W 0 m σ H)/\∀i m σ H,W i m σ H ->
   ((Itr lo n).stop i H/\D.nx σ H)\/((Itr lo n).go i H/\∃N:St->Hp->Prop,(∀σ' H',N σ' H'->∃m',m' < m/\W (i+1) m' σ' H')/\∀x H',(Itr lo n).yld i H x H'->g x σ H' fun σ2 H2=>tb { D with nx:=N,ct:=N,bk:=D.nx } σ2 H2):=by
 refine⟨fun i m σ H=>m=n-i/\i<=n/\Pv i σ H,⟨n,by simp,uK _,h0⟩,?_⟩;rintro i m σ H ⟨rfl,hi,p⟩;by_cases hlt:i < n
 ·refine .inr ⟨hlt,Pv (i+1),fun σ' H' p'=>⟨n-(i+1),by lia,rfl,hlt,p'⟩,fun x H' y=>?_⟩
  obtain⟨e,y⟩:=y;subst e y;exact hs i σ _ hlt p
 ·have e:i=n:=by lia
  subst e;exact .inl ⟨uj _,hd σ H p⟩
abbrev R2:=V->V->Hp->VK->Prop
def OpR(X:Cx)(f:aA->aA->Sem aA)(r:R2):Prop :=
 ∀(pins:List (aO×Obj))(s:Shared)(σ:St)(H:Hp)(x y:V)(v u:aA)(Q:VK),Inv X pins σ H s->RelV x v->RelV y u->r x y H Q ->
  wpAny (model X.prog X.w) X.A (f v u) (EP X pins σ Q) X.xe s
def UnR(X:Cx)(f:aA->Sem aA)(r:V->Hp->VK->Prop):Prop :=
 ∀(pins:List (aO×Obj))(s:Shared)(σ:St)(H:Hp)(x:V)(v:aA)(Q:VK),Inv X pins σ H s->RelV x v->r x H Q ->
  wpAny (model X.prog X.w) X.A (f v) (EP X pins σ Q) X.xe s
def xB(X:Cx)(f:aA)(r:List V->Hp->VK->Prop):Prop :=
 ∀(pins:List (aO×Obj))(s:Shared)(σ:St)(H:Hp)(xs:List V)(us:List aA)(Q:VK),Inv X pins σ H s->Vals xs us->r xs H Q ->
  wpAny (model X.prog X.w) X.A (call f us) (EP X pins σ Q) X.xe s
def tOp(r:R2)(ta tb:TE):TE:=fun σ H Q=>ta σ H fun x H1=>tb σ H1 fun y H2=>r x y H2 Q
def tUn(r:V->Hp->VK->Prop)(ta:TE):TE:=fun σ H Q=>ta σ H fun x H1=>r x H1 Q
def rI(C:Int->Int->Prop)(g:Int->Int->V):R2:=fun x y H Q=>∃i j,x=.int i/\y=.int j/\C i j/\Q (g i j) H
def rI0(g:Int->Int->V):R2:=fun x y H Q=>∃i j,x=.int i/\y=.int j/\Q (g i j) H
def rU(g:Int->V):V->Hp->VK->Prop:=fun x H Q=>∃i,x=.int i/\Q (g i) H
section
variable{a b:Expr}{tb tc:TE}
theorem binT(ha:PE X a ta)(hb:PE X b tb){R:V->V->Hp->Prop}(I:Inv X pins σ H s)
  (h:ta σ H fun x H1=>tb σ H1 fun y H2=>R x y H2) {Q:VSP} {f:aA->aA->Sem aA}
  (hf:∀v u s2 x y H2,Inv X pins σ H2 s2->RelV x v->RelV y u->R x y H2->wpAny (model X.prog X.w) X.A (f v u) Q X.xe s2) :
  wpAny (model X.prog X.w) X.A (eval a X.env) (fun v s₁=>wpAny (model X.prog X.w) X.A (eval b X.env) (fun u s₂=>wpAny (model X.prog X.w) X.A (f v u) Q X.xe s₂) X.xe s₁) X.xe s:=by
 refine thn (ha pins s σ H _ I h) fun v s1 hq_=>?_;obtain⟨x,H1,I1,r1,q1⟩:=hq_;refine thn (hb pins s1 σ H1 _ I1 q1) fun u s2 hq_=>?_;obtain⟨y,H2,I2,r2,q2⟩:=hq_;exact hf v u s2 x y H2 I2 r1 r2 q2
theorem zdv{op:Operator}{r:R2}(ho:OpR X (binaryOp op) r)(ha:PE X a ta)(hb:PE X b tb):PE X (.BinOp a op b pos) (tOp r ta tb):=by
 intro pins s σ H Q I h;exact wpAny_BinOp (binT ha hb I h fun v u s2 x y H2 I2 rx ry q=>ho pins s2 σ H2 x y v u Q I2 rx ry q)
theorem za4{op:UnaryOp}{r:V->Hp->VK->Prop}(ho:UnR X (unaryOp op) r)(ha:PE X a ta):PE X (.UnaryOp op a pos) (tUn r ta):=by
 intro pins s σ H Q I h;exact UnaryOp_ (thn (ha pins s σ H _ I h) fun v s1 ⟨x,H1,I1,r1,q1⟩=>ho pins s1 σ H1 x v Q I1 r1 q1)
theorem opI{f:aA->aA->Sem aA}{C:Int->Int->Prop}
  (rule:∀(i j:Int)(t u:Tok)(s:Shared)(Q:VSP)(E:VSP),C i j->Q (.int (g i j) s.toks) { s with toks:=s.toks+1 }->wpAny (model X.prog X.w) X.A (f (.int i t) (.int j u)) Q E s) :
  OpR X f (rI C fun i j=>.int (g i j)):=by
 intro pins s σ H x y v u Q I rx ry h;obtain⟨i,j,rfl,rfl,hc,q⟩:=h;obtain⟨t,rfl⟩:=rx;obtain⟨t',rfl⟩:=ry;exact rule i j t t' s _ _ hc ⟨.int (g i j),H,I.tok _,⟨_,rfl⟩,q⟩
theorem opI0{f:aA->aA->Sem aA}
  (rule:∀(i j:Int)(t u:Tok)(s:Shared)(Q:VSP)(E:VSP),Q (.int (g i j) s.toks) { s with toks:=s.toks+1 }->wpAny (model X.prog X.w) X.A (f (.int i t) (.int j u)) Q E s) :
  OpR X f (rI0 fun i j=>.int (g i j)):=by
 intro pins s σ H x y v u Q I rx ry h;obtain⟨i,j,rfl,rfl,q⟩:=h;obtain⟨t,rfl⟩:=rx;obtain⟨t',rfl⟩:=ry;exact rule i j t t' s _ _ ⟨.int (g i j),H,I.tok _,⟨_,rfl⟩,q⟩
theorem opB0{f:aA->aA->Sem aA}{g:Int->Int->Bool}
  (rule:∀(i j:Int)(t u:Tok)(s:Shared)(Q:VSP)(E:VSP),Q (.bool (g i j)) s->wpAny (model X.prog X.w) X.A (f (.int i t) (.int j u)) Q E s) :
  OpR X f (rI0 fun i j=>.bl (g i j)):=by
 intro pins s σ H x y v u Q I rx ry h;obtain⟨i,j,rfl,rfl,q⟩:=h;obtain⟨t,rfl⟩:=rx;obtain⟨t',rfl⟩:=ry;exact rule i j t t' s _ _ ⟨.bl (g i j),H,I,rfl,q⟩
def CDiv(i j:Int):Prop:=0 < j/\j < 1073741824
def CMul(i j:Int):Prop:=(-(2 ^ 64) < i/\i < 2 ^ 64)\/(-(2 ^ 64) < j/\j < 2 ^ 64)
theorem CMul.ok{i j:Int}(h:CMul i j):IntMulOk i j:=by
 rcases h with⟨h1,h2⟩|⟨h1,h2⟩
 ·exact .of_left (intBits_le_64 h1 h2)
 ·exact .of_right (intBits_le_64 h1 h2)
theorem zb3:OpR X (binaryOp .Add) (rI0 fun i j=>.int (i+j)):=opI0 fun _ _ _ _ _ _ _ q=>add_int q
theorem zb4:OpR X (binaryOp .Sub) (rI0 fun i j=>.int (i-j)):=opI0 fun _ _ _ _ _ _ _ q=>sub_int q
theorem zb5:OpR X (binaryOp .Mult) (rI CMul fun i j=>.int (i*j)):=opI fun _ _ _ _ _ _ _ hc q=>mul_int q hc.ok
theorem Qw:OpR X (binaryOp .FloorDiv) (rI CDiv fun i j=>.int (i / j)):=opI fun i j _ _ _ _ _ hc q=>by
 have h1:(0:Int) < j:=hc.1;have h2:j < 1073741824:=hc.2;exact floordiv_int (by lia) (by rw[Int.fdiv_eq_ediv_of_nonneg i (by lia)];exact q) (.inl (PyProof.noPylong_small (by lia)))
theorem zb6:OpR X (binaryOp .Mod) (rI (fun _ j=>0 < j) fun i j=>.int (i % j)):=opI fun i j _ _ _ _ _ hc q=>by
 have h1:(0:Int) < j:=hc;exact mod_int' (by lia) (by rw[Int.fmod_eq_emod_of_nonneg i (by lia)];exact q)
theorem zb7:OpR X (binaryOp .BitAnd) (rI0 fun i j=>.int (Builtin.bitAnd i j)):=opI0 fun _ _ _ _ _ _ _ q=>and_int q
theorem zdw:OpR X (binaryOp .BitOr) (rI0 fun i j=>.int (Builtin.bitOr i j)):=opI0 fun _ _ _ _ _ _ _ q=>or_int q
theorem unI{f:aA->Sem aA}{g:Int->Int}
  (rule:∀(i:Int)(t:Tok)(s:Shared)(Q:VSP)(E:VSP),Q (.int (g i) s.toks) { s with toks:=s.toks+1 }->wpAny (model X.prog X.w) X.A (f (.int i t)) Q E s) :
  UnR X f (rU fun i=>.int (g i)):=by
 intro pins s σ H x v Q I rx h;obtain⟨i,rfl,q⟩:=h;obtain⟨t,rfl⟩:=rx;exact rule i t s _ _ ⟨.int (g i),H,I.tok _,⟨_,rfl⟩,q⟩
theorem zb8:UnR X (unaryOp .USub) (rU fun i=>.int (-i)):=unI fun _ _ _ _ _ q=>neg_int q
theorem zb9:UnR X (unaryOp .Invert) (rU fun i=>.int (Builtin.bitNot i)):=unI fun _ _ _ _ _ q=>invert_int q
def scal:V->V->Bool
 |.non,.non=>tV|.non,.int _=>tV|.int _,.non=>tV|.non,.bl _=>tV|.bl _,.non=>tV|.non,.str _=>tV|.str _,.non=>tV
 |.int _,.int _=>tV|.bl _,.bl _=>tV|.str _,.str _=>tV|.byt _,.byt _=>tV
 |.int _,.str _=>tV|.str _,.int _=>tV|.bl _,.str _=>tV|.str _,.bl _=>tV
 |_,_=>fO
def rEq:R2:=fun x y H Q=>scal x y=tV/\Q (.bl (decide (x=y))) H
def rNe:R2:=fun x y H Q=>scal x y=tV/\Q (.bl (!decide (x=y))) H
theorem XJ{i j:Int}:decide (V.int i=V.int j)=(i == j):=by
 rw[UP];simp
theorem Vk{i j:Bool}:decide (V.bl i=V.bl j)=(i == j):=by
 rw[UP];simp
theorem XL{i j:Str}:decide (V.str i=V.str j)=(i == j):=by
 rw[UP];simp
theorem XM{i j:Array UInt8}:decide (V.byt i=V.byt j)=(i.toList == j.toList):=by
 rw[UP];cases i;cases j;simp
theorem zQ{Q:VK}{k k':Bool}(I:Inv X pins σ H s)(q:Q (.bl k) H)(e:k=k'):EP X pins σ Q (.bool k') s:=by
 subst e;exact⟨.bl k,H,I,rfl,q⟩
theorem zdx:OpR X (compareOp .Eq) rEq:=by
 intro pins s σ H x y v u Q I rx ry h;obtain⟨hs,q⟩:=h;cases x with
 |non =>
  cases rx;cases y with
  |non=>cases ry;exact PySem.EqNone.eq_none_none (zQ I q (by simp))
  |bl j=>cases ry;exact PySem.EqNone.eq_none_bool (zQ I q (by simp))
  |int j=>obtain⟨t',rfl⟩:=ry;exact PySem.EqNone.eq_none_int (zQ I q (by simp))
  |str j=>obtain⟨t',rfl⟩:=ry;exact PySem.EqNone.eq_none_str (zQ I q (by simp))
  |_=>exact absurd (show fO=tV from hs) uE
 |bl i =>
  cases rx;cases y with
  |non=>cases ry;exact PySem.EqNone.eq_bool_none (zQ I q (by simp))
  |bl j=>cases ry;exact eq_bool (zQ I q Vk)
  |str j=>obtain⟨t',rfl⟩:=ry;exact PySem.EqMixed.eq_bool_str (zQ I q (by simp))
  |_=>exact absurd (show fO=tV from hs) uE
 |int i =>
  obtain⟨t,rfl⟩:=rx;cases y with
  |non=>cases ry;exact PySem.EqNone.eq_int_none (zQ I q (by simp))
  |int j=>obtain⟨t',rfl⟩:=ry;exact eq_int (zQ I q XJ)
  |str j=>obtain⟨t',rfl⟩:=ry;exact PySem.EqMixed.eq_int_str (zQ I q (by simp))
  |_=>exact absurd (show fO=tV from hs) uE
 |str i =>
  obtain⟨t,rfl⟩:=rx;cases y with
  |non=>cases ry;exact PySem.EqNone.eq_str_none (zQ I q (by simp))
  |bl j=>cases ry;exact PySem.EqMixed.eq_str_bool (zQ I q (by simp))
  |int j=>obtain⟨t',rfl⟩:=ry;exact PySem.EqMixed.eq_str_int (zQ I q (by simp))
  |str j=>obtain⟨t',rfl⟩:=ry;exact eq_str (zQ I q XL)
  |_=>exact absurd (show fO=tV from hs) uE
 |byt i =>
  obtain⟨t,rfl⟩:=rx;cases y with
  |byt j=>obtain⟨t',rfl⟩:=ry;exact PySem.W.eq_bytes (zQ I q XM)
  |_=>exact absurd (show fO=tV from hs) uE
 |_=>cases y<;>exact absurd (show fO=tV from hs) uE
theorem zdy:OpR X (compareOp .NotEq) rNe:=by
 intro pins s σ H x y v u Q I rx ry h;obtain⟨hs,q⟩:=h;cases x with
 |non =>
  cases rx;cases y with
  |non=>cases ry;exact PySem.EqNone.ne_none_none (zQ I q (by simp))
  |bl j=>cases ry;exact PySem.EqNone.ne_none_bool (zQ I q (by simp))
  |int j=>obtain⟨t',rfl⟩:=ry;exact PySem.EqNone.ne_none_int (zQ I q (by simp))
  |str j=>obtain⟨t',rfl⟩:=ry;exact PySem.EqNone.ne_none_str (zQ I q (by simp))
  |_=>exact absurd (show fO=tV from hs) uE
 |bl i =>
  cases rx;cases y with
  |non=>cases ry;exact PySem.EqNone.ne_bool_none (zQ I q (by simp))
  |bl j=>cases ry;exact ne_bool (zQ I q (congrArg not Vk))
  |str j=>obtain⟨t',rfl⟩:=ry;exact PySem.EqMixed.ne_bool_str (zQ I q (by simp))
  |_=>exact absurd (show fO=tV from hs) uE
 |int i =>
  obtain⟨t,rfl⟩:=rx;cases y with
  |non=>cases ry;exact PySem.EqNone.ne_int_none (zQ I q (by simp))
  |int j=>obtain⟨t',rfl⟩:=ry;exact ne_int (zQ I q (congrArg not XJ))
  |str j=>obtain⟨t',rfl⟩:=ry;exact PySem.EqMixed.ne_int_str (zQ I q (by simp))
  |_=>exact absurd (show fO=tV from hs) uE
 |str i =>
  obtain⟨t,rfl⟩:=rx;cases y with
  |non=>cases ry;exact PySem.EqNone.ne_str_none (zQ I q (by simp))
  |bl j=>cases ry;exact PySem.EqMixed.ne_str_bool (zQ I q (by simp))
  |int j=>obtain⟨t',rfl⟩:=ry;exact PySem.EqMixed.ne_str_int (zQ I q (by simp))
  |str j=>obtain⟨t',rfl⟩:=ry;exact ne_str (zQ I q (congrArg not XL))
  |_=>exact absurd (show fO=tV from hs) uE
 |byt i =>
  obtain⟨t,rfl⟩:=rx;cases y with
  |byt j=>obtain⟨t',rfl⟩:=ry;exact PySem.W.ne_bytes (zQ I q (congrArg not XM))
  |_=>exact absurd (show fO=tV from hs) uE
 |_=>cases y<;>exact absurd (show fO=tV from hs) uE
theorem zdz:OpR X (compareOp .Lt) (rI0 fun i j=>.bl (decide (i < j))):=opB0 fun _ _ _ _ _ _ _ q=>lt_int q
theorem zdA:OpR X (compareOp .LtE) (rI0 fun i j=>.bl (decide (i<=j))):=opB0 fun _ _ _ _ _ _ _ q=>le_int q
theorem zdB:OpR X (compareOp .Gt) (rI0 fun i j=>.bl (decide (j < i))):=opB0 fun _ _ _ _ _ _ _ q=>gt_int q
theorem zdC:OpR X (compareOp .GtE) (rI0 fun i j=>.bl (decide (j<=i))):=opB0 fun _ _ _ _ _ _ _ q=>ge_int q
theorem wX(b:Expr)(h:op≠.In:=by decide)(h2:op≠.NotIn:=by decide):behindInMarks op b=fO:=by
 have e1:(op == CmpOp.In)=fO:=by cases op<;>first|rfl|exact absurd rfl h
 have e2:(op == CmpOp.NotIn)=fO:=by cases op<;>first|rfl|exact absurd rfl h2
 cases b<;>simp[behindInMarks,e1,e2]
theorem Qx{r:R2}(ho:OpR X (compareOp op) r)(ha:PE X a ta)(hb:PE X b tb)(hm:behindInMarks op b=fO):PE X (.Compare a [op] [b] pos) (tOp r ta tb):=by
 intro pins s σ H Q I h;exact wpAny_Compare1 (binT ha hb I h fun v u s2 x y H2 I2 rx ry q=>ho pins s2 σ H2 x y v u Q I2 rx ry q) hm
def vH(t:TE):TT:=fun σ H Q=>t σ H fun x H'=>∃k,x=.bl k/\Q k H'
theorem Qy{r:R2}(ho:OpR X (compareOp op) r)(ha:PE X a ta)(hb:PE X b tb)(hm:behindInMarks op b=fO):PT X (.Compare a [op] [b] pos) (vH (tOp r ta tb)):=by
 intro pins s σ H Q I h;refine wpAny_isTrue_Compare1 (thn (ha pins s σ H _ I h) fun v s1 ⟨x,H1,I1,r1,q1⟩=>thn (hb pins s1 σ H1 _ I1 q1) fun u s2 ⟨y,H2,I2,r2,q2⟩ =>
  thn (ho pins s2 σ H2 x y v u _ I2 r1 r2 q2) fun c s3 ⟨z,H3,I3,r3,k,e,q3⟩=>?_) hm
 subst e;cases r3;exact wpAny_truthy_bool ⟨H3,I3,q3⟩
theorem vI:(sizeLine:Nat) < 2 ^ 63:=by rw[sizeLine_eq];decide
theorem Y1:OpR X (binaryOp .Add) (fun x y H Q=>∃i j,x=.str i/\y=.str j/\i.length+j.length<=sizeLine/\Q (.str (i++j)) H):=by
 intro pins s σ H x y v u Q I rx ry h;obtain⟨i,j,rfl,rfl,hz,q⟩:=h;obtain⟨t,rfl⟩:=rx;obtain⟨t',rfl⟩:=ry;exact add_str (fun t' tk=>⟨.str (i++j),H,I.tok _,⟨_,rfl⟩,q⟩) hz
theorem jt{x:V}{us:List aA}(r:Vals [x] us):∃u,us=[u]/\RelV x u:=by
 cases r with
 |cons r1 r2=>cases r2;exact⟨_,rfl,r1⟩
theorem Vl{x y:V}{us:List aA}(r:Vals [x,y] us):∃u w',us=[u,w']/\RelV x u/\RelV y w':=by
 cases r with
 |cons r1 r2 =>
  cases r2 with
  |cons r3 r4=>cases r4;exact⟨_,_,rfl,r1,r3⟩
theorem Wr(hc:X.calm=tV):xB X (.builtin "max") (fun xs H Q=>∃i j,xs=[.int i,.int j]/\Q (.int (if j > i then j else i)) H):=by
 intro pins s σ H xs us Q I r h;obtain⟨i,j,rfl,q⟩:=h;obtain⟨u,w',rfl,⟨t,rfl⟩,⟨t',rfl⟩⟩:=Vl r;refine max_two_ints (I.ok.hd hc) fun h' tk k=>⟨_,H,I.kept k,?_,q⟩;by_cases hj:j > i
 ·rw[iP hj,iP hj];exact⟨_,rfl⟩
 ·rw[iN hj,iN hj];exact⟨_,rfl⟩
end
structure ObjM(h:Heap)(x dx C:aO)(mA:Str->Option aA):Prop where
 obj:h.get? x=sO (UT C dx)
 ns:h.Ns1 dx mA
 ne:dx≠x
theorem Ws(n:h.Ns1 dx mA):∃od,h.get? dx=sO od/\∀name,PySem.W.lookIn name od=sO (mA name):=by
 obtain⟨o,es,ep,ho,hd,hk,_,hm⟩:=n;refine⟨o,ho,fun name=>?_⟩;have e:=hm name;unfold nsFind findBy at e;rw[<- Array.find?_toList]at e;unfold PySem.W.lookIn;rw[hd];dsimp only
 split
 ·rename_i y q
  rw[q]at e;exact congrArg sO e
 ·rename_i q
  rw[q]at e;have a:es.toList.any (·.refKey)=fO:=by
   rw[List.any_eq_false];intro y hy;obtain⟨z,t,hkey⟩:=hk y (Array.mem_toList_iff.mp hy);simp[DictEntry.refKey,hkey]
  have a':¬ es.toList.any (·.refKey)=tV:=by rw[a];exact uE
  rw[iN a'];exact congrArg sO e
theorem ObjM.look{x:aO}(I:ObjM h x dx C mA):∃od,PySem.W.InstAt h x (UT C dx) C (sO od)/\∀name,PySem.W.lookIn name od=sO (mA name) :=
 let ⟨od,ho,hl⟩:=Ws I.ns
 ⟨od,⟨I.obj,rfl,rfl,ho⟩,hl⟩
section
variable{K:uc}{x:aO}
theorem Qz{expr:Bool}{Q:VSP}(X:K.In s.heap)(I:ObjM s.heap x dx C mA)(hg:tF K C name=tV)(hh:PySem.W.hasDictIn K C=tV)
  (ha:uZ K (.ref C) name=sO nO) (hv:mA name=sO v) (hv':PySem.W.handedIn v=tV) (h:Q v { s with toks:=s.toks+1 }) :
  wpAny (model prog w) A (getAttr (.ref x) name expr) Q E s:=by
 obtain⟨od,J,hl⟩:=I.look;exact PySem.W.get_value X J (PySem.W.plainGet_of hg).1 (PySem.W.findObj_own hh ha rfl (by rw[hl,hv])) hv' h
theorem Vm{pl:Sem Bool}{Q:aA×List aA->Shared->Prop}(X:K.In s.heap)(I:ObjM s.heap x dx C mA)(hg:tF K C name=tV)
  (hf:uZ K (.ref C) name=sO (sO (.ref f))) (ht:PySem.W.isFn K (.ref f)=tV) (hv:mA name=nO) (h:Q (.ref f,[.ref x]) s) :
  wpAny (model prog w) A (getMethod (.ref x) name pl) Q E s:=by
 obtain⟨od,J,hl⟩:=I.look;exact PySem.W.method_fn X J (PySem.W.plainGet_of hg).1 (PySem.W.plainGet_of hg).2 hf (beq_iff_eq.mp ht) (by show(PySem.W.lookIn name od).map (·.isSome)=sO fO;rw[hl,hv];rfl) h
theorem QA(X:K.In s.heap)(I:ObjM s.heap x dx C mA)
  (hs:uZ K (.ref C) "__setattr__"=sO (sO (.builtin "object.__setattr__"))) (hp:PySem.W.plainOver K C=tV) (ht:PySem.W.takerIn K C name=sO nO) (hh:PySem.W.hasDictIn K C=tV)
  (hw:PySem.Within mA ns) (hsz:ns.length<=sizeLine)
  (h:∀h',ObjM h' x dx C (fun y=>if y=name then sO v else mA y)->Heap.SameBut dx s.heap h'->Q () { s with heap:=h',toks:=s.toks+2 }) :
  wpAny (model prog w) A (setAttr (.ref x) name v) Q E s:=by
 obtain⟨od,J,hl⟩:=I.look;refine PySem.W.set_plain X J hs (PySem.W.osa_open (s:={ s with toks:=s.toks+1 }) (r:=nO) X J hp ht fun b=>?_);obtain⟨cd,hc,hd'⟩:=PySem.W.any_some hh;have hx:s.heap.get? x=sO ⟨.ref C,sO dx,.plain,#[]⟩:=I.obj;refine bA (pO (bA (bA (wpAny_loadPart hx (bA (PySem.W.Looks.here (s:={ s with toks:=s.toks+1 }) (PySem.W.looks_clsIn X hc) ?_))))));rw[hd'];refine pO (a:=sO dx) (bA (pO (bA ?_)));refine wpAny_nsSet1 (s:={ s with toks:=s.toks+1 }) I.ns fun h' hn2 hs2=>?_;obtain⟨oD,esD,epD,hoD,hdD,hcD⟩:=hn2.count (PySem.Within.cons name v hw);refine bA (wpAny_lookBehind hoD (by rw[hdD];exact pastItsLine_dict (uH hcD (by rw[um];lia))) ?_);exact pO (h _ ⟨(hs2.2 _ (Ne.symm I.ne)).trans I.obj,hn2,I.ne⟩ hs2)
theorem Vn{R:Result->Shared->Prop}(X:K.In s.heap)(hm:PySem.W.makesIn K C=tV)
  (hi:uZ K (.ref C) "__init__"=sO (sO (.ref f))) (hf:PySem.W.typeIn K (.ref f)=sO (.type "function"))
  (h:codeAny (model prog w) (A.under (.builtin "type.__call__" ⟨.ref C::vs,kw⟩)) (.call (.ref f) ⟨.ref (s.heap.objs.size+1)::vs,kw⟩) (PySem.W.InitBack (s.heap.objs.size+1) R)
   { s with heap:=(s.heap.push UI).push (UT C s.heap.objs.size) }) :
  codeAny (model prog w) A (.call (.ref C) ⟨vs,kw⟩) R s:=by
 obtain⟨hh,g,d,t,os⟩:=s;exact PySem.W.make_core (PySem.W.makes_of X hm) (PySem.W.looks_findIn X hi) (fun self=>PySem.W.bind_fn X self hf) (.inl rfl) h
end
def putF(f:Str)(v:V):List (Str×V)->List (Str×V)
 |[]=>[(f,v)]
 | (g,x)::r=>if g=f then(g,v)::r else(g,x)::putF f v r
theorem vg(f g:Str)(v:V):∀fs:List (Str×V),(putF f v fs).lookup g=if g=f then sO v else fs.lookup g
 |[]=>by
  show UV g [(f,v)]=_;by_cases h:g=f
  ·have hb:(g == f)=tV:=beq_iff_eq.mpr h
   simp only[UV,hb,iP h]
  ·have hb:(g == f)=fO:=beq_eq_false_iff_ne.mpr h
   simp only[UV,hb,iN h]
 | (k,x)::r=>by
  have ih:=vg f g v r;rw[show putF f v ((k,x)::r)=(if k=f then(k,v)::r else(k,x)::putF f v r)from rfl];by_cases hk:k=f
  ·rw[iP hk]
   by_cases h:g=k
   ·have hb:(g == k)=tV:=beq_iff_eq.mpr h
    simp only[UV,hb,iP (h.trans hk)]
   ·have hb:(g == k)=fO:=beq_eq_false_iff_ne.mpr h
    simp only[UV,hb,iN (fun e:g=f=>h (e.trans hk.symm))]
  ·rw[iN hk]
   by_cases h:g=k
   ·have hb:(g == k)=tV:=beq_iff_eq.mpr h
    simp only[UV,hb,iN (fun e:g=f=>hk (h.symm.trans e))]
   ·have hb:(g == k)=fO:=beq_eq_false_iff_ne.mpr h
    simp only[UV,hb]
    exact ih
theorem wY(f:Str)(v:V):∀fs:List (Str×V),f∈(putF f v fs).map (·.1)/\∀g,g∈fs.map (·.1)->g∈(putF f v fs).map (·.1)
 |[]=>⟨by simp[putF],fun g h=>by simp at h⟩
 | (k,x)::r=>by
  obtain⟨i1,i2⟩:=wY f v r;rw[show putF f v ((k,x)::r)=(if k=f then(k,v)::r else(k,x)::putF f v r)from rfl];by_cases hk:k=f
  ·rw[iP hk]
   subst hk;exact⟨by simp,fun g h=>by simpa using h⟩
  ·rw[iN hk]
   refine⟨?_,fun g h=>?_⟩
   ·rw[uF]
    exact Us _ i1
   ·rw[uF]at h ⊢
    rcases uy.mp h with e|e
    ·exact uy.mpr (.inl e)
    ·exact Us _ (i2 g e)
theorem vh(f:Str)(v:V):∀fs:List (Str×V),(putF f v fs).length<=fs.length+1
 |[]=>by simp[putF]
 | (k,x)::r=>by
  have ih:=vh f v r;rw[show putF f v ((k,x)::r)=(if k=f then(k,v)::r else(k,x)::putF f v r)from rfl];by_cases hk:k=f
  ·rw[iP hk,um,um];lia
  ·rw[iN hk,um,um];lia
theorem RelO.some_of{v:V}{o:Option aA}(r:RelO (sO v) o):∃u,o=sO u/\RelV v u:=by
 cases o with
 |none=>exact(show False from r).elim
 |some u=>exact⟨u,rfl,r⟩
theorem RelO.none_of{o:Option aA}(r:RelO nO o):o=nO:=by
 cases o with
 |none=>rfl
 |some u=>exact(show False from r).elim
theorem Wt{v:V}(r:RelV v u):PySem.W.handedIn u=tV:=by
 cases v with
 |non=>cases(show u=Value.none from r);rfl
 |bl b=>cases(show u=Value.bool b from r);rfl
 |int i=>obtain⟨t,e⟩:=(show ∃t,u=Value.int i t from r);cases e;rfl
 |str x=>obtain⟨t,e⟩:=(show ∃t,u=Value.str x t from r);cases e;rfl
 |byt b=>obtain⟨t,e⟩:=(show ∃t,u=Value.bytes b t from r);cases e;rfl
 |flt b=>obtain⟨t,e⟩:=(show ∃t,u=Value.float b t from r);cases e;rfl
 |ref a=>cases(show u=Value.ref a from r);rfl
 |ty n=>cases(show u=Value.type n from r);rfl
section
variable{fs fs':List (Str×V)}
theorem j6(hok:HOk P w H h)(e:H a=sO (.ins C dx fs)):∃mA,ObjM h a dx C mA/\(∀f,RelO (fs.lookup f) (mA f))/\PySem.Within mA (fs.map (·.1))/\fs.length<=1000/\H dx=sO (.own a):=by
 obtain⟨d,z,ne,ob,mA,n,r,q⟩:=(show ObjOk P w H h a (.ins C dx fs)from hok a _ e);exact⟨mA,⟨ob,n,ne⟩,r,q,z,d⟩
end
structure Cls(K:uc)(C:aO):Prop where
 pg:tF K C Str.empty=tV
 hd:PySem.W.hasDictIn K C=tV
 po:PySem.W.plainOver K C=tV
 sa:uZ K (.ref C) "__setattr__"=sO (sO (.builtin "object.__setattr__"))
theorem Cls.get{K:uc}(c:Cls K C)(f:Str):tF K C f=tV:=c.pg
def NoAttr(K:uc)(C:aO)(f:Str):Prop:=uZ K (.ref C) f=sO nO
theorem NoAttr.taker{K:uc}{f:Str}(n:NoAttr K C f):PySem.W.takerIn K C f=sO nO:=by
 unfold PySem.W.takerIn;rw[show uZ K (.ref C) f=sO nO from n]
 rfl
structure Meth(K:uc)(C:aO)(m:Str)(f:aO):Prop where
 at_:uZ K (.ref C) m=sO (sO (.ref f))
 fn:PySem.W.isFn K (.ref f)=tV
 kp:u5 K (.ref f)=tV
section
variable{fs:List (Str×V)}{f:Str}{v:V}
theorem Y2{b:Bool}{Q:VSP}(I:Inv X pins σ H s)(e:H a=sO (.ins C dx fs))(c:Cls X.K C)(n:NoAttr X.K C f)(l:fs.lookup f=sO v)
  (h:∀u s',Inv X pins σ H s'->RelV v u->Q u s'):wpAny (model X.prog X.w) A (getAttr (.ref a) f b) Q E s:=by
 obtain⟨mA,O,r,_,_,_⟩:=j6 I.hok e;obtain⟨u,hu,ru⟩:=RelO.some_of (v:=v) (o:=mA f) (by rw[<- l];exact r f);exact Qz I.kIn O (c.get f) c.hd n hu (Wt ru) (h u _ (I.tok _) ru)
theorem Y3{m:Str}{g:aO}{pl:Sem Bool}{Q:aA×List aA->Shared->Prop}(I:Inv X pins σ H s)(e:H a=sO (.ins C dx fs))(c:Cls X.K C)(k:Meth X.K C m g)(l:fs.lookup m=nO)
  (h:Q (.ref g,[.ref a]) s):wpAny (model X.prog X.w) A (getMethod (.ref a) m pl) Q E s:=by
 obtain⟨mA,O,r,_,_,_⟩:=j6 I.hok e;have hn:mA m=nO:=RelO.none_of (by rw[<- l];exact r m);exact Vm I.kIn O (c.get m) k.at_ k.fn hn h
theorem Y4{y:V}(I:Inv X pins σ H s)(e:H a=sO (.ins C dx fs))(c:Cls X.K C)(n:NoAttr X.K C f)(hl:fs.length < 1000)(ry:RelV y u)
  (h:∀s',Inv X pins σ (upd H a (.ins C dx (putF f y fs))) s'->Q () s'):wpAny (model X.prog X.w) A (setAttr (.ref a) f u) Q E s:=by
 obtain⟨mA,O,r,wi,_,ho⟩:=j6 I.hok e;have hz:(fs.map (·.1)).length<=sizeLine:=by rw[ub,sizeLine_eq];lia
 refine QA I.kIn O c.sa c.po n.taker c.hd wi hz fun h' O' sb=>h _ ?_;have hd:∃o,h'.get? dx=sO o:=let ⟨o,_,_,e',_⟩:=O'.ns;⟨o,e'⟩
 refine I.write (x:=a) (e:=dx) (by rw[e];exact True.intro) (.inr ho) (fun b q hb z=>(sb.2 b hb).trans z) hd ?_;refine⟨by rw[zj O.ne];exact ho,?_,O.ne,O'.obj,_,O'.ns,fun g=>?_,fun g hg=>?_⟩
 ·have:=vh f y fs;lia
 ·show RelO ((putF f y fs).lookup g) (if g=f then sO u else mA g)
  rw[vg];by_cases q:g=f
  ·rw[iP q,iP q];exact ry
  ·rw[iN q,iN q];exact r g
 ·by_cases q:g=f
  ·rw[q];exact(wY f y fs).1
  ·refine(wY f y fs).2 g (wi g fun z=>hg ?_)
   show(if g=f then sO u else mA g)=nO;rw[iN q];exact z
theorem Inv.made(I:Inv X pins σ H s):Inv X pins σ (upd (upd H s.heap.objs.size (.own (s.heap.objs.size+1))) (s.heap.objs.size+1) (.ins C s.heap.objs.size []))
  { s with heap:=(s.heap.push UI).push (UT C s.heap.objs.size) }:=by
 have e1:(s.heap.push UI).get? s.heap.objs.size=sO UI:=uu s.heap rfl;have e2:((s.heap.push UI).push (UT C s.heap.objs.size)).get? (s.heap.objs.size+1)=sO (UT C s.heap.objs.size):=by
  have:=uu (s.heap.push UI) (o:=UT C s.heap.objs.size) rfl
  rwa [Uf]at this
 have e3:(s.heap.push UI).Ns s.heap.objs.size (fun _=>nO):=⟨UI,#[],_,e1,rfl,(fun e he=>absurd he (by simp)),fun _=>rfl⟩;have I1:=I.laid (a:=s.heap.objs.size) (o:=.own (s.heap.objs.size+1)) (h':=s.heap.push UI) (t':=s.toks) (fun b u q=>ue _ q) (uj _) ⟨_,e1⟩;refine I1.laid (a:=s.heap.objs.size+1) (o:=.ins C s.heap.objs.size []) (t':=s.toks) (fun b u q=>ue _ q) (Nat.le_of_eq (Uf _ _)) ?_;have ne:s.heap.objs.size≠s.heap.objs.size+1:=uT (UW _);refine⟨by rw[zj ne,uX9],uK _,ne,e2,fun _=>nO,(Heap.Ns1.of_empty e3).at fun o q=>ue _ q,fun _=>True.intro,fun y hy=>absurd rfl hy⟩
theorem QB{Q:VSP}(hb:attributeBase e f env (eval e env)=eval e env)
  (h:wpAny (model prog w) A (eval e env) (fun o s₁=>wpAny (model prog w) A (getAttr o f tV) Q E s₁) E s):wpAny (model prog w) A (eval (.Attribute e f pos) env) Q E s :=
 Attribute_any_ h (by rw[arm_eval_Attribute,hb])
end
def tFld(K:uc)(ta:TE)(f:Str):TE:=fun σ H Q=>ta σ H fun x H1=>∃a C dx fs v,x=.ref a/\H1 a=sO (.ins C dx fs)/\Cls K C/\NoAttr K C f/\fs.lookup f=sO v/\Q v H1
def sFld(K:uc)(ta tv:TE)(f:Str):TS:=fun D σ H=>tv σ H fun y H1=>ta σ H1 fun x H2=>∃a C dx fs,x=.ref a/\H2 a=sO (.ins C dx fs)/\Cls K C/\NoAttr K C f/\fs.length < 1000 /\
 D.nx σ (upd H2 a (.ins C dx (putF f y fs)))
section
variable{o:Expr}{f:Str}{tv:TE}
theorem zca(he:PE X e ta)(hb:attributeBase e f X.env (eval e X.env)=eval e X.env):PE X (.Attribute e f pos) (tFld X.K ta f):=by
 intro pins s σ H Q I h;refine QB hb (thn (he pins s σ H _ I h) fun u s1 hq_=>?_);obtain⟨x,H1,I1,rx,a,C,dx,fs,v,ex,ea,c,n,l,q⟩:=hq_;subst ex;obtain rfl:u=Value.ref a:=rx;exact Y2 I1 ea c n l fun u' s2 I2 ru=>⟨v,H1,I2,ru,q⟩
theorem zcb(ha:PE X o ta)(hv:PE X value tv)(hs:swapsWith value (sO (.Attribute o f pos')) pos.line X.env=pure fO):PS X (.Assign [.Attribute o f pos'] value pos) (sFld X.K ta tv f):=by
 intro pins s σ H D I h;refine plainObj_wpAny_Assign_Attribute (thn (hv pins s σ H _ I h) fun u s1 ⟨y,H1,I1,ry,q⟩=>thn (ha pins s1 σ H1 _ I1 q) fun ov s2 ⟨x,H2,I2,rx,a,C,dx,fs,ex,ea,c,n,l,q2⟩=>?_) hs;subst ex;obtain rfl:ov=Value.ref a:=rx;exact Y4 I2 ea c n l ry fun s3 I3=>⟨σ,_,I3,q2⟩
end
section
variable{Q:VSP}{c:aA}{b:Bool}
inductive TyOf(K:uc)(H:Hp):V->aA->Prop where
 |non:TyOf K H .non (.type "NoneType")
 |bl (x:Bool):TyOf K H (.bl x) (.type "bool")
 |int (i:Int):TyOf K H (.int i) (.type "int")
 |str (x:Str):TyOf K H (.str x) (.type "str")
 |flt (x:UInt64):TyOf K H (.flt x) (.type "float")
 |lst {a:aO} {xs:List V} (e:H a=sO (.lst xs)):TyOf K H (.ref a) (.type "list")
 |frz {a:aO} {o:Obj} {xs:List V} (e:H a=sO (.frz o (.lst xs))):TyOf K H (.ref a) (.type "list")
 |tup {a:aO} {xs:List V} (e:H a=sO (.tup xs)):TyOf K H (.ref a) (.type "tuple")
 |dK {a:aO} {kvs:List (Key×V)} (e:H a=sO (.dK kvs)):TyOf K H (.ref a) (.type "dict")
 |dT {a:aO} {kvs:List (List Key×V)} (e:H a=sO (.dT kvs)):TyOf K H (.ref a) (.type "dict")
 |ins {a C dx:aO} {fs:List (Str×V)} (e:H a=sO (.ins C dx fs)) (cl:Cls K C) (ha:uZ K (.ref C) "__class__"=sO (sO (.builtin "object.__class__")))
   (hn:PySem.W.specialIn K (.builtin "object.__class__") "__get__"=sO (sO (.builtin "getset_descriptor.__get__"))) (htk:PySem.W.takesIn K (.builtin "object.__class__")=sO tV)
   (hm:PySem.W.mroIn K C (.type "object")=sO tV):TyOf K H (.ref a) (.ref C)
end
structure Room(k:Nat)(A:Around):Prop where
 hd:A.handled=nO
 dp:A.depth+3*k+5 < recursionLimit
 un:A.units+16*k+200 < cLine
theorem Room.mono{k:Nat}(r:Room k A)(h:j<=k):Room j A:=⟨r.hd,by have:=r.dp;lia,by have:=r.un;lia⟩
theorem Room.deeper{k:Nat}(r:Room (k+1) A)(env:Env):Room k (A.deeper env) :=
 ⟨r.hd,by have:=r.dp;show A.depth+1+3*k+5 < _;lia,by have:=r.un;show A.units+3+16*k+200 < _;lia⟩
theorem Y5{us:List aA}:(A.under (.builtin "type.__call__" ⟨.ref C::us,kw⟩)).depth=A.depth+1:=by
 first|rfl|simp[Around.under,Code.weight,Code.isCreation,Code.isGuard,Code.isCaller,Code.frames,Code.isFrame,guardIds]
theorem Y6{us:List aA}:(A.under (.builtin "type.__call__" ⟨.ref C::us,kw⟩)).units=A.units+1:=by
 first|rfl|simp[Around.under,Code.cUnits,Code.frames,Code.isFrame]
theorem Room.make{k:Nat}(r:Room (k+1) A)(C:aO)(us:List aA)(kw:List (Str×aA)):Room k (A.under (.builtin "type.__call__" ⟨.ref C::us,kw⟩)) :=
 ⟨r.hd,by have:=r.dp;rw[Y5];lia,by have:=r.un;rw[Y6];lia⟩
theorem Room.depth{k:Nat}(r:Room k A):A.depth < recursionLimit:=by have:=r.dp;lia
theorem Room.units{k:Nat}(r:Room k A):A.units+64 < cLine:=by have:=r.un;lia
theorem Room.units0{k:Nat}(r:Room k A):A.units < cLine:=by have:=r.un;lia
def tNil:TA:=fun _ H Q=>Q [] H
def z5(ta:TE)(tr:TA):TA:=fun σ H Q=>ta σ H fun x H1=>tr σ H1 fun xs H2=>Q (x::xs) H2
section
variable{t:TA}
theorem zcc:PA X [] tNil:=fun _ _ _ _ H Q I h=>Calls.spliced_nil ⟨[],H,I,.nil,h⟩
theorem QC(ha:PE X e te)(hr:PA X es t)(hs:starEach (e::es) X.env=(fO,eval e X.env)::starEach es X.env:=by rfl):PA X (e::es) (z5 te t):=by
 intro pos pins s σ H Q I h;rw[hs];show wpAny _ _ (spliced ((fO,eval e X.env)::backTo pos (starEach es X.env))) _ _ s;refine Calls.spliced_cons (thn (ha pins s σ H _ I h) fun u s1 hq_=>?_);obtain⟨x,H1,I1,r1,q1⟩:=hq_;exact thn (hr pos pins s1 σ H1 _ I1 q1) fun us s2 ⟨xs,H2,I2,r2,q2⟩=>⟨x::xs,H2,I2,.cons r1 r2,q2⟩
def tTup(t:TA):TE:=fun σ H Q=>t σ H fun xs H1=>xs.length<=sizeLine/\∀p,H1 p=nO->Q (.ref p) (upd H1 p (.tup xs))
def tLst(t:TA):TE:=fun σ H Q=>t σ H fun xs H1=>xs.length<=sizeLine/\∀p,H1 p=nO->Q (.ref p) (upd H1 p (.lst xs))
theorem zcd{x1}(h:PA X es t):PE X (.Tuple es x1 pos) (tTup t):=by
 intro pins s σ H Q I hq;refine wpAny_Tuple_spliced (thn (h pos pins s σ H _ I hq) fun us s1 ⟨xs,H1,I1,r,z,q⟩=>⟨by rw[<- r.length];exact z,?_⟩);have hf:H1 s1.heap.objs.size=nO:=I1.hok.fresh (uj _);refine⟨.ref s1.heap.objs.size,upd H1 s1.heap.objs.size (.tup xs),I1.laid (t':=s1.toks) (fun b u e=>ue _ e) (uj _) ?_,rfl,q _ hf⟩;exact⟨z,us,r,⟨_,uu _ rfl,rfl,rfl,_,rfl⟩⟩
theorem zce(h:PA X es t):PE X (.List es pos) (tLst t):=by
 intro pins s σ H Q I hq;refine wpAny_List_spliced (thn (h pos pins s σ H _ I hq) fun us s1 ⟨xs,H1,I1,r,z,q⟩=>⟨by rw[<- r.length];exact z,?_⟩);have hf:H1 s1.heap.objs.size=nO:=I1.hok.fresh (uj _);refine⟨.ref s1.heap.objs.size,upd H1 s1.heap.objs.size (.lst xs),I1.laid (t':=s1.toks) (fun b u e=>ue _ e) (uj _) ?_,rfl,q _ hf⟩;exact⟨z,us,0,r,uu _ rfl⟩
end
abbrev Sp:=List V->Hp->VK->XK->Prop
abbrev CXT:=List Env->Hp->Shared->XK->aA->Shared->Prop
variable{CX:CXT}
structure Env0(P:Program)(w:World)(K:uc)(mg:Str->Option aA)(base:Heap)(A:Around)(outer:List Env)(s:Shared)(H:Hp):Prop where
 frames:A.frames=sO outer
 mod:Mod K mg base
 bs:∀b o,base.get? b=sO o->s.heap.get? b=sO o/\H b=nO
 bsz:base.objs.size<=s.heap.objs.size
 funs:s.heap.FunFrames base outer
 frf:∀b∈frs outer,H b=nO
 hok:HOk P w H s.heap
 bare:AllBare s.gens
def CE(outer:List Env)(P:Program)(w:World)(H:Hp)(s:Shared)(Q:VK)(u:aA)(s':Shared):Prop :=
 ∃v H',s'.os=s.os/\AllBare s'.gens/\Un (frs outer) [] H H' s.heap s'.heap/\HOk P w H' s'.heap/\RelV v u/\Q v H'
def CR(CX:CXT)(outer:List Env)(P:Program)(w:World)(H:Hp)(s:Shared)(Q:VK)(E:XK)(r:Result)(s':Shared):Prop :=
 match r with
 |.ok (.ret u)=>CE outer P w H s Q u s'
 |.ok _=>False
 |.error e=>CX outer H s E e s'
structure FnOk(P:Program)(w:World)(K:uc)(mg:Str->Option aA)(base:Heap)(CX:CXT)(k:Nat)(f:aO)(fd:FuncData)(ps:lS)(sp:Sp):Prop where
 len:∀vs H Q E,sp vs H Q E->vs.length=ps.length
 run:∀(A:Around)(outer:List Env)(s:Shared)(H:Hp)(args:Args)(us:List aA)(vs:List V)(Q:VK)(E:XK),Room k A->Env0 P w K mg base A outer s H->BindsTo s fd args (ps.zip us)->Vals vs us->sp vs H Q E ->
  codeAny (model P w) A (.call (.ref f) args) (CR CX outer P w H s Q E) s
theorem FnOk.mono{K:uc}{k:Nat}{sp:Sp}(F:FnOk P w K mg base CX j f fd ps sp)(h:j<=k):
  FnOk P w K mg base CX k f fd ps sp:=⟨F.len,fun A outer s H args us vs Q E hr=>F.run A outer s H args us vs Q E (hr.mono h)⟩
theorem Env0.make{K:uc}{outer:List Env}(e:Env0 P w K mg base A outer s H)(C:aO)(us:List aA)(kw:List (Str×aA)):
  Env0 P w K mg base (A.under (.builtin "type.__call__" ⟨.ref C::us,kw⟩)) outer s H:=⟨by first|exact e.frames|(simpa[Around.under,Code.envs,Code.isFrame,pushEnvs]using e.frames),e.mod,e.bs,e.bsz,e.funs,e.frf,e.hok,e.bare⟩
theorem Inv.env0(I:Inv X pins σ H s):Env0 X.prog X.w X.K X.mg X.base X.A X.stack s H :=
 ⟨I.ok.frames,I.ok.mod,I.bs,uH I.ok.bsz I.sz,I.stack,I.stkFree,I.hok,I.bare⟩
theorem Inv.after{Q:VK}(I:Inv X pins σ H s)(h:CE X.stack X.prog X.w H s Q u s'):EP X pins σ Q u s':=by
 obtain⟨v,H',os,bare,un,hok,r,q⟩:=h;obtain⟨hh,g,d,t,os'⟩:=s';obtain rfl:os'=s.os:=os;exact⟨v,H',I.call (h':=hh) (g':=g) (d':=d) (t':=t) (ch:=[]) un hok bare (fun b z=>absurd z (by simp)),r,q⟩
def Z2(sp:Sp)(dvs:List V)(E:XK)(t:TA):TE:=fun σ H Q=>t σ H fun vs H1=>sp (vs++dvs) H1 Q E
def za5(C:aO)(m:Str)(sp:Sp)(dvs:List V)(E:XK)(ta:TE)(t:TA):TE:=fun σ H Q=>ta σ H fun x H1=>∃a dx fs,x=.ref a/\H1 a=sO (.ins C dx fs)/\fs.lookup m=nO /\
 t σ H1 fun vs H2=>sp (x::(vs++dvs)) H2 Q E
def za6(C:aO)(sp:Sp)(dvs:List V)(E:XK)(t:TA):TE:=fun σ H Q=>t σ H fun vs H1=>∀x dx,H1 x=nO->H1 dx=nO->dx≠x ->
 sp (.ref x::(vs++dvs)) (upd (upd H1 dx (.own x)) x (.ins C dx [])) (fun v H2=>v=.non/\Q (.ref x) H2) E
def Binds(K:uc)(fd:FuncData)(ps:lS)(ds:List aA):Prop :=
 ∀(s:Shared)(us:List aA),K.In s.heap->(us++ds).length=ps.length->BindsTo s fd ⟨us,[]⟩ (ps.zip (us++ds))
theorem Binds.all{K:uc}(h:∀us:List aA,us.length=ps.length->bindArgs fd ⟨us,[]⟩=pure (ps.zip us)):Binds K fd ps []:=fun s us _ hl=>by
 rw[uU]at hl ⊢;exact .of_eq (h us hl)
def yS(CX:CXT)(X:Cx)(E:XK):Prop:=∀(pins:List (aO×Obj))(σ:St)(H:Hp)(s:Shared)(e:aA)(s':Shared),Inv X pins σ H s->CX X.stack H s E e s'->X.xe e s'
section
variable{k:Nat}{sp:Sp}{dvs:List V}{E:XK}{m:Str}{o:Expr}{t:TA}
theorem j7{Q:VK}{us:List aA}{vs:List V}(F:FnOk X.prog X.w X.K X.mg X.base CX k f fd ps sp)(hr:Room k X.A)(hb:Binds X.K fd ps ds)(hd:Vals dvs ds)(hx:yS CX X E)
  (I:Inv X pins σ H s) (r:Vals vs us) (h:sp (vs++dvs) H Q E):wpAny (model X.prog X.w) X.A (call (.ref f) us) (EP X pins σ Q) X.xe s:=by
 have r2:Vals (vs++dvs) (us++ds):=r.append hd;have hl:(us++ds).length=ps.length:=by rw[<- r2.length];exact F.len _ _ _ _ h
 refine wpAny_call (codeAny_mono (F.run X.A X.stack s H ⟨us,[]⟩ (us++ds) (vs++dvs) Q E hr I.env0 (hb s us I.kIn hl) r2 h) fun r s' hq=>?_);cases r with
 |error e=>exact hx pins σ H s e s' I hq
 |ok fl =>
  cases fl with
  |ret u=>exact I.after hq
  |next=>exact False.elim hq
  |brk=>exact False.elim hq
  |cont=>exact False.elim hq
theorem QD(F:FnOk X.prog X.w X.K X.mg X.base CX k f fd ps sp)(hr:Room k X.A)(hg:Gl X x)(hm:X.mg x=sO (.ref f))(hk:u5 X.K (.ref f)=tV)(hb:Binds X.K fd ps ds)(hd:Vals dvs ds)(hx:yS CX X E)
  (ha:PA X (e::es) t) (hdb:(x == ("__debug__":Str))=fO:=by decide) (he:starEach (e::es) X.env=(fO,eval e X.env)::starEach es X.env:=by rfl) (hpl:(backTo pos (starEach es X.env)).any (·.1)=fO:=by rfl) :
  PE X (.Call (.Name x p) (e::es) [] pos) (Z2 sp dvs E t):=by
 intro pins s σ H Q I h;refine wpAny_Call_Name_kw (vq I hg hm ?_ hdb);refine U5 (h₀:=X.base) I.ok.mod.kin hk (thn (ha pos pins s σ H _ I h) fun us s1 ⟨vs,H1,I1,r,q⟩=>⟨I1.kIn,?_⟩) he hpl;exact j7 F hr hb hd hx I1 r q
theorem QE{pl:Sem Bool}(he:PE X o ta)(c:Cls X.K C)(hm:Meth X.K C m f)(F:FnOk X.prog X.w X.K X.mg X.base CX k f fd ps sp)(hr:Room k X.A)(hb:Binds X.K fd ps ds)(hd:Vals dvs ds)(hx:yS CX X E)(ha:PA X (e::es) t)
  (hst:starEach (e::es) X.env=(fO,eval e X.env)::starEach es X.env:=by rfl) (hpl:(backTo pos (starEach es X.env)).any (·.1)=fO:=by rfl)
  (ht:eval (.Call (.Attribute o m apos) (e::es) [] pos) X.env=(do
   let ov <- eval o X.env
   standAt apos.atName
   let (f,first) <- holding [ov] (getMethod ov m pl)
   callWith pos f first (backTo pos (starEach (e::es) X.env)) (backToKw pos (keywordEach [] X.env))):=by rfl) :
  PE X (.Call (.Attribute o m apos) (e::es) [] pos) (za5 C m sp dvs E ta t):=by
 intro pins s σ H Q I h;refine PySem.W.methodCall_KW (pl:=pl) (thn (he pins s σ H _ I h) fun u s1 ⟨x,H1,I1,rx,a,dx,fs,ex,ea,l,q⟩=>?_) ht;subst ex;obtain rfl:u=Value.ref a:=rx;refine Y3 I1 ea c hm l ?_;refine U5 (first:=[.ref a]) (h₀:=X.base) I.ok.mod.kin hm.kp (thn (ha pos pins s1 σ H1 _ I1 q) fun us s2 ⟨vs,H2,I2,r,q2⟩=>⟨I2.kIn,?_⟩) hst hpl;exact j7 (us:=.ref a::us) (vs:=.ref a::vs) F hr hb hd hx I2 (.cons rfl r) q2
structure Mk(K:uc)(C f:aO):Prop where
 makes:PySem.W.makesIn K C=tV
 init:uZ K (.ref C) "__init__"=sO (sO (.ref f))
 fn:PySem.W.isFn K (.ref f)=tV
 kp:u5 K (.ref C)=tV
theorem Vo{Q:VK}{us:List aA}{vs:List V}(M:Mk X.K C f)(F:FnOk X.prog X.w X.K X.mg X.base CX k f fd ps sp)(hr:Room (k+1) X.A)(hb:Binds X.K fd ps ds)(hd:Vals dvs ds)
  (hx:yS CX X E) (I:Inv X pins σ H s) (r:Vals vs us)
  (h:∀x dx,H x=nO->H dx=nO->dx≠x->sp (.ref x::(vs++dvs)) (upd (upd H dx (.own x)) x (.ins C dx [])) (fun v H2=>v=.non/\Q (.ref x) H2) E) :
  wpAny (model X.prog X.w) X.A (call (.ref C) us) (EP X pins σ Q) X.xe s:=by
 have hq:=h (s.heap.objs.size+1) s.heap.objs.size (I.hok.fresh (Nat.le_succ _)) (I.hok.fresh (uj _)) (uT (UW _));have I2:=Inv.made (C:=C) I;have r2:Vals (V.ref (s.heap.objs.size+1)::(vs++dvs)) (Value.ref (s.heap.objs.size+1)::(us++ds)):=.cons rfl (r.append hd);have hl:(Value.ref (s.heap.objs.size+1)::us++ds).length=ps.length:=by
  have e:=r2.length;rw[F.len _ _ _ _ hq]at e;exact e.symm
 refine wpAny_call (Vn (f:=f) I.kIn M.makes M.init (beq_iff_eq.mp M.fn) (codeAny_mono (F.run _ X.stack _ _ ⟨Value.ref (s.heap.objs.size+1)::us,[]⟩ (Value.ref (s.heap.objs.size+1)::(us++ds)) _ _ E (hr.make C us [])
  (I2.env0.make C us []) (hb _ (Value.ref (s.heap.objs.size+1)::us) I2.kIn hl) r2 hq) fun r s' hq'=>?_))
 cases r with
 |error e=>exact hx pins σ _ _ e s' I2 hq'
 |ok fl =>
  cases fl with
  |ret u =>
   obtain⟨v,H',I3,rv,ev,q3⟩:=I2.after hq';subst ev;exact⟨rv,⟨V.ref (s.heap.objs.size+1),H',I3,rfl,q3⟩⟩
  |next=>exact False.elim hq'
  |brk=>exact False.elim hq'
  |cont=>exact False.elim hq'
theorem QF(M:Mk X.K C f)(F:FnOk X.prog X.w X.K X.mg X.base CX k f fd ps sp)(hr:Room (k+1) X.A)(hg:Gl X x)(hm:X.mg x=sO (.ref C))(hb:Binds X.K fd ps ds)(hd:Vals dvs ds)(hx:yS CX X E)
  (ha:PA X (e::es) t) (hdb:(x == ("__debug__":Str))=fO:=by decide) (he:starEach (e::es) X.env=(fO,eval e X.env)::starEach es X.env:=by rfl) (hpl:(backTo pos (starEach es X.env)).any (·.1)=fO:=by rfl) :
  PE X (.Call (.Name x p) (e::es) [] pos) (za6 C sp dvs E t):=by
 intro pins s σ H Q I h;refine wpAny_Call_Name_kw (vq I hg hm ?_ hdb);refine U5 (h₀:=X.base) I.ok.mod.kin M.kp (thn (ha pos pins s σ H _ I h) fun us s1 ⟨vs,H1,I1,r,q⟩=>⟨I1.kIn,?_⟩) he hpl;exact Vo M F hr hb hd hx I1 r q
end
structure FnScope(N P:lS)(sc:Scope):Prop where
 kind:sc.kind=.function
 co:sc.isCoroutine=fO
 gen:sc.isGenerator=fO
 nd:N.Nodup
 pre:N.take P.length=P
 par:∀x∈P,sc.names.lookup x=sO .local\/sc.names.lookup x=sO .cell
 nofree:∀y∈sc.names,y.2≠.free
theorem FnScope.ok{P:lS}{sc:Scope}(a:N.Nodup:=by decide +kernel)(b:∀x∈P,sc.names.lookup x=sO .local\/sc.names.lookup x=sO .cell:=by decide +kernel)(c:∀y∈sc.names,y.2≠.free:=by decide +kernel)(d:sc.kind=.function:=by rfl)(e:sc.isCoroutine=fO:=by rfl)(f:sc.isGenerator=fO:=by rfl)(g:N.take P.length=P:=by rfl):FnScope N P sc:=⟨d,e,f,a,g,b,c⟩
theorem ju{kindOf:Str->Option NameKind}{x:Str}:∀{binds:List (Str×aA)}{m:Str->Option aA},(∀v,(x,v)∉binds)->bindL kindOf binds m x=m x
 |[],_,_=>rfl
 | (n,v)::r,m,h=>by
  unfold bindL;rw[ju fun w hw=>h w (Us _ hw)];split
  ·have:x≠n:=by rintro rfl;exact h v Uk
   simp[this]
  ·rfl
theorem jw{kindOf:Str->Option NameKind}{x:Str}:∀{binds:List (Str×aA)}{m:Str->Option aA},(∀v,(x,v)∉binds)->bindC kindOf binds m x=m x
 |[],_,_=>rfl
 | (n,v)::r,m,h=>by
  unfold bindC;rw[jw fun w hw=>h w (Us _ hw)];split
  ·rfl
  ·have:x≠n:=by rintro rfl;exact h v Uk
   simp[this]
theorem jx{kindOf:Str->Option NameKind}{x:Str}{v:aA}:∀{P:lS}{vs:List aA}{i:Nat}{m:Str->Option aA},P.Nodup->P[i]?=sO x->vs[i]?=sO v->kindOf x=sO .local ->
  bindL kindOf (P.zip vs) m x=sO v
 |[],_,_,_,_,h,_,_=>by simp at h
 |_::_,[],_,_,_,_,h,_=>by simp at h
 |p::P,w::vs,0,m,nd,h1,h2,hk=>by
  simp at h1 h2;subst h1;subst h2
  show bindL kindOf ((p,w)::P.zip vs) m p=_;unfold bindL;rw[ju fun v hv=>(uP.mp nd).1 (Uv hv).1,iP hk];simp
 |p::P,w::vs,i+1,m,nd,h1,h2,hk=>by
  show bindL kindOf ((p,w)::P.zip vs) m x=_;unfold bindL;exact jx (i:=i) (uP.mp nd).2 (by simpa using h1) (by simpa using h2) hk
theorem jy{kindOf:Str->Option NameKind}{x:Str}{v:aA}:∀{P:lS}{vs:List aA}{i:Nat}{m:Str->Option aA},P.Nodup->P[i]?=sO x->vs[i]?=sO v->kindOf x≠sO .local ->
  bindC kindOf (P.zip vs) m x=sO v
 |[],_,_,_,_,h,_,_=>by simp at h
 |_::_,[],_,_,_,_,h,_=>by simp at h
 |p::P,w::vs,0,m,nd,h1,h2,hk=>by
  simp at h1 h2;subst h1;subst h2
  show bindC kindOf ((p,w)::P.zip vs) m p=_;unfold bindC;rw[jw fun v hv=>(uP.mp nd).1 (Uv hv).1,iN hk];simp
 |p::P,w::vs,i+1,m,nd,h1,h2,hk=>by
  show bindC kindOf ((p,w)::P.zip vs) m x=_;unfold bindC;exact jy (i:=i) (uP.mp nd).2 (by simpa using h1) (by simpa using h2) hk
def start(N:lS)(vs:List V):St:=vs.map sO++uQ (N.length-vs.length) nO
def cxOf(CX:CXT)(P:Program)(w:World)(K:uc)(mg:Str->Option aA)(base:Heap)(N:lS)(qual:Str)(scope:Scope)(f:aO)(cd:aA)(A:Around)(outer:List Env)(s:Shared)(H:Hp)(E:XK):Cx where
 prog:=P
 w:=w
 K:=K
 mg:=mg
 base:=base
 A:=A.deeper (envOfC qual scope s.heap.objs.size f cd)
 N:=N
 s₀:=s
 H₀:=H
 env:=envOfC qual scope s.heap.objs.size f cd
 outer:=outer
 stack:=envOfC qual scope s.heap.objs.size f cd::outer
 ex:=[]
 calm:=tV
 fn:=fun _=>tV
 pn:=[]
 xe:=fun e s'=>wpAny (model P w) (A.deeper (envOfC qual scope s.heap.objs.size f cd)) (leaving (envOfC qual scope s.heap.objs.size f cd) e) (fun _ s''=>CX outer H s E e s'') (fun e' s''=>CX outer H s E e' s'') s'
theorem Z3{sc:Scope}(h:sc.names.lookup x=sO .cell):∃c,(cellsFrom n sc.names []).lookup x=sO c:=by
 have q:=PySem.W.cellsFrom_some sc.names n [] (.inl h);exact U2.mp q
theorem jz{K:uc}{cd:aA}{outer:List Env}{s1:Shared}{E:XK}{us:List aA}{vs:List V}
  (S:FnScope N ps scope) (hd:A.handled=nO) (e0:Env0 P w K mg base A outer s H) (hl:vs.length=ps.length) (r:Vals vs us)
  (x:InCallC s s.heap.objs.size (bindL (envOfC qual scope s.heap.objs.size f cd).kindOf (ps.zip us) fun _=>nO) (cellsFrom (s.heap.objs.size+1) scope.names []) (bindC (envOfC qual scope s.heap.objs.size f cd).kindOf (ps.zip us) fun _=>nO) s1) :
  Inv (cxOf CX P w K mg base N qual scope f cd A outer s H E) [] (start N vs) H s1:=by
 have hpl:ps.length<=N.length:=by have:=congrArg tU S.pre;rw[ut]at this;lia
 obtain⟨h1,tk,rfl,hk⟩:=x.done;have noA:∀b:aO,b∉(cxOf CX P w K mg base N qual scope f cd A outer s H E).ex:=fun b z=>absurd (show b∈([]:List aO)from z) (by simp);refine⟨⟨e0.mod,S.kind,rfl,rfl,uj _,fun y z c h1 h2=>?_,fun y hy=>?_,fun y c _ h=>?_,fun _=>hd,Around.frames_deeper e0.frames,.inr ⟨rfl,rfl⟩,fun b z=>absurd z (noA b),e0.bs,e0.bsz,fun b _ _=>noA b,fun b z=>absurd z (noA b),e0.funs,e0.frf⟩,
  rfl,e0.bare,Un.kept hk,⟨_,x.toInCall.ns,fun i y v h1 h2 h3=>?_⟩,fun y c h=>⟨_,x.cell y c h⟩,e0.hok.fresh (uj _),fun y c h=>?_,fun p hp=>absurd (show p∈([]:List (aO×Obj))from hp) (by simp),e0.hok.kept hk,?_⟩
 ·exact name_of_addr x.apart (u4 h1) (u4 h2)
 ·have hy:scope.names.lookup y=sO .cell\/scope.names.lookup y=sO .free:=hy
  rcases hy with hy|hy
  ·exact Z3 hy
  ·exact absurd rfl (S.nofree _ (u4 hy))
 ·exact Nat.le_of_lt (x.above y c (u4 h))
 ·have hi:i < vs.length:=by
   unfold start at h2;by_cases hi:i < vs.length
   ·exact hi
   ·rw[UE (by simpa using hi)]at h2
    rw[List.getElem?_replicate]at h2;split at h2<;>cases h2
  have ha:vs[i]?=sO v:=by
   unfold start at h2;rw[Ut (by simpa using hi),uh]at h2;cases e:vs[i]? with
   |none=>rw[e]at h2;cases h2
   |some a=>rw[e]at h2;cases h2;rfl
  obtain⟨u,hu,rv⟩:=r.get ha;have hp:ps[i]?=sO y:=by
   rw[<- S.pre,List.getElem?_take_of_lt (by lia)];exact h1
  have ndP:ps.Nodup:=by rw[<- S.pre];exact S.nd.sublist (List.take_sublist _ _)
  refine⟨u,rv,?_⟩;rcases S.par y (uw hp)with k|k
  ·exact .inl ⟨k,jx ndP hp hu k⟩
  ·obtain⟨c,e⟩:=Z3 (n:=s.heap.objs.size+1) k
   refine .inr ⟨.inl k,c,e,?_⟩;have q:=x.cell y c e;rw[jy ndP hp hu (by show scope.names.lookup y≠_;rw[k];decide)]at q;exact q
 ·exact e0.hok.fresh (Nat.le_of_lt (x.above y c (u4 h)))
 ·unfold start
  show _=N.length;rw[uf,ub,Uq];lia
theorem za7{K:uc}{k:Nat}{dV kV:aA} {sp:Sp} (lk:K.lookup f=sO ⟨oc,od,.func (Ul name qual params body scope dV kV doc pm an cdv ct),osl⟩) (hcd:UN K cdv qual=tV) (S:FnScope N ps scope)
  (len:∀vs H Q E,sp vs H Q E->vs.length=ps.length)
  (hbody:∀(A:Around)(outer:List Env)(s:Shared)(H:Hp)(vs:List V)(Q:VK)(E:XK),Room k (A.deeper (envOfC qual scope s.heap.objs.size f cdv))->sp vs H Q E ->
   ∃t,PSs (cxOf CX P w K mg base N qual scope f cdv A outer s H E) body t/\t { nx:=fun _ H'=>Q .non H',rt:=Q } (start N vs) H) :
  FnOk P w K mg base CX (k+1) f (Ul name qual params body scope dV kV doc pm an cdv ct) ps sp:=by
 refine⟨len,fun A outer s H args us vs Q E hr e0 hb r hsp=>?_⟩;have hl:=len _ _ _ _ hsp;have KX:K.In s.heap:=e0.mod.kin.keeps fun b o e=>(e0.bs b o e).1;have lim:s.heap.NoLimit:=e0.mod.nolimit.keeps fun b o e=>(e0.bs b o e).1;have hkind:∀y∈ps.zip us,scope.names.lookup y.1=sO .local\/(scope.names.lookup y.1=sO .cell/\((cellsFrom (s.heap.objs.size+1) scope.names []).lookup y.1).isSome=tV):=fun⟨n,v⟩ hy=>by
  rcases S.par n (Uv hy).1 with q|q
  ·exact .inl q
  ·exact .inr ⟨q,PySem.W.cellsFrom_some _ _ _ (.inl q)⟩
 refine codeAny_call_function hr.depth (KX _ _ lk) rfl S.co S.gen rfl (PySem.W.codeRec_of KX hcd) (hb _ _ _ _ ?_);refine wpAny_newFunctionEnv_cells S.kind hkind fun env he s1 x=>?_;subst he;refine⟨lim.keeps x.toInCall.keep,codeAny_func ?_⟩;obtain⟨t,ht,hq⟩:=hbody A outer s H vs Q E (hr.deeper _) hsp;have I:Inv (cxOf CX P w K mg base N qual scope f cdv A outer s H E) [] (start N vs) H s1:=jz S hr.hd e0 hl r x;refine wpAny_mono (ht [] s1 (start N vs) H _ I hq) (fun fl s' hs=>?_) fun e s' hs=>hs;have fin:∀{σ':St}{H':Hp}{v:V}{u:aA},Inv (cxOf CX P w K mg base N qual scope f cdv A outer s H E) [] σ' H' s'->RelV v u->Q v H'->CE outer P w H s Q u s' :=
  fun{σ' H' v u} J rv q=>⟨v,H',J.os,J.bare,J.base,J.hok,rv,q⟩
 cases fl with
 |ret u =>
  obtain⟨v,σ',H',J,rv,q⟩:=hs;exact fin J rv q
 |next =>
  obtain⟨σ',H',J,q⟩:=hs;exact fin (v:=V.non) (u:=Value.none) J rfl q
 |brk =>
  obtain⟨_,_,_,q⟩:=hs;exact False.elim q
 |cont =>
  obtain⟨_,_,_,q⟩:=hs;exact False.elim q
section
variable{t:TA}{T:String}{r:List V->Hp->VK->Prop}
def tCB(r:List V->Hp->VK->Prop)(t:TA):TE:=fun σ H Q=>t σ H fun vs H1=>r vs H1 Q
theorem Vp(hc:xB X (.builtin id) r)(hg:Gl X x)(hm:X.mg x=nO)(hv:bootBuiltins x=sO (.builtin id))(ha:PA X (e::es) t)(hn:x≠"__name__":=by decide)(hdb:(x == ("__debug__":Str))=fO:=by decide)
  (he:starEach (e::es) X.env=(fO,eval e X.env)::starEach es X.env:=by rfl) (hpl:(backTo pos (starEach es X.env)).any (·.1)=fO:=by rfl):PE X (.Call (.Name x p) (e::es) [] pos) (tCB r t):=by
 intro pins s σ H Q I h;refine wpAny_Call_Name_kw (xp I hg hm hv ?_ hn hdb);exact PyProof.Rows.callWith_builtin1 (thn (ha pos pins s σ H _ I h) fun us s1 ⟨vs,H1,I1,r1,q1⟩=>hc pins s1 σ H1 vs us Q I1 r1 q1) he hpl
theorem Wu(hc:xB X (.type T) r)(hg:Gl X x)(hm:X.mg x=nO)(hv:bootBuiltins x=sO (.type T))(ha:PA X (e::es) t)(hn:x≠"__name__":=by decide)(hdb:(x == ("__debug__":Str))=fO:=by decide)
  (he:starEach (e::es) X.env=(fO,eval e X.env)::starEach es X.env:=by rfl) (hpl:(backTo pos (starEach es X.env)).any (·.1)=fO:=by rfl):PE X (.Call (.Name x p) (e::es) [] pos) (tCB r t):=by
 intro pins s σ H Q I h;refine wpAny_Call_Name_kw (xp I hg hm hv ?_ hn hdb);exact Um (thn (ha pos pins s σ H _ I h) fun us s1 ⟨vs,H1,I1,r1,q1⟩=>hc pins s1 σ H1 vs us Q I1 r1 q1) he hpl
end
end L2
variable{g:L2.TG}{X:L2.Cx}{te ta tb to tl t1 t2 t3 t4 td ty:L2.TE}{r:L2.V->Option Int->Option Int->L2.Hp->L2.VK->Prop}{xs:List L2.V}{σ:L2.St}{H H1 H2 H':L2.Hp}{sp:L2.Sp}{tt:L2.TT}{CX:L2.CXT}{gs:L2.TGs}{D:L2.Ends}{cvs:List (aO×L2.V)}{kvs:List (L2.Key×L2.V)}
namespace HT
open PySem PyProof.Rows
theorem cat_tup{t:aO}{ws:List aA}{Q:VSP}(ht:IsTup s.heap t vs.toArray)(hb:IsTup s.heap b ws.toArray)(hv:vs≠[])
  (h1:ws=[]->Q (.ref t) s) (h2:ws≠[]->Q (.ref s.heap.objs.size) { s with heap:=s.heap.push { cls:=.type "tuple",data:=.seq (vs++ws).toArray } })
  (hsz:vs.length+ws.length<=sizeLine):wpAny (model prog w) A (binaryOp .Add (.ref t) (.ref b)) Q E s:=by
 obtain⟨⟨cls,dd,data,sl⟩,ho,hc,n,hd⟩:=id ht;obtain⟨⟨cls2,dd2,data2,sl2⟩,ho2,hc2,n2,hd2⟩:=id hb;simp only at hc hd hc2 hd2
 subst hc hd hc2 hd2;have e:vs.toArray++ws.toArray=(vs++ws).toArray:=by simp
 by_cases hw:ws=[]
 ·exact concat_meets ⟨_,ho,rfl⟩ ⟨_,ho2,rfl⟩ noFill_tuple_add seq_tuple_add PySem.F.slot_tuple_add PySem.F.entry_tuple_add (PySem.F.args_tuple_add_2 _ _)
   (tuple_addW1 t b vs.toArray ws.toArray n n2 dd dd2 sl sl2 (by simpa using hv) (by simp[hw])) ⟨ho,ho2,h1 hw⟩
 ·refine concat_meets ⟨_,ho,rfl⟩ ⟨_,ho2,rfl⟩ noFill_tuple_add seq_tuple_add PySem.F.slot_tuple_add PySem.F.entry_tuple_add (PySem.F.args_tuple_add_2 _ _)
   (tuple_addW2 t b vs.toArray ws.toArray n n2 dd dd2 sl sl2 (by simpa using hv) (by simpa using hw) (by rw[uA,uA];exact hsz)) ⟨ho,ho2,?_⟩
  rw[e];exact h2 hw
def sIx(n d:Nat):Option Int->Nat
 |none=>d
 |some v=>if v < 0 then(v+(n:Int)).toNat else min v.toNat n
theorem zcf(n d:Nat)(hd:d<=n)(o:Option Int):sIx n d o<=n:=by
 cases o with
 |none=>exact hd
 |some v =>
  show(if v < 0 then(v+(n:Int)).toNat else min v.toNat n)<=n;by_cases hv:v < 0
  ·rw[iP hv];lia
  ·rw[iN hv];exact Nat.min_le_right _ _
theorem XN(v:Int)(n d:Nat):(if v < 0 then max (v+(n:Int)) 0 else min v (n:Int))=((sIx n d (sO v):Nat):Int):=by
 show(if v < 0 then max (v+(n:Int)) 0 else min v (n:Int))=(((if v < 0 then(v+(n:Int)).toNat else min v.toNat n):Nat):Int);by_cases hv:v < 0
 ·simp only[iP hv];lia
 ·simp only[iN hv];lia
theorem Y7(lo hi:Option Int)(n:Nat):Builtin.Slice.sliceAdjust lo hi 1 (n:Int)=(((sIx n 0 lo:Nat):Int),((sIx n n hi:Nat):Int)):=by
 have h1:¬ ((1:Int) < 0):=by lia
 unfold Builtin.Slice.sliceAdjust;simp only[h1,if_false]
 refine Prod.ext ?_ ?_
 ·cases lo with
  |none=>rfl
  |some v=>exact XN v n 0
 ·cases hi with
  |none=>rfl
  |some v=>exact XN v n n
theorem Y8(i j:Nat):Builtin.Slice.slicePlaces (i:Int) (j:Int) 1=j-i:=by
 unfold Builtin.Slice.slicePlaces;have h1:(1:Int) > 0:=by lia
 simp only[h1,if_true,Int.ediv_one]
 split<;>lia
theorem vJ{o:Option Int}{Q:Option Int->Shared->Prop}(p:IsPart v o)(h:Q o s):wpAny (model prog w) A (Builtin.Slice.slicePartIndex v) Q E s:=by
 cases p with
 |none=>exact slicePart_none h
 |int i t=>exact slicePart_int h
theorem xk{Q:Int×Int×Nat->Shared->Prop}(hs:s.heap.IsSliceOf sl vl vu .none)(pl:IsPart vl lo)(pu:IsPart vu hi)
  (h:Q (((sIx n 0 lo:Nat):Int),1,sIx n n hi-sIx n 0 lo) s):wpAny (model prog w) A (Builtin.Slice.sliceApplied (.ref sl) (pure (n:Int))) Q E s:=by
 obtain⟨os,hos,hcs,hds⟩:=id hs;unfold Builtin.Slice.sliceApplied Builtin.Slice.sliceFields;refine bA (bA (wpAny_field hos hds (x:=vl) rfl (bA (wpAny_field hos hds (x:=vu) rfl (bA (wpAny_field hos hds (x:=.none) rfl (pO ?_)))))));refine bA (slicePart_none ?_);show wpAny _ _ (if((1:Int) == 0)=tV then _ else _) _ _ s;rw[iN (by decide)];refine bA (vJ pl (bA (vJ pu (bA (pO ?_)))));show wpAny _ _ (match Builtin.Slice.sliceAdjust lo hi 1 (n:Int)with|(lo,hi)=>pure (lo,(1:Int),Builtin.Slice.slicePlaces lo hi 1)) _ _ s;rw[Y7 lo hi n];show wpAny _ _ (pure (((sIx n 0 lo:Nat):Int),(1:Int),Builtin.Slice.slicePlaces ((sIx n 0 lo:Nat):Int) ((sIx n n hi:Nat):Int) 1)) _ _ s;rw[Y8];exact pO h
theorem Vq(xs:Array aA)(i k:Nat):((uM k).filterMap fun(m:Nat)=>xs[((i:Int)+(m:Int)*1).toNat]?).toArray=((xs.toList.drop i).take k).toArray:=by
 have e:(fun(m:Nat)=>xs[((i:Int)+(m:Int)*1).toNat]?)=fun m=>xs[i+m]?:=by
  funext m
  have:((i:Int)+(m:Int)*1).toNat=i+m:=by lia
  rw[this]
 rw[e]
 have:=pick_run xs i k
 rw[List.filterMap_map]at this;have e2:((fun x=>xs[x]?) ∘ fun x=>i+x)=fun m=>xs[i+m]?:=rfl;rw[e2]at this;rw[this]
theorem getItem_tuple_cut{t:aO}{Q:VSP}(ht:IsTup s.heap t items)(hs:s.heap.IsSliceOf sl vl vu .none)(pl:IsPart vl lo)(pu:IsPart vu hi)
  (hw:¬ (sIx items.size 0 lo=0/\sIx items.size items.size hi=items.size))
  (h:Q (.ref s.heap.objs.size) { s with heap:=s.heap.push { cls:=.type "tuple",data:=.seq ((items.toList.drop (sIx items.size 0 lo)).take (sIx items.size items.size hi-sIx items.size 0 lo)).toArray } })
  (hsz:items.size<=sizeLine):wpAny (model prog w) A (getItem (.ref t) (.ref sl)) Q E s:=by
 have htake:sizeOk (.seq ((items.toList.drop (sIx items.size 0 lo)).take (sIx items.size items.size hi-sIx items.size 0 lo)).toArray):=by
  show((items.toList.drop (sIx items.size 0 lo)).take (sIx items.size items.size hi-sIx items.size 0 lo)).toArray.size<=sizeLine;rw[uA,ut,List.length_drop,Array.length_toList];lia
 have hj:sIx items.size items.size hi<=items.size:=zcf _ _ (uj _) hi;obtain⟨os,hos,hcs,hds⟩:=id hs;have hTs:s.TypeIs (.ref sl) "slice":=⟨os,hos,hcs⟩;unfold getItem
 try with_reducible refine wpAny_holding ?_
 first|refine bA (pO ?_)|skip
 refine bA (wpAny_sequenceKey ht.typeIs (by decide) ?_);refine bA (wpAny_callSpecial?_slot (name:=Str.ofString "__getitem__") ht.typeIs Up
  (wpAny_call_entry Up ht.typeIs entry_tuple_getitem ?_ (args_tuple_getitem _ _)))
 show wpAny _ _ (Builtin.Tuple.tupleItemsOf (.ref t) >>= _) _ _ s;refine bA (tupleItemsOf_ ht ?_);refine bA (wpAny_typeOf hTs ?_);rw[iP (by decide)];refine bA (xk hs pl pu ?_);have hno:¬ ((((sIx items.size 0 lo:Nat):Int) == 0 && (1:Int) == 1 && (sIx items.size items.size hi-sIx items.size 0 lo) == items.size)=tV):=by
  intro q;rw[uS,uS]at q;have q1:((sIx items.size 0 lo:Nat):Int)=0:=eq_of_beq q.1.1;have q2:sIx items.size items.size hi-sIx items.size 0 lo=items.size:=eq_of_beq q.2;exact hw ⟨by lia,by lia⟩
 show wpAny _ _ (if(((sIx items.size 0 lo:Nat):Int) == 0 && (1:Int) == 1 && (sIx items.size items.size hi-sIx items.size 0 lo) == items.size)=tV then _ else _) _ _ s;rw[iN hno,Vq]
 first
  |exact bA (m:=Builtin.Tuple.tupleExact _) (wpAny_newObj_type (pO ⟨_,rfl,pO h⟩) htake)
  |exact bA (m:=Builtin.Tuple.tupleExact _) (wpAny_newObj_type (bA (pO (pO ⟨_,rfl,pO h⟩))) htake)
  |exact bA (bA (m:=Builtin.Tuple.tupleExact _) (wpAny_newObj_type (pO (pO ⟨_,rfl,pO h⟩)) htake))
  |exact bA (bA (m:=Builtin.Tuple.tupleExact _) (wpAny_newObj_type (pO ⟨_,rfl,pO h⟩) htake))
end HT
namespace L2
open PySem PySem.Spec PyProof.Rows
variable{x:V}{T:String}
abbrev TO:=St->Hp->(Option Int->Hp->Prop)->Prop
def PO(X:Cx)(e:Option Expr)(t:TO):Prop :=
 ∀(pins:List (aO×Obj))(s:Shared)(σ:St)(H:Hp)(Q:Option Int->Hp->Prop),Inv X pins σ H s->t σ H Q ->
  wpAny (model X.prog X.w) X.A (evalPart e X.env) (fun u s'=>∃o H',Inv X pins σ H' s'/\IsPart u o/\Q o H') X.xe s
def XO:TO:=fun _ H Q=>Q nO H
def za8(t:TE):TO:=fun σ H Q=>t σ H fun x H1=>∃i,x=.int i/\Q (sO i) H1
section
variable{lo hi:Option Expr}{tl th:TO}
theorem QG:PO X nO XO:=by
 intro pins s σ H Q I h;rw[evalPart_none];exact pO ⟨nO,H,I,.none,h⟩
theorem QH(h:PE X e te):PO X (sO e) (za8 te):=by
 intro pins s σ H Q I hw;rw[evalPart_some];refine thn (h pins s σ H _ I hw) fun u s1 hq_=>?_;obtain⟨x,H1,I1,r1,q1⟩:=hq_;obtain⟨i,rfl,q⟩:=q1;obtain⟨t,rfl⟩:=r1;exact⟨sO i,H1,I1,.int i t,q⟩
def SlR(X:Cx)(r:V->Option Int->Option Int->Hp->VK->Prop):Prop :=
 ∀(pins:List (aO×Obj))(s:Shared)(σ:St)(H:Hp)(x:V)(v vl vu:aA)(lo hi:Option Int)(sl:aO)(Q:VK),Inv X pins σ H s->RelV x v->s.heap.IsSliceOf sl vl vu .none->IsPart vl lo->IsPart vu hi->r x lo hi H Q ->
  ∃T id,typeLookup (.type T) "__getitem__"=pure (sO (.builtin id))/\s.TypeIs v T/\wpAny (model X.prog X.w) X.A (getItem v (.ref sl)) (EP X pins σ Q) X.xe s
def tSl(r:V->Option Int->Option Int->Hp->VK->Prop)(te:TE)(tl th:TO):TE:=fun σ H Q=>te σ H fun x H1=>tl σ H1 fun l H2=>th σ H2 fun u H3=>r x l u H3 Q
theorem Vr(hr:SlR X r)(he:PE X e te)(hl:PO X lo tl)(hu:PO X hi th):PE X (.Subscript e (.Slice lo hi nO p2) pos) (tSl r te tl th):=by
 intro pins s σ H Q I h;refine Subscript_ (thn (he pins s σ H _ I h) fun v s1 hq_=>?_);obtain⟨x,H1,I1,r1,q1⟩:=hq_;refine wpAny_Slice (thn (hl pins s1 σ H1 _ I1 q1) fun vl s2 ⟨l,H2,I2,pl,q2⟩=>thn (hu pins s2 σ H2 _ I2 q2) fun vu s3 hq_=>?_);obtain⟨u,H3,I3,pu,q3⟩:=hq_;rw[evalPart_none];refine pO ?_;have I4:Inv X pins σ H3 { s3 with heap:=s3.heap.push { cls:=.type "slice",data:=.fields #[vl,vu,.none] } }:=I3.kept (t':=s3.toks) fun b ob q=>ue _ q;obtain⟨T,id,hT,ht,hg⟩:=hr pins { s3 with heap:=s3.heap.push { cls:=.type "slice",data:=.fields #[vl,vu,.none] } } σ H3 x v vl vu l u s3.heap.objs.size Q I4 r1 (Heap.IsSliceOf.new ..) pl pu q3;show wpAny (model X.prog X.w) X.A (subscriptTail e (.Slice lo hi nO p2) v (.ref s3.heap.objs.size)) (EP X pins σ Q) X.xe { s3 with heap:=s3.heap.push { cls:=.type "slice",data:=.fields #[vl,vu,.none] } };exact tail_any (ops:=[.ref s3.heap.objs.size,v]) ht hT hg (by with_unfolding_all rfl)
def cutV(xs:List V)(lo hi:Option Int):List V:=(xs.drop (HT.sIx xs.length 0 lo)).take (HT.sIx xs.length xs.length hi-HT.sIx xs.length 0 lo)
theorem vi(xs:List V)(lo hi:Option Int):(cutV xs lo hi).length<=xs.length:=by
 unfold cutV;rw[ut,List.length_drop];lia
def rSlT(K:uc):V->Option Int->Option Int->Hp->VK->Prop:=fun x lo hi H Q=>∃a xs,x=.ref a/\SqT K H a xs /\
 ¬ (HT.sIx xs.length 0 lo=0/\HT.sIx xs.length xs.length hi=xs.length)/\∀p,H p=nO->Q (.ref p) (upd H p (.tup (cutV xs lo hi)))
theorem zcg:SlR X (rSlT X.K):=by
 intro pins s σ H x v vl vu lo hi sl Q I rx hs pl pu h;obtain⟨a,xs,rfl,hx,hw,q⟩:=h;cases rx;obtain⟨its,r,ht,hz⟩:=I.tuple hx;have hlen:its.toArray.size=xs.length:=by rw[uA];exact r.length.symm
 refine⟨"tuple",_,Up.lookup,ht.typeIs,?_⟩;refine HT.getItem_tuple_cut ht hs pl pu (by rw[hlen];exact hw) ?_ (by rw[hlen];exact hz);rw[hlen];refine⟨.ref s.heap.objs.size,_,I.laid (t':=s.toks) (o:=.tup (cutV xs lo hi)) (fun b ob q=>ue _ q) (uj _) ?_,rfl,q _ (I.hok.fresh (uj _))⟩;exact⟨uH (vi xs lo hi) hz,_,(r.drop (HT.sIx xs.length 0 lo)).take (HT.sIx xs.length xs.length hi-HT.sIx xs.length 0 lo),IsTupN.new _ _⟩
def za9(K:uc):R2:=fun x y H Q=>∃a b xs ys,x=.ref a/\y=.ref b/\SqT K H a xs/\SqT K H b ys/\xs≠[]/\xs.length+ys.length<=sizeLine /\
 (ys=[]->Q (.ref a) H)/\(ys≠[]->∀p,H p=nO->Q (.ref p) (upd H p (.tup (xs++ys))))
theorem Vals.nil_iff{us:List aA}(r:Vals xs us):us=[]↔xs=[]:=by
 cases r with
 |nil=>simp
 |cons _ _=>simp
theorem QI:OpR X (binaryOp .Add) (za9 X.K):=by
 intro pins s σ H x y v u Q I rx ry h;obtain⟨a,b,xs,ys,rfl,rfl,ha,hb,hx,hz,q1,q2⟩:=h;cases rx;cases ry;obtain⟨its,r1,p1,_⟩:=I.tuple ha;obtain⟨its2,r2,p2,_⟩:=I.tuple hb;refine HT.cat_tup p1 p2 (fun z=>hx (r1.nil_iff.mp z)) (fun z=>⟨.ref a,H,I,rfl,q1 (r2.nil_iff.mp z)⟩) (fun z=>?_) (by rw[<- r1.length,<- r2.length];exact hz);refine⟨.ref s.heap.objs.size,_,I.laid (t':=s.toks) (o:=.tup (xs++ys)) (fun b ob q=>ue _ q) (uj _) ?_,rfl,q2 (fun w=>z (r2.nil_iff.mpr w)) _ (I.hok.fresh (uj _))⟩;exact⟨by rw[uf];exact hz,_,r1.append r2,IsTupN.new _ _⟩
end
def ixN(n:Nat)(i:Int):Option Nat:=if 0<=i then(if i < n then sO i.toNat else nO)else if -(n:Int)<=i then sO (i+n).toNat else nO
def atI{α:Type}(xs:List α)(i:Int):Option α:=(ixN xs.length i).bind fun j=>xs[j]?
theorem XQ{i:Int}(h:ixN n i=sO j):seqIndex? i n=sO j/\j < n/\-(n:Int)<=i/\i < n:=by
 unfold ixN at h;by_cases h0:0<=i
 ·rw[iP h0]at h
  by_cases h1:i < n
  ·rw[iP h1]at h
   have e:i.toNat=j:=uX.inj h;exact⟨by rw[seqIndex_of h0 h1,e],by lia,by lia,h1⟩
  ·rw[iN h1]at h;cases h
 ·rw[iN h0]at h
  by_cases h1:-(n:Int)<=i
  ·rw[iP h1]at h
   have e:(i+n).toNat=j:=uX.inj h;exact⟨by rw[seqIndex_neg (by lia) h1,e],by lia,h1,by lia⟩
  ·rw[iN h1]at h;cases h
theorem j8{α:Type}{xs:List α}{i:Int}{v:α}(h:atI xs i=sO v):∃j,seqIndex? i xs.length=sO j/\xs[j]?=sO v/\j < xs.length/\-(xs.length:Int)<=i/\i < xs.length:=by
 unfold atI at h;cases e:ixN xs.length i with
 |none=>rw[e]at h;cases h
 |some j =>
  rw[e]at h;obtain⟨h1,h2,h3,h4⟩:=XQ e;exact⟨j,h1,h,h2,h3,h4⟩
theorem yo{α:Type}{xs:List α}{v:α}(h:xs[j]?=sO v):atI xs (j:Int)=sO v:=by
 have hj:j < xs.length:=(ud.mp h).1;have e:ixN xs.length (j:Int)=sO j:=by
  unfold ixN;rw[iP (by lia),iP (by lia)];simp
 unfold atI;rw[e];exact h
theorem aI0{α:Type}{a:α}{r:List α}:atI (a::r) 0=sO a:=yo (j:=0) rfl
theorem aI1{α:Type}{a b:α}{r:List α}:atI (a::b::r) 1=sO b:=yo (j:=1) rfl
theorem aI2{α:Type}{a b c:α}{r:List α}:atI (a::b::c::r) 2=sO c:=yo (j:=2) rfl
theorem aI3{α:Type}{a b c d:α}{r:List α}:atI (a::b::c::d::r) 3=sO d:=yo (j:=3) rfl
theorem vK{α:Type}(xs:List α)(v:α):atI (xs++[v]) (-1)=sO v:=by
 have hl:(xs++[v]).length=xs.length+1:=by simp
 have e:ixN (xs++[v]).length (-1)=sO xs.length:=by
  unfold ixN;rw[hl,iN (by decide),iP (by lia)]
  congr 1
  lia
 unfold atI;rw[e];show(xs++[v])[xs.length]?=sO v;simp
def j9(b:Expr):Prop:=∀o i,subscripted b fO o i=operate [o,i] (getItem o i)
def IxR(X:Cx)(r:R2):Prop :=
 ∀(value slice:Expr)(pins:List (aO×Obj))(s:Shared)(σ:St)(H:Hp)(x y:V)(v u:aA)(Q:VK),Inv X pins σ H s->RelV x v->RelV y u->r x y H Q ->
  subscripted slice fO v u=operate [v,u] (getItem v u)->wpAny (model X.prog X.w) X.A (subscriptTail value slice v u) (EP X pins σ Q) X.xe s
def MtR(X:Cx)(id:String)(r:V->List V->Hp->VK->Prop):Prop :=
 ∀(pins:List (aO×Obj))(s:Shared)(σ:St)(H:Hp)(x:V)(xs:List V)(v:aA)(us:List aA)(Q:VK),Inv X pins σ H s->RelV x v->Vals xs us->r x xs H Q ->
  wpAny (model X.prog X.w) X.A (call (.builtin id) (v::us)) (EP X pins σ Q) X.xe s
section
variable{a b:Expr}
theorem zdD{r:R2}(hr:IxR X r)(ha:PE X a ta)(hb:PE X b tb)(hs:j9 b):PE X (.Subscript a b pos) (tOp r ta tb):=by
 intro pins s σ H Q I h;exact Subscript_ (binT ha hb I h fun v u s2 x y H2 I2 rx ry q=>hr a b pins s2 σ H2 x y v u Q I2 rx ry q (hs _ _))
def rIxL(K:uc):R2:=fun x y H Q=>∃p xs i v,x=.ref p/\y=.int i/\SqL K H p xs/\atI xs i=sO v/\Q v H
def rIxT(K:uc):R2:=fun x y H Q=>∃p xs i v,x=.ref p/\y=.int i/\SqT K H p xs/\atI xs i=sO v/\Q v H
def rIxS:R2:=fun x y H Q=>∃z i c,x=.str z/\y=.int i/\z.length<=sizeLine/\atI z.cps.toList i=sO c/\Q (.str ⟨#[c]⟩) H
theorem QJ:IxR X (rIxL X.K):=by
 intro value slice pins s σ H x y v u Q I rx ry h hs;obtain⟨p,xs,i,z,rfl,rfl,hq,he,q⟩:=h;cases rx;obtain⟨t,rfl⟩:=ry;obtain⟨its,r,pl,hz⟩:=I.list hq;obtain⟨j,h1,h2,h3,h4,h5⟩:=j8 he;obtain⟨w,ew,rw'⟩:=r.get h2;have hl:=r.length;have hn:=vI;have fin:EP X pins σ Q w s:=⟨z,H,I,rw',q⟩;by_cases h0:0<=i
 ·have hj:i.toNat=j:=by
   rw[seqIndex_of h0 h5]at h1;exact uX.inj h1
  exact item_listR pl.isList h0 (by lia) (by rw[hj];simpa using ew) fin hs
 ·have hj:(i+(its.toArray.size:Int)).toNat=j:=by
   rw[seqIndex_neg (by lia) h4]at h1;rw[uA,<- hl];exact uX.inj h1
  exact subscriptTail_builtinR (x:=w) pl.isList.typeIs slot_list_getitem.lookup
   (wpAny_getItem_list_neg (Q:=fun r s'=>r=w/\EP X pins σ Q r s') pl.isList (by lia) (by rw[uA]<;>lia) (by lia) (by rw[hj];simpa using ew) ⟨rfl,fin⟩) hs
theorem zch:IxR X (rIxT X.K):=by
 intro value slice pins s σ H x y v u Q I rx ry h hs;obtain⟨p,xs,i,z,rfl,rfl,hq,he,q⟩:=h;cases rx;obtain⟨t,rfl⟩:=ry;obtain⟨its,r,pl,hz⟩:=I.tuple hq;obtain⟨j,h1,h2,h3,h4,h5⟩:=j8 he;obtain⟨w,ew,rw'⟩:=r.get h2;have hl:=r.length;have hn:=vI;have fin:EP X pins σ Q w s:=⟨z,H,I,rw',q⟩;exact subscriptTail_builtinR (x:=w) pl.typeIs slot_tuple_getitem.lookup
  (getItem_tuple (j:=j) (Q:=fun r s'=>r=w/\EP X pins σ Q r s') pl (by lia) (by lia) (by rw[uA,<- hl];exact h1) (by simpa using ew) ⟨rfl,fin⟩) hs
theorem zci:IxR X rIxS:=by
 intro value slice pins s σ H x y v u Q I rx ry h hs;obtain⟨z,i,c,rfl,rfl,hz,he,q⟩:=h;obtain⟨t,rfl⟩:=rx;obtain⟨t',rfl⟩:=ry;obtain⟨j,h1,h2,h3,h4,h5⟩:=j8 he;have hl:z.cps.toList.length=z.length:=by simp[Str.length]
 rw[hl]at h1 h4 h5;have hn:=vI;exact tail_any (typeIs_str s z t) slot_str_getitem.lookup (getItem_str (c:=c) (by
  have e1:decide (i < -(2 ^ 63:Int))=fO:=eO (by lia);have e2:decide (i ≥ 2 ^ 63)=fO:=eO (by lia);rw[e1,e2,Bool.or_false]) (by rw[h1];simpa using h2) ⟨.str ⟨#[c]⟩,H,I.tok _,⟨_,rfl⟩,q⟩) hs
theorem Y9(its:List aA)(n j:Nat)(u:aA):Obj.mapSeq (·.setIfInBounds j u) { cls:=.type "list",data:=.seq its.toArray n }={ cls:=.type "list",data:=.seq (its.set j u).toArray n }:=by
 simp[Obj.mapSeq]
theorem Inv.lst(I:Inv X pins σ H s)(h:H p=sO (.lst xs)):
  ∃(its:List aA)(n:Nat),Vals xs its/\s.heap.get? p=sO { cls:=.type "list",data:=.seq its.toArray n }/\xs.length<=sizeLine:=by
 obtain⟨z,its,n,r,e⟩:=I.hok p _ h;exact⟨its,n,r,e,z⟩
theorem Inv.lstUpd{ys:List V}{n':Nat}{f:Obj->Obj}(I:Inv X pins σ H s)(h:H p=sO (.lst xs))
  (ho:s.heap.get? p=sO { cls:=.type "list",data:=.seq its.toArray n }) (hf:f { cls:=.type "list",data:=.seq its.toArray n }={ cls:=.type "list",data:=.seq its'.toArray n' }) (r:Vals ys its') (hz:ys.length<=sizeLine) (t:Nat) :
  Inv X pins σ (upd H p (.lst ys)) { s with heap:=s.heap.update p f,toks:=t }:=by
 have e:(s.heap.update p f).get? p=sO { cls:=.type "list",data:=.seq its'.toArray n' }:=by
  rw[UB f ho (by rw[hf]<;>rfl),hf]
 refine I.write (x:=p) (e:=p) (by rw[h];trivial) (.inl rfl) (fun b u hb q=>(Ui _ _ (Ne.symm hb)).trans q) ⟨_,e⟩ ?_;exact⟨hz,its',n',r,e⟩
def zba:V->V->V->Hp->(Hp->Prop)->Prop:=fun o i v H Q=>∃p xs k j,o=.ref p/\i=.int k/\H p=sO (.lst xs)/\ixN xs.length k=sO j/\Q (upd H p (.lst (xs.set j v)))
theorem Vs:PSet X zba:=by
 intro pins s σ H o i v ov iv u Q I ro ri rv h;obtain⟨p,xs,k,j,rfl,rfl,hp,hj,q⟩:=h;cases ro;obtain⟨t,rfl⟩:=ri;obtain⟨its,n,r,ho,hz⟩:=I.lst hp;obtain⟨h1,h2,h3,h4⟩:=XQ hj;have hl:=r.length;have hn:=vI;have I':Inv X pins σ (upd H p (.lst (xs.set j v))) { s with heap:=s.heap.update p (Obj.mapSeq (·.setIfInBounds j u)) } :=
  I.lstUpd hp ho (Y9 its n j u) (r.set rv j) (by rw[List.length_set];exact hz) s.toks
 by_cases h0:0<=k
 ·have hk:k.toNat=j:=by
   rw[seqIndex_of h0 h4]at h1;exact uX.inj h1
  exact PySem.W.ki_setAt ho h0 (by lia) (by rw[uA,<- hl];exact h4) (by rw[hk];exact⟨_,I',q⟩)
 ·have hk:(k+(its.toArray.size:Int)).toNat=j:=by
   rw[seqIndex_neg (by lia) h3]at h1;rw[uA,<- hl];exact uX.inj h1
  exact PySem.W.ki_setBack ho (by lia) (by rw[uA,<- hl];exact h3) (by lia) (by rw[hk];exact⟨_,I',q⟩)
theorem Za(lo hi:Option Int)(n:Nat):(sliceBounds lo hi nO n).1=((HT.sIx n 0 lo:Nat):Int)/\(sliceBounds lo hi nO n).2.1=((HT.sIx n n hi:Nat):Int)/\(sliceBounds lo hi nO n).2.2=1:=by
 refine⟨?_,?_,rfl⟩
 ·cases lo with
  |none=>simp[sliceBounds,HT.sIx]
  |some i =>
   simp only[sliceBounds,HT.sIx,Option.getD_none,show(1:Int) > 0 by decide,if_true]
   by_cases h:i < 0
   ·simp only[h,if_true]<;>lia
   ·simp only[h,if_false]<;>lia
 ·cases hi with
  |none=>simp[sliceBounds,HT.sIx]
  |some i =>
   simp only[sliceBounds,HT.sIx,Option.getD_none,show(1:Int) > 0 by decide,if_true]
   by_cases h:i < 0
   ·simp only[h,if_true]<;>lia
   ·simp only[h,if_false]<;>lia
theorem jo(its:List aA)(lo hi:Option Int):slicePick its.toArray lo hi nO=((its.drop (HT.sIx its.length 0 lo)).take (HT.sIx its.length its.length hi-HT.sIx its.length 0 lo)).toArray:=by
 obtain⟨h1,h2,h3⟩:=Za lo hi its.toArray.size;unfold slicePick;rw[h1,h2,h3];simp only[sliceRange_one,pick_run,uA]<;>rfl
def rSlL(K:uc):V->Option Int->Option Int->Hp->VK->Prop:=fun x lo hi H Q=>∃a xs,x=.ref a/\SqL K H a xs/\∀p,H p=nO->Q (.ref p) (upd H p (.lst (cutV xs lo hi)))
theorem QK:SlR X (rSlL X.K):=by
 intro pins s σ H x v vl vu lo hi sl Q I rx hs pl pu h;obtain⟨a,xs,rfl,hx,q⟩:=h;cases rx;obtain⟨its,r,ht,hz⟩:=I.list hx;have hlen:=r.length;refine⟨"list",_,slot_list_getitem.lookup,ht.isList.typeIs,?_⟩;refine wpAny_getItem_list_slice ht.isList hs pl pu .none (by simp) ?_ (by rw[uA]<;>lia);rw[jo,<- hlen];refine⟨.ref s.heap.objs.size,_,I.laid (t':=s.toks) (o:=.lst (cutV xs lo hi)) (fun b ob q=>ue _ q) (uj _) ?_,rfl,q _ (I.hok.fresh (uj _))⟩;exact⟨uH (vi xs lo hi) hz,_,0,(r.drop (HT.sIx xs.length 0 lo)).take (HT.sIx xs.length xs.length hi-HT.sIx xs.length 0 lo),uu _ rfl⟩
def wj:V->Bool
 |.non=>tV
 |.bl _=>tV
 |.int _=>tV
 |.str _=>tV
 |_=>fO
def eqV:V->V->Bool
 |.non,.non=>tV
 |.bl a,.bl b=>a == b
 |.bl a,.int b=>(if a then 1 else 0) == b
 |.int a,.bl b=>a == (if b then 1 else 0)
 |.int a,.int b=>a == b
 |.str a,.str b=>a == b
 |_,_=>fO
theorem zcj{y:V}(ry:RelV y u)(rx:RelV x v)(fy:wj y=tV)(fx:wj x=tV):SeqAt.EqAt A s u v (eqV y x):=by
 cases y with
 |non =>
  cases ry;cases x with
  |non=>cases rx;exact SeqAt.EqAt.same _
  |bl b=>cases rx;exact SeqAt.EqAt.none_bool b
  |int b=>obtain⟨t,rfl⟩:=rx;exact SeqAt.EqAt.none_int b t
  |str b=>obtain⟨t,rfl⟩:=rx;exact SeqAt.EqAt.none_str b t
  |_=>exact absurd (show fO=tV from fx) uE
 |bl a =>
  cases ry;cases x with
  |non=>cases rx;exact SeqAt.EqAt.bool_none a
  |bl b=>cases rx;exact SeqAt.EqAt.bool_bool a b
  |int b=>obtain⟨t,rfl⟩:=rx;exact SeqAt.EqAt.bool_int a b t
  |str b=>obtain⟨t,rfl⟩:=rx;exact SeqAt.EqAt.bool_str a b t
  |_=>exact absurd (show fO=tV from fx) uE
 |int a =>
  obtain⟨t',rfl⟩:=ry;cases x with
  |non=>cases rx;exact SeqAt.EqAt.int_none a t'
  |bl b=>cases rx;exact SeqAt.EqAt.int_bool a t' b
  |int b=>obtain⟨t,rfl⟩:=rx;exact SeqAt.EqAt.int_int a t' b t
  |str b=>obtain⟨t,rfl⟩:=rx;exact SeqAt.EqAt.int_str a t' b t
  |_=>exact absurd (show fO=tV from fx) uE
 |str a =>
  obtain⟨t',rfl⟩:=ry;cases x with
  |non=>cases rx;exact SeqAt.EqAt.str_none a t'
  |bl b=>cases rx;exact SeqAt.EqAt.str_bool a t' b
  |int b=>obtain⟨t,rfl⟩:=rx;exact SeqAt.EqAt.str_int a t' b t
  |str b=>obtain⟨t,rfl⟩:=rx;exact SeqAt.EqAt.str_str a t' b t
  |_=>exact absurd (show fO=tV from fx) uE
 |_=>exact absurd (show fO=tV from fy) uE
def eqU(x:V)(u:aA):Bool:=match u with
 |.none=>eqV .non x
 |.bool b=>eqV (.bl b) x
 |.int i _=>eqV (.int i) x
 |.str z _=>eqV (.str z) x
 |_=>fO
theorem Vt{y:V}(r:RelV y u)(f:wj y=tV):eqU x u=eqV y x:=by
 cases y with
 |non=>cases r;rfl
 |bl b=>cases r;rfl
 |int i=>obtain⟨t,rfl⟩:=r;rfl
 |str z=>obtain⟨t,rfl⟩:=r;rfl
 |_=>exact absurd (show fO=tV from f) uE
theorem wo{x:V}:∀{xs:List V}{us:List aA},Vals xs us->xs.all wj=tV->us.any (eqU x)=xs.any fun y=>eqV y x
 |_,_,.nil,_=>rfl
 |y::xs,u::us,.cons r t,f=>by
  rw[List.all_cons,uS]at f;rw[List.any_cons,List.any_cons,Vt r f.1,wo t f.2]
theorem xC{A:Around}{s:Shared}{x:V}{v:aA}(rx:RelV x v)(fx:wj x=tV):∀{xs:List V}{us:List aA},Vals xs us->xs.all wj=tV->∀u∈us,SeqAt.EqAt A s u v (eqU x u)
 |_,_,.nil,_=>fun u hu=>by cases hu
 |y::xs,u::us,.cons r t,f=>fun u' hu=>by
  rw[List.all_cons,uS]at f;rcases uy.mp hu with rfl|hu
  ·rw[Vt r f.1];exact zcj r rx f.1 fx
  ·exact xC rx fx t f.2 u' hu
def inV(x:V)(xs:List V):Bool:=xs.any fun y=>eqV y x
def rIn(K:uc)(neg:Bool):R2:=fun x y H Q=>∃p xs,y=.ref p/\(SqL K H p xs\/SqT K H p xs)/\wj x=tV/\xs.all wj=tV/\Q (.bl (if neg then !inV x xs else inV x xs)) H
theorem Wv:OpR X (compareOp .In) (rIn X.K fO):=by
 intro pins s σ H x y v u Q I rx ry h;obtain⟨p,xs,rfl,hq,fx,fs,q⟩:=h;cases ry;rcases hq with hq|hq
 ·obtain⟨its,r,pl,hz⟩:=I.list hq
  refine SeqAt.in_listAt (eqU x) pl.isList (fun w hw=>xC rx fx r fs w (by simpa using hw)) ⟨.bl _,H,I,rfl,?_⟩;rw[show its.toArray.any (eqU x)=its.any (eqU x) by simp,wo r fs];exact q
 ·obtain⟨its,r,pl,hz⟩:=I.tuple hq
  refine SeqAt.in_tupleAt (eqU x) pl (fun w hw=>xC rx fx r fs w (by simpa using hw)) ⟨.bl _,H,I,rfl,?_⟩;rw[show its.toArray.any (eqU x)=its.any (eqU x) by simp,wo r fs];exact q
theorem Zb:OpR X (compareOp .NotIn) (rIn X.K tV):=by
 intro pins s σ H x y v u Q I rx ry h;obtain⟨p,xs,rfl,hq,fx,fs,q⟩:=h;cases ry;rcases hq with hq|hq
 ·obtain⟨its,r,pl,hz⟩:=I.list hq
  refine SeqAt.notIn_listAt (eqU x) pl.isList (fun w hw=>xC rx fx r fs w (by simpa using hw)) ⟨.bl _,H,I,rfl,?_⟩;rw[show its.toArray.any (eqU x)=its.any (eqU x) by simp,wo r fs];exact q
 ·obtain⟨its,r,pl,hz⟩:=I.tuple hq
  refine SeqAt.notIn_tupleAt (eqU x) pl (fun w hw=>xC rx fx r fs w (by simpa using hw)) ⟨.bl _,H,I,rfl,?_⟩;rw[show its.toArray.any (eqU x)=its.any (eqU x) by simp,wo r fs];exact q
theorem Zc:xB X (.builtin "len") (fun xs H Q=>∃p ys,xs=[.ref p]/\(SqL X.K H p ys\/SqT X.K H p ys)/\Q (.int ys.length) H):=by
 intro pins s σ H xs us Q I r h;obtain⟨p,ys,rfl,hq,q⟩:=h;obtain⟨u,rfl,rx⟩:=jt r;cases rx;have hn:=vI;rcases hq with hq|hq
 ·obtain⟨its,r',pl,hz⟩:=I.list hq
  have hlen:=r'.length;exact Calls.call_len_list pl.isList (by simp only[uA]<;>lia) ⟨.int ys.length,H,I.tok _,⟨s.toks+1,by rw[uA,hlen]⟩,q⟩
 ·obtain⟨its,r',pl,hz⟩:=I.tuple hq
  have hlen:=r'.length;exact len_tuple pl (by simp only[uA]<;>lia) ⟨.int ys.length,H,I.tok _,⟨s.toks+1,by rw[uA,hlen]⟩,q⟩
theorem Zd:xB X (.type "list") (fun xs H Q=>∃p ys,xs=[.ref p]/\(SqL X.K H p ys\/SqT X.K H p ys)/\∀l,H l=nO->Q (.ref l) (upd H l (.lst ys))):=by
 intro pins s σ H xs us Q I r h;obtain⟨p,ys,rfl,hq,q⟩:=h;obtain⟨u,rfl,rx⟩:=jt r;cases rx;have fin:∀(its:List aA),Vals ys its->ys.length<=sizeLine->∀(h':Heap)(c':Nat),(∀b o',s.heap.get? b=sO o'->h'.get? b=sO o') ->
   h'.get? s.heap.objs.size=sO { cls:=.type "list",dict:=nO,data:=.seq its.toArray c',slots:=#[] }->EP X pins σ Q (.ref s.heap.objs.size) { s with heap:=h' }:=fun its r' hz h' c' kp e =>
  ⟨.ref s.heap.objs.size,_,I.laid (t':=s.toks) kp (uj _) (show ObjOk X.prog X.w _ h' _ (.lst ys)from⟨hz,its,c',r',e⟩),rfl,q _ (I.hok.fresh (uj _))⟩
 rcases hq with hq|hq
 ·obtain⟨its,r',pl,hz⟩:=I.list hq
  have hlen:=r'.length;obtain⟨o,ho,hc,n,hd⟩:=pl.isList;exact call_list_seq p (.inl rfl) ho hc hd (fun h' c' kp e=>fin its r' hz h' c' kp e) (by simp only[uA]<;>lia)
 ·obtain⟨its,r',pl,hz⟩:=I.tuple hq
  have hlen:=r'.length;obtain⟨o,ho,hc,n,hd⟩:=pl;exact call_list_seq p (.inr rfl) ho hc hd (fun h' c' kp e=>fin its r' hz h' c' kp e) (by simp only[uA]<;>lia)
theorem jp:xB X (.type "tuple") (fun xs H Q=>∃p ys,xs=[.ref p]/\((SqL X.K H p ys/\∀l,H l=nO->Q (.ref l) (upd H l (.tup ys)))\/(SqT X.K H p ys/\Q (.ref p) H))):=by
 intro pins s σ H xs us Q I r h;obtain⟨p,ys,rfl,h⟩:=h;obtain⟨u,rfl,rx⟩:=jt r;cases rx;rcases h with⟨hq,q⟩|⟨hq,q⟩
 ·obtain⟨its,r',pl,hz⟩:=I.list hq
  have hlen:=r'.length;refine call_tuple_list pl.isList (fun h' kp=>?_) (by simp only[uA]<;>lia);have I1:Inv X pins σ H { s with heap:=h' }:=I.kept (t':=s.toks) kp;have I2:Inv X pins σ (upd H h'.objs.size (.tup ys)) { s with heap:=h'.push { cls:=.type "tuple",data:=.seq its.toArray } } :=
   I1.laid (t':=s.toks) (fun b o e=>ue _ e) (uj _) (show ObjOk X.prog X.w _ _ _ (.tup ys)from⟨hz,its,r',IsTupN.new _ _⟩)
  exact⟨.ref h'.objs.size,_,I2,rfl,q _ (I1.hok.fresh (uj _))⟩
 ·obtain⟨its,r',pl,hz⟩:=I.tuple hq
  exact call_tuple_same pl ⟨.ref p,H,I,rfl,q⟩
def tyV(K:uc)(T:String)(x:V)(H:Hp):Prop:=match x with
 |.str _=>T="str"
 |.int _=>T="int"
 |.ref p=>(T="list"/\∃xs,SqL K H p xs)\/(T="tuple"/\((∃o,K.lookup p=sO o/\o.cls=.type "tuple"/\o.dict=nO)\/∃xs,H p=sO (.tup xs))) \/
   (T="dict"/\((∃kvs,H p=sO (.dK kvs))\/∃kvs,H p=sO (.dT kvs)))\/(T="set"/\∃S n,H p=sO (.set S n))
 |_=>False
theorem Vu(I:Inv X pins σ H s)(r:RelV x v)(ty:tyV X.K T x H):
  s.TypeIs v T/\∀a,v=.ref a->∃ob,s.heap.get? a=sO ob/\ob.dict=nO:=by
 cases x with
 |str z =>
  obtain⟨t,rfl⟩:=r;cases(show T="str"from ty);exact⟨typeIs_str s z t,fun _ e=>nomatch e⟩
 |int i =>
  obtain⟨t,rfl⟩:=r;cases(show T="int"from ty);exact⟨typeIs_int s i t,fun _ e=>nomatch e⟩
 |ref p =>
  cases r;rcases ty with⟨rfl,xs,hq⟩|⟨rfl,⟨o,hk,hc,hd⟩|⟨xs,hk⟩⟩|⟨rfl,hk⟩|⟨rfl,S,n,hk⟩
  ·obtain⟨its,_,pl,_⟩:=I.list hq
   refine⟨pl.isList.typeIs,fun a e=>?_⟩;cases e;obtain⟨o,n,e,c,hd,_⟩:=pl;exact⟨o,e,hd⟩
  ·refine⟨⟨o,I.kIn p o hk,hc⟩,fun a e=>?_⟩
   cases e;exact⟨o,I.kIn _ o hk,hd⟩
  ·obtain⟨_,_,_,o,ho,hc,hd,_⟩:=I.hok p _ hk
   refine⟨⟨o,ho,hc⟩,fun a e=>?_⟩;cases e;exact⟨o,ho,hd⟩
  ·have z:∃o,s.heap.get? p=sO o/\o.ExactDict:=by
    rcases hk with⟨kvs,hk⟩|⟨kvs,hk⟩
    ·obtain⟨_,_,_,_,o,_,_,e,ex,_⟩:=I.hok p _ hk
     exact⟨o,e,ex⟩
    ·obtain⟨_,_,_,_,o,_,_,e,ex,_⟩:=I.hok p _ hk
     exact⟨o,e,ex⟩
   obtain⟨o,e,ex⟩:=z;refine⟨⟨o,e,ex.1⟩,fun a e2=>?_⟩;cases e2;exact⟨o,e,ex.2.1⟩
  ·obtain⟨o,_,_,_,e,ex,_⟩:=I.hok p _ hk
   refine⟨⟨o,e,ex.1⟩,fun a e2=>?_⟩;cases e2;exact⟨o,e,ex.2.1⟩
 |_=>exact False.elim ty
def tBM0(K:uc)(T:String)(r:V->List V->Hp->VK->Prop)(to:TE):TE:=fun σ H Q=>to σ H fun x H1=>tyV K T x H1/\r x [] H1 Q
def tBM(K:uc)(T:String)(r:V->List V->Hp->VK->Prop)(to:TE)(t:TA):TE:=fun σ H Q=>to σ H fun x H1=>tyV K T x H1/\t σ H1 fun xs H2=>r x xs H2 Q
variable{t:TA}{r:V->List V->Hp->VK->Prop}
theorem zck(pa:PlainAttrs T)(slot:Slot T name id)(hty:typeOf (.builtin id)=pure (.type "method_descriptor"))(hm:MtR X id r)(ho:PE X o to)
  (hbase:attributeBase o name X.env (eval o X.env)=eval o X.env:=by rfl) (hline:(apos.endLine == cpos.line)=tV:=by rfl):PE X (.Call (.Attribute o name apos) [] [] cpos) (tBM0 X.K T r to):=by
 intro pins s σ H Q I h;refine wpAny_Call_method0_late hbase hline (thn (ho pins s σ H _ I h) fun v s1 hq_=>?_);obtain⟨x,H1,I1,r1,ty,q1⟩:=hq_;obtain⟨h1,h2⟩:=Vu I1 r1 ty;exact⟨T,id,pa,slot,hty,h1,h2,Calls.callWith_builtin rfl (PySem.evalArgs_none (hm pins s1 σ H1 x [] v [] Q I1 r1 .nil q1))⟩
theorem zdE(pa:PlainAttrs T)(slot:Slot T name id)(hty:typeOf (.builtin id)=pure (.type "method_descriptor"))(hm:MtR X id r)(ho:PE X o to)(ha:PA X (e::es) t)
  (hbase:attributeBase o name X.env (eval o X.env)=eval o X.env:=by rfl)
  (hfew:((backTo cpos (starEach (e::es) X.env)).all (fun x=>!x.1) && (backToKw cpos (keywordEach [] X.env)).all (fun x=>x.1.isSome)
   && decide ((e::es).length+([]:List Keyword).length+(if([]:List Keyword).isEmpty then 0 else 1) < 30))=tV:=by rfl)
  (hline:(apos.endLine == cpos.line)=tV:=by rfl) (hs:starEach (e::es) X.env=(fO,eval e X.env)::starEach es X.env:=by rfl) (hplain:(backTo cpos (starEach es X.env)).any (·.1)=fO:=by rfl) :
  PE X (.Call (.Attribute o name apos) (e::es) [] cpos) (tBM X.K T r to t):=by
 intro pins s σ H Q I h;refine wpAny_Call_method_late hbase hfew hline rfl (thn (ho pins s σ H _ I h) fun v s1 hq_=>?_);obtain⟨x,H1,I1,r1,ty,q1⟩:=hq_;obtain⟨h1,h2⟩:=Vu I1 r1 ty;refine⟨T,id,pa,slot,hty,h1,h2,?_⟩;have hA:=ha cpos pins s1 σ H1 _ I1 q1;rw[hs]at hA ⊢;refine Calls.callWith_builtin (by show(fO || (backTo cpos (starEach es X.env)).any (·.1))=fO;rw[hplain]<;>rfl) (Calls.evalArgs_plain ?_);exact thn hA fun us s2 ⟨vs,H2,I2,r2,q2⟩=>hm pins s2 σ H2 x vs v us Q I2 r1 r2 q2
end
def MtM(X:Cx)(id:String)(r:V->List V->Hp->VK->Prop):Prop :=
 ∀(pins:List (aO×Obj))(s:Shared)(σ:St)(H:Hp)(x:V)(xs:List V)(v:aA)(us:List aA)(Q:VK),Inv X pins σ H s->RelV x v->Vals xs us->r x xs H Q ->
  wpAny (model X.prog X.w) X.A (call (.builtin id) (v::us)) (EP X pins σ Q) X.xe s
theorem Vals.one:∀{x:V}{us:List aA},Vals [x] us->∃u,us=[u]/\RelV x u
 |_,_,.cons r .nil=>⟨_,rfl,r⟩
theorem Vals.zero:∀{us:List aA},Vals [] us->us=[]
 |_,.nil=>rfl
theorem Vals.dropLast{us:List aA}(h:Vals xs us):Vals xs.dropLast us.dropLast:=by
 induction h with
 |nil=>exact .nil
 |cons r t ih =>
  cases t with
  |nil=>exact .nil
  |cons q t'=>exact .cons r ih
theorem Vals.reverse{us:List aA}(h:Vals xs us):Vals xs.reverse us.reverse:=by
 induction h with
 |nil=>exact .nil
 |cons r t ih=>rw[tj,tj];exact Vals.append ih (.cons r .nil)
theorem Vals.rep{xs:List V}{us:List aA}(h:Vals xs us):∀k:Nat,Vals (uQ k xs).flatten (uQ k us).flatten
 |0=>.nil
 |k+1=>by
  rw[UH,UH,tm,tm];exact Vals.append h (Vals.rep h k)
theorem Xa{α:Type}(l:List α):l.eraseIdx (l.length-1)=l.dropLast:=by
 induction l with
 |nil=>rfl
 |cons a r ih =>
  cases r with
  |nil=>rfl
  |cons b r =>
   have e:(a::b::r).length-1=((b::r).length-1)+1:=by
    have h1:(a::b::r).length=r.length+2:=rfl;have h2:(b::r).length=r.length+1:=rfl;lia
   rw[e,List.eraseIdx_cons_succ,ih]
   all_goals rfl
theorem jB(its:List aA):∀(k:Nat)(acc:List aA),
  List.foldl (fun x1 x2=>x1++x2) acc.toArray (uQ k its.toArray)=(acc++(uQ k its).flatten).toArray
 |0,acc=>by simp
 |k+1,acc=>by
  have e:acc.toArray++its.toArray=(acc++its).toArray:=by simp
  have e2:(acc++its)++(uQ k its).flatten=acc++(uQ (k+1) its).flatten:=by
   rw[UH,tm,UC]
  rw[<- e2,<- jB its k (acc++its),<- e,UH,UJ]
section
variable{l:aO}{ys zs:List V}
theorem Inv.lset{f:Array aA->Array aA}(I:Inv X pins σ H s)(hH:H l=sO (.lst xs))
  (e:s.heap.get? l=sO { cls:=.type "list",data:=.seq its.toArray n }) (hf:f its.toArray=its'.toArray) (hv:Vals ys its') (hz:ys.length<=sizeLine) :
  Inv X pins σ (upd H l (.lst ys)) { s with heap:=s.heap.update l (Obj.mapSeq f),toks:=t' }:=by
 have q:=PySem.IsL.update e f;rw[hf]at q;refine I.write (x:=l) (e:=l) (by rw[hH];exact trivial) (.inl rfl) (fun b' u hb hu=>(Ui s.heap (Obj.mapSeq f) (Ne.symm hb)).trans hu) ⟨_,q⟩ ?_;exact⟨hz,its',_,hv,q⟩
theorem Inv.lnew(I:Inv X pins σ H s)(hv:Vals ys its)(hz:ys.length<=sizeLine):
  Inv X pins σ (upd H s.heap.objs.size (.lst ys)) { s with heap:=s.heap.push { cls:=.type "list",data:=.seq its.toArray },toks:=t' } :=
 I.laid (fun _ _ q=>ue _ q) (uj _) ⟨hz,its,0,hv,uu _ rfl⟩
theorem Inv.fresh(I:Inv X pins σ H s):H s.heap.objs.size=nO:=I.hok.fresh (uj _)
theorem Inv.lstM(I:Inv X pins σ H s)(hH:H l=sO (.lst xs)):xs.length<=sizeLine/\∃(its:List aA)(n:Nat),Vals xs its/\xs.length=its.length/\s.heap.get? l=sO { cls:=.type "list",data:=.seq its.toArray n }:=by
 obtain⟨z,its,n,r,e⟩:=I.hok l _ hH;exact⟨z,its,n,r,r.length,e⟩
theorem Vv(h:n<=sizeLine):Builtin.List.listTooLong n=fO:=by
 unfold Builtin.List.listTooLong;exact eO (by lia)
end
def Ze:V->List V->Hp->VK->Prop:=fun x vs H Q=>∃l xs y,x=.ref l/\vs=[y]/\H l=sO (.lst xs)/\xs.length < sizeLine/\Q .non (upd H l (.lst (xs++[y])))
theorem Ww:MtM X "list.append" Ze:=by
 intro pins s σ H x vs v us Q I rx rv h;obtain⟨l,xs,y,rfl,rfl,hH,hz,q⟩:=h;cases rx;obtain⟨u,rfl,ru⟩:=rv.one;obtain⟨z,its,n,r,hl,e⟩:=I.lstM hH;refine call_meets F.slot_list_append ⟨_,e,rfl⟩ F.entry_list_append (F.args_list_append_2 _ _) (PySem.list_append l its.toArray n u (by rw[uA];lia)) ⟨e,?_⟩;refine⟨.non,_,I.lset (its':=its++[u]) hH e (by simp) (r.append (.cons ru .nil)) ?_,rfl,q⟩;rw[uf,uY];lia
def rPop:V->List V->Hp->VK->Prop:=fun x vs H Q=>∃l xs y,x=.ref l/\vs=[]/\H l=sO (.lst xs)/\xs[xs.length-1]?=sO y/\Q y (upd H l (.lst xs.dropLast))
theorem zcl:MtM X "list.pop" rPop:=by
 intro pins s σ H x vs v us Q I rx rv h;obtain⟨l,xs,y,rfl,rfl,hH,hy,q⟩:=h;cases rx;have hus:=rv.zero;subst hus;obtain⟨z,its,n,r,hl,e⟩:=I.lstM hH;obtain⟨u,hu,ru⟩:=r.get hy;have hy':its.toArray[its.toArray.size-1]?=sO u:=by
  show its.toArray[its.length-1]?=sO u;rw[<- Array.getElem?_toList,<- hl];exact hu
 refine call_meets F.slot_list_pop ⟨_,e,rfl⟩ F.entry_list_pop (F.args_list_pop_1 _) (MeetsSeq.list_pop_last l its.toArray n u hy' (by rw[uA];lia)) ⟨e,?_⟩;refine⟨y,_,I.lset (its':=its.dropLast) hH e ?_ r.dropLast ?_,ru,q⟩
 ·show its.toArray.eraseIdxIfInBounds (its.toArray.size-1)=its.dropLast.toArray
  rw[uA,List.eraseIdxIfInBounds_toArray,Xa]
 ·rw[List.length_dropLast]
  lia
def Z4:V->List V->Hp->VK->Prop:=fun x vs H Q=>∃l xs,x=.ref l/\vs=[]/\H l=sO (.lst xs)/\Q .non (upd H l (.lst xs.reverse))
theorem Xb:MtM X "list.reverse" Z4:=by
 intro pins s σ H x vs v us Q I rx rv h;obtain⟨l,xs,rfl,rfl,hH,q⟩:=h;cases rx;have hus:=rv.zero;subst hus;obtain⟨z,its,n,r,hl,e⟩:=I.lstM hH;refine call_meets F.slot_list_reverse ⟨_,e,rfl⟩ F.entry_list_reverse (F.args_list_reverse_1 _) (AutoSeq1.list_reverse_list_0 l its.toArray n (by rw[uA];lia)) ⟨e,?_⟩;refine⟨.non,_,I.lset (its':=its.reverse) hH e (by simp) r.reverse ?_,rfl,q⟩;rw[UA];lia
def rCat:R2:=fun x y H Q=>∃l b xs zs,x=.ref l/\y=.ref b/\H l=sO (.lst xs)/\H b=sO (.lst zs)/\xs.length+zs.length<=sizeLine/\∀p,H p=nO->Q (.ref p) (upd H p (.lst (xs++zs)))
theorem zcm:OpR X (binaryOp .Add) rCat:=by
 intro pins s σ H x y v u Q I rx ry h;obtain⟨l,b,xs,zs,rfl,rfl,hH,hB,hz,q⟩:=h;cases rx;cases ry;obtain⟨z,its,n,r,hl,e⟩:=I.lstM hH;obtain⟨z2,its2,n2,r2,hl2,e2⟩:=I.lstM hB;refine PySem.P.add_list e e2 ?_ (by rw[uA,uA];lia);have ea:its.toArray++its2.toArray=(its++its2).toArray:=by simp
 rw[ea];exact⟨.ref _,_,I.lnew (t':=s.toks) (r.append r2) (by rw[uf];lia),rfl,q _ I.fresh⟩
def rRep:R2:=fun x y H Q=>∃l k xs,x=.ref l/\y=.int k/\H l=sO (.lst xs)/\-(2 ^ 63)<=k/\k < 2 ^ 63/\xs.length*k.toNat<=sizeLine /\
 ∀p,H p=nO->Q (.ref p) (upd H p (.lst (uQ k.toNat xs).flatten))
theorem QL{α:Type}(xs:List α)(k:Nat):(uQ k xs).flatten.length=k*xs.length:=by
 induction k with
 |zero=>simp
 |succ k ih=>rw[UH,tm,uf,ih,Nat.succ_mul,Nat.add_comm]
theorem zcn:OpR X (binaryOp .Mult) rRep:=by
 intro pins s σ H x y v u Q I rx ry h;obtain⟨l,k,xs,rfl,rfl,hH,h1,h2,hz,q⟩:=h;cases rx;obtain⟨t,rfl⟩:=ry;obtain⟨z,its,n,r,hl,e⟩:=I.lstM hH;have hlen:its.toArray.size*k.toNat<=sizeLine:=by rw[uA,<- hl];exact hz
 have hcap:¬ its.toArray.size*k.toNat > (2 ^ 63-1) / 8:=by
  have:(sizeLine:Nat)<=(2 ^ 63-1) / 8:=by decide
  lia
 have hfit:¬ (!Builtin.List.listFitsIndex k)=tV:=by
  rw[fitsIndex_both h1 h2];exact uE
 have hlong:¬ Builtin.List.listTooLong (its.toArray.size*k.toNat)=tV:=by
  rw[Vv hlen];exact uE
 have hnew:List.foldl (fun x1 x2=>x1++x2) #[] (uQ (if its.toArray.isEmpty=tV then 0 else k.toNat) its.toArray)=(uQ k.toNat its).flatten.toArray:=by
  have f0:∀m:Nat,List.foldl (fun x1 x2=>x1++x2) #[] (uQ m its.toArray)=(uQ m its).flatten.toArray:=fun m=>by
   have:=jB its m []
   rw[List.nil_append]at this;exact this
  rw[f0];cases its with
  |nil=>simp
  |cons a r'=>rw[iN (by simp)]
 refine wpAny_binaryOp_repeat_ref (T:="list") (U:="int") (by decide) ⟨_,e,rfl⟩ (fun s'=>typeIs_int s' k t) noFill_list_mul F.fills_int_mul F.slot_int_rmul repeat_list F.slot_int_index.lookup
  (call_meets F.slot_int_rmul (typeIs_int s k t) F.entry_int_rmul (F.args_int_rmul_2 _ _) (int___rmul___int_list k t l its.toArray n)
   ⟨e,rfl,⟨_,e,rfl⟩,call_meets F.slot_list_mul ⟨_,e,rfl⟩ F.entry_list_mul (F.args_list_mul_2 _ _) (AutoListH.list___mul___list_int_3 l its.toArray n k t hfit hcap hlong) ⟨e,?_⟩⟩)
 rw[hnew];exact⟨.ref _,_,I.lnew (t':=s.toks) (r.rep k.toNat) (by rw[QL,Nat.mul_comm];exact hz),rfl,q _ I.fresh⟩
end L2
namespace Att
open PySem PySem.W PySem.Calls PyProof.Rows
variable{P:Params}
theorem vp:∀(ns:List Int)(vs:List aA),WellAll P h vs (ns.map WData.int)->IntsAre vs ns:=by
 intro ns
 induction ns with
 |nil =>
  intro vs w;rw[tG]at w;cases w;exact .nil
 |cons n ns ih =>
  intro vs w;rw[uF]at w;cases w with
  |cons a b =>
   cases a;exact .cons _ _ (ih _ b)
theorem Wx{l:OpenLaw}(hn:l.most=sO n){args:List WData}{vals:List aA}
  (hpre:l.row.toRowW.claim.pre args=tV) (hwl:WellAll P h vals args) :
  ∃a vs ns,vals=[Value.ref a]/\args=[WData.list (ns.map WData.int)]/\h.get? a=sO { cls:=.type "list",data:=.seq vs.toArray }/\IntsAre vs ns/\ns.length<=n:=by
 have hsh:WShape.hasAll [] args [.list .int]=tV:=(pre_splitW hpre).1;have hc:l.pre.holds [] { args:=args }=tV:=(pre_splitW hpre).2;obtain⟨d,r,rfl,h1,h2⟩:=hasAllW_cons hsh;obtain rfl:=hasAllW_nil h2;obtain⟨xs,rfl,h3⟩:=hasW_list h1;obtain⟨ns,rfl⟩:=items_int h3;have hlen:ns.length<=n:=by
  unfold OpenLaw.pre at hc;have h4:(WTm.not (.lt (.lit (.int (n:Int))) (.len (.arg 0)))).holds [] { args:=[.list (ns.map .int)] }=tV:=by
   have h4:=(holds_andW hc).1;rw[hn]at h4;exact h4
  have h5:=condW_of h4 (w_not (w_lt w_lit (w_len_list (w_arg rfl))));rw[ub]at h5;refine Nat.le_of_not_lt fun q=>?_;have q':(n:Int) < ((ns.length:Nat):Int):=by lia
  first
   | (rw[decide_eq_true q']at h5;exact absurd h5 (by decide))
   | (simp at h5;lia)
 cases hwl with
 |cons w1 w2 =>
  cases w2;cases w1 with
  |list ho hall=>exact⟨_,_,ns,rfl,rfl,ho,vp ns _ hall,hlen⟩
theorem Wz(l:OpenLaw)(args:List WData):l.row.toRowW.claim.post args (.bool tV) args=tV :=
 postW_of (r:=l.row.toRowW) (X:=(tV == tV))
  (show WShape.has [] (.bool tV) .bool=tV by first|rfl|decide|simp[WShape.has,WShape.arms,WShape.armsAll])
  (show(WTm.eq .res (.lit (.bool tV))).value [] { args:=args,res:=sO (.bool tV),after:=args }=sO (.bool (tV == tV))from w_eq_bool (w_res rfl) w_lit) rfl
theorem attach_call{l:OpenLaw}{q:Program}{loose:lS}{YP:World->Heap->Prop}{d:DefRec}
  (hn:l.most=sO n) (hdf:d.params.defaults=[])
  (call:∀(w:World)(s₀ s₁:Shared)(mg mb:Str->Option aA)(fa:aO)(o:Obj)(pm cd doc:aA)(a:aO)(vs:List aA)(ns:List Int),
   Ground q loose [] XP w s₀ mg mb s₁.heap->YP w s₁.heap ->
   s₁.heap.get? fa=sO o->o.data=.func (docDef d.name d.params d.body d.scope pm cd doc)->s₁.heap.CodeRec cd d.name->mg d.name=sO (.ref fa) ->
   s₁.heap.get? a=sO { cls:=.type "list",data:=.seq vs.toArray }->IntsAre vs ns->ns.length<=n->s₁.gens=#[] ->
   codeAny (model l.prog w) callerA (.call (.ref fa) ⟨[.ref a],[]⟩) (fun r s'=>r=.ok (.ret (.bool tV))/\OldK s₁.heap s'.heap/\s'.os=s₁.os/\AllBare s'.gens) s₁) :
  WalkO q loose XP YP l.row.toRowW d [] (fun f vs=>PySem.call f vs):=by
 intro w s₀ s₁ mg mb G Y fa o pm cd doc dV kV ho hd hcd hD hmg hg args vals as hpre hlay hrd hwl hlo;obtain rfl:dV=.none:=Dflts.none hD hdf;obtain rfl:kV=.none:=Dflts.noKw hD;obtain⟨a,vs,ns,rfl,rfl,hobj,hints,hlen⟩:=Wx hn hpre hwl;refine enter_call (codeAny_mono (call w s₀ s₁ mg mb fa o pm cd doc a vs ns G Y ho (fd_plain hd) hcd hmg hobj hints hlen hg) fun r s' hq=>?_);obtain⟨rfl,h2,h3,h4⟩:=hq;exact⟨.inl ⟨.bool tV,.bool tV,[],rfl,fun _=>rfl,.bool tV,Wz l _,fun _=>⟨List.Pairwise.nil,fun _ hm=>(nomatch hm)⟩⟩,h2,h3,h4⟩
section
variable{K:Frag}
def zdY(h:Heap)(L d:aO):List (aO×Obj):=(uM h.objs.size).filterMap fun a=>if a=L\/a=d then nO else(h.get? a).map fun o=>(a,o)
end
end Att
namespace L2
open PySem PySem.Spec PyProof.Rows
theorem jC:∀{vs:List aA}{ns:List Int},IntsAre vs ns->Vals (ns.map V.int) vs
 |_,_,.nil=>.nil
 |_,_,.cons n t h=>.cons ⟨t,rfl⟩ (jC h)
end L2
/- THE LAST THEOREM (shape; LID, My.* are yours):
   My.Adr: a structure of the addresses that your layer names (classes,functions);My.Txt K t: a structure (Prop) of the equations over K;
   My.txt_mk:{K} {implicit addresses ..} (e1:nsIn K mainGlobals "law"=sO (sO (.ref f))) (e2:K.lookup f=sO ⟨oc,od,.func (fnOf "law" "law" params body scope dV kV doc pm an cdv ct),sl⟩) (e3:codeIn K cdv "law"=tV) ..:∃t,My.Txt K t
set_option maxRecDepth 100000 in
set_option maxHeartbeats 0 in
theorem PySem.Challenge.cw_LID_holds : PySem.Challenge.rw_LID.Holds := by
 w_on;o_law;k_head;(case hw=>w_witness2)
 k_fill
 refine L2.walk_of (l:=PySem.Challenge.rw_LID) (n:=63) (k:=40) (x:="script") (CX:=fun w=>..) (sp:=fun _=>My.sp_law) rfl (by decide) rfl ⟨rfl,by decide,by decide⟩ (fun w h Y=>PySem.W.kIn_of Y) ?F ?S ?C
 case F =>
  intro w mg fa h KX G hmg;have T:∃t,My.Txt (L2.KOf KX) t:=by
   dsimp only [L2.KOf]                          -- K must stand as «<heap const> w.params» for k_is
   refine' My.txt_mk ?e1 ?e2 ?e3 ..
   (case e1 => PySem.W.k_is)                    -- in the order: a name -> its address -> its object -> its parts
   (case e2=>PySem.W.k_is)
   ..
  obtain⟨t,T⟩:=T;have e0:=hmg.symm.trans (U7 KX G T.law);cases e0                                       -- fa is the law's own address;exact ⟨_, fun s u => .of_eq rfl, fun base kb nb => My.law_fn T kb nb⟩     -- if «.of_eq rfl» comes too early: refine' ⟨_, ?b, fun base kb nb => My.law_fn T kb nb⟩; exact fun s u => .of_eq rfl
 case S=>exact fun w H a ns hl hO hS=>..
 case C=>exact ..
(the tactic k_is has no namespace: write k_is) -/
namespace L2
open PySem PySem.Spec PyProof.Rows
def xO(s:Stmt)(j:Nat):Stmt:=match s with
 |.ClassDef _ _ _ body _ _ _ _ _ _ _=>body.getD j (.Pass ⟨0,0,0,0⟩)
 |_=>.Pass ⟨0,0,0,0⟩
def yf(s:Stmt):Arguments:=match s with
 |.FunctionDef _ a _ _ _ _ _ _ _ _=>a
 |_=>{ posonlyargs:=[],args:=[],vararg:=nO,kwonlyargs:=[],kw_defaults:=[],kwarg:=nO,defaults:=[] }
def zO(s:Stmt):List Stmt:=match s with
 |.FunctionDef _ _ b _ _ _ _ _ _ _=>b
 |_=>[]
def zt(s:Stmt):Scope:=match s with
 |.FunctionDef _ _ _ _ _ _ sc _ _ _=>sc
 |_=>{ kind:=.function,names:=[],isGenerator:=fO,isCoroutine:=fO }
abbrev CX0:CXT:=fun _ _ _ _ _ _=>False
abbrev E0:XK:=fun _ _ _=>False
theorem yI:yS CX0 X E0:=fun _ _ _ _ _ _ _ h=>h.elim
structure Fun(K:uc)(x qual:Str)(st:Stmt)(f:aO)(fd:FuncData):Prop where
 ex:∃(oc:aA)(od:Option aO)(kV doc pm:aA)(an:Option aO)(cdv ct:aA)(osl:Array (Option aA)),
  fd=Ul x qual (yf st) (zO st) (zt st) .none kV doc pm an cdv ct/\K.lookup f=sO ⟨oc,od,.func fd,osl⟩/\UN K cdv qual=tV
 kp:u5 K (.ref f)=tV
section
variable{K:uc}
theorem Fun.ok{k:Nat}(F:Fun K x qual st f fd)(S:FnScope N ps (zt st))(len:∀vs H Q E,sp vs H Q E->vs.length=ps.length)
  (hbody:∀(cdv:aA)(A:Around)(outer:List Env)(s:Shared)(H:Hp)(vs:List V)(Q:VK)(E:XK),Room k (A.deeper (envOfC qual (zt st) s.heap.objs.size f cdv))->sp vs H Q E ->
   ∃t,PSs (cxOf CX0 P w K mg base N qual (zt st) f cdv A outer s H E).nox (zO st) t/\t { nx:=fun _ H'=>Q .non H',rt:=Q } (start N vs) H):FnOk P w K mg base CX0 (k+1) f fd ps sp:=by
 obtain⟨oc,od,kV,doc,pm,an,cdv,ct,osl,rfl,lk,hcd⟩:=F.ex;refine za7 lk hcd S len fun A outer s H vs Q E hr hsp=>?_;obtain⟨t,h,q⟩:=hbody cdv A outer s H vs Q E hr hsp;exact⟨t,h.nox,q⟩
theorem Fun.binds(F:Fun K x qual st f fd)
  (h:∀(kV doc pm:aA)(an:Option aO)(cdv ct:aA)(us:List aA),us.length=ps.length->bindArgs (Ul x qual (yf st) (zO st) (zt st) .none kV doc pm an cdv ct) ⟨us,[]⟩=pure (ps.zip us)):Binds K fd ps []:=by
 obtain⟨oc,od,kV,doc,pm,an,cdv,ct,osl,rfl,lk,hcd⟩:=F.ex;exact .all (h kV doc pm an cdv ct)
theorem Vw{kV:aA}(l:K.lookup f=sO ⟨oc,od,.func (Ul x qual (yf st) (zO st) (zt st) .none kV doc pm an cdv ct),osl⟩)
  (c:UN K cdv qual=tV) (k:u5 K (.ref f)=tV):Fun K x qual st f (Ul x qual (yf st) (zO st) (zt st) .none kV doc pm an cdv ct):=⟨⟨oc,od,kV,doc,pm,an,cdv,ct,osl,rfl,l,c⟩,k⟩
end
theorem zbb{k:Nat}(hr:Room k A):A.units+1 < cLine:=Ue (Nat.add_le_add_left (by decide:1<=64) _) hr.units
theorem pv(i:Nat)(hN:X.N[i]?=sO x:=by rfl)(hv:Vis X.env.scope x:=by first|exact Or.inl rfl|exact Or.inr (Or.inl rfl)|exact Or.inr (Or.inr rfl))(hd:(x == ("__debug__":Str))=fO:=by decide)
  (hcd:(x == ("__classdict__":Str))=fO:=by decide):PE X (.Name x pos) (tVar i):=zbO hN hv hd hcd
theorem iteF{A B:Prop}(h:B):if fO=tV then A else B:=by
 rw[iN uE];exact h
theorem iteT{A B:Prop}(h:A):if tV=tV then A else B:=by
 rw[iP rfl];exact h
theorem ite2{c A B:Prop}[Decidable c](h1:c->A)(h2:¬ c->B):if c then A else B:=by
 by_cases h:c
 ·rw[iP h]
  exact h1 h
 ·rw[iN h]
  exact h2 h
def Same(H H':Hp):Prop:=∀b o,H b=sO o->H' b=sO o
theorem Same.refl(H:Hp):Same H H:=fun _ _ h=>h
theorem Same.trans(a:Same H H1)(b:Same H1 H2):Same H H2:=fun c o h=>b c o (a c o h)
theorem Same.free(e:Same H H'){l:aO}(h:H' l=Option.none):H l=Option.none:=by
 cases q:H l with
 |none=>rfl
 |some o =>
  rw[e l o q]at h;cases h
theorem Same.seq{K:uc}(e:Same H H')(h:SqL K H a xs):SqL K H' a xs:=by
 rcases h with(h|⟨o,h⟩)|h
 ·exact .inl (.inl (e _ _ h))
 ·exact .inl (.inr ⟨o,e _ _ h⟩)
 ·exact .inr h
def AllIn(env:Env):List (Str×aO)->Prop
 |[]=>True
 |p::r=>env.cells.lookup p.1=sO p.2/\AllIn env r
theorem AllIn.get{env:Env}:∀{cl:List (Str×aO)}{y:Str}{c:aO},AllIn env cl->cl.lookup y=sO c->env.cells.lookup y=sO c
 |[],_,_,_,h=>by simp at h
 | (n,a)::r,y,c,⟨e,t⟩,h=>by
  rw[Ux]at h;by_cases q:y=n
  ·subst q
   rw[beq_self_eq_true]at h;cases h;exact e
  ·have q':(y == n)=fO:=beq_eq_false_iff_ne.mpr q
   rw[q']at h;exact AllIn.get t h
def wp:List Nat->St->St
 |[],σ=>σ
 |i::S,σ=>wp S (σ.set i nO)
theorem xP:∀(S:List Nat)(σ:St),(wp S σ).length=σ.length
 |[],_=>rfl
 |i::S,σ=>by rw[wp,xP S,List.length_set]
theorem jD:∀(S:List Nat)(σ:St){j:Nat}{v:V},(wp S σ)[j]?=sO (sO v)->σ[j]?=sO (sO v)/\j∉S
 |[],_,_,_,h=>⟨h,by simp⟩
 |i::S,σ,j,v,h=>by
  obtain⟨h1,h2⟩:=jD S (σ.set i nO) h;rw[List.getElem?_set]at h1;by_cases e:i=j
  ·rw[iP e]at h1
   split at h1<;>cases h1
  ·rw[iN e]at h1
   exact⟨h1,fun z=>(uy.mp z).elim (fun z=>e z.symm) h2⟩
structure LcOk(X:Cx)(scope:Scope)(cl:List (Str×aO))(S:List Nat):Prop where
 clos:closureFor scope X.env=pure cl
 kind:scope.kind=.function
 noC:scope.names.all (fun y=>y.2 != .cell)=tV
 loc:scope.names.all (fun y=>y.2 != .local || scope.names.lookup y.1 == sO .local)=tV
 own:X.N.zipIdx.all (fun y=>S.contains y.2 || scope.names.lookup y.1 != sO .local)=tV
 sub:AllIn X.env cl
 has:scope.names.all (fun p=>p.2 != .free || ((cl.lookup p.1).isSome && (X.env.kindOf p.1 == sO .cell || X.env.kindOf p.1 == sO .free)))=tV
section
variable{cl:List (Str×aO)}
theorem LcOk.nocell(L:LcOk X scope cl S):∀y∈scope.names,y.2≠.cell:=fun y hy=>by
 have h:=UF.mp L.noC y hy;exact bne_iff_ne.mp h
theorem LcOk.locs(L:LcOk X scope cl S):∀y∈scope.names,y.2=.local->scope.names.lookup y.1=sO .local:=fun y hy e=>by
 have h:=UF.mp L.loc y hy;rw[e]at h;simpa using h
theorem LcOk.apart(L:LcOk X scope cl S):∀(i:Nat)(y:Str),X.N[i]?=sO y->i∉S->scope.names.lookup y≠sO .local:=fun i y hy hi=>by
 have h:=UF.mp L.own (y,i) (List.mem_zipIdx_iff_getElem?.mpr hy);have hc:S.contains i=fO:=by simpa using hi
 rw[hc,tP]at h;exact bne_iff_ne.mp h
theorem LcOk.free(L:LcOk X scope cl S)(h:scope.names.lookup y=sO .free):(∃c,cl.lookup y=sO c)/\(X.env.kindOf y=sO .cell\/X.env.kindOf y=sO .free):=by
 have h1:=UF.mp L.has _ (u4 h);simp only[bne_self_eq_false,tP,uS,Uj,beq_iff_eq]at h1
 exact⟨U2.mp h1.1,h1.2⟩
theorem yY(names:List (Str×NameKind))(env:Env)(y:Str):
  (names.map fun(n,k)=>if(k == NameKind.free && env.scope.kind == .function && env.kindOf n == sO .cell)then(n,NameKind.cell)else(n,k)).lookup y =
   (names.lookup y).map fun k=>if(k == NameKind.free && env.scope.kind == .function && env.kindOf y == sO .cell)then NameKind.cell else k:=by
 induction names with
 |nil=>rfl
 |cons p r ih =>
  obtain⟨n,k⟩:=p;rw[uF];by_cases q:y=n
  ·subst q
   by_cases hc:(k == NameKind.free && env.scope.kind == .function && env.kindOf y == sO .cell)=tV
   ·show UV y ((if(k == NameKind.free && env.scope.kind == .function && env.kindOf y == sO .cell)=tV then(y,NameKind.cell)else(y,k))::_)=_
    rw[iP hc,Ux,Ux,beq_self_eq_true];show sO NameKind.cell=sO (if _ then _ else _);rw[iP hc]
   ·show UV y ((if(k == NameKind.free && env.scope.kind == .function && env.kindOf y == sO .cell)=tV then(y,NameKind.cell)else(y,k))::_)=_
    rw[iN hc,Ux,Ux,beq_self_eq_true];show sO k=sO (if _ then _ else _);rw[iN hc]
  ·have q':(y == n)=fO:=beq_eq_false_iff_ne.mpr q
   by_cases hc:(k == NameKind.free && env.scope.kind == .function && env.kindOf n == sO .cell)=tV
   ·show UV y ((if(k == NameKind.free && env.scope.kind == .function && env.kindOf n == sO .cell)=tV then(n,NameKind.cell)else(n,k))::_)=_
    rw[iP hc,Ux,Ux,q'];exact ih
   ·show UV y ((if(k == NameKind.free && env.scope.kind == .function && env.kindOf n == sO .cell)=tV then(n,NameKind.cell)else(n,k))::_)=_
    rw[iN hc,Ux,Ux,q'];exact ih
theorem LcOk.kinds(L:LcOk X scope cl S)(h:(relabel scope X.env).names.lookup y=sO .cell\/(relabel scope X.env).names.lookup y=sO .free):scope.names.lookup y=sO .free:=by
 have e:(relabel scope X.env).names.lookup y=(scope.names.lookup y).map fun k=>if(k == NameKind.free && X.env.scope.kind == .function && X.env.kindOf y == sO .cell)then NameKind.cell else k:=yY scope.names X.env y
 rw[e]at h;cases q:scope.names.lookup y with
 |none=>rw[q]at h;rcases h with h|h<;>cases h
 |some k =>
  have hk:k≠.cell:=L.nocell _ (u4 q);rw[q]at h;by_cases hf:k=.free
  ·rw[hf]
  ·have z:(k == NameKind.free)=fO:=beq_eq_false_iff_ne.mpr hf
   rw[UZ,z,Bool.false_and,Bool.false_and,iN uE]at h;rcases h with h|h
   ·exact absurd (uX.inj h) hk
   ·exact absurd (uX.inj h) hf
def cxLC(X:Cx)(scope:Scope)(cl:List (Str×aO))(M:lS)(C:aO)(s₀:Shared)(H₀:Hp)(ex:List aO)(E:VSP):Cx where
 prog:=X.prog
 w:=X.w
 K:=X.K
 mg:=X.mg
 base:=X.base
 A:=X.A
 N:=X.N++M
 s₀:=s₀
 H₀:=H₀
 env:=compEnvC scope cl C X.env
 outer:=X.stack
 stack:=X.stack
 ex:=ex
 fn:=fun _=>fO
 calm:=X.calm
 pn:=[]
 xe:=E
variable{ex:List aO}{M:lS}
theorem Vx{h1:Heap}{tk:Nat}{m:Str->Option aA}(I:Inv X pins σ H s)(L:LcOk X scope cl S)(hf:∀b∈ex,FpOk X pins H b)(hlt:∀b∈ex,b < s.heap.objs.size)
  (hk:∀b o,s.heap.get? b=sO o->h1.get? b=sO o) (hC:s.heap.objs.size<=C) (hns:h1.Ns C m) :
  Inv (cxLC X scope cl M C s H ex E) [] (wp S σ++uQ M.length nO) H { s with heap:=h1,toks:=tk }:=by
 refine⟨⟨I.ok.mod,L.kind,I.ok.glob,I.ok.blt,hC,fun x y c a b=>I.ok.inj x y c (L.sub.get a) (L.sub.get b),fun y hy=>(L.free (L.kinds hy)).1,(fun x c z=>nomatch z),I.ok.hd,I.ok.frames,.inl rfl,fun b hb=>⟨?_,fun x c e=>?_⟩,
   I.bs,uH I.ok.bsz I.sz,fun b o e hb=>?_,fun b hb z=>?_,I.stack,I.stkFree⟩,
  rfl,I.bare,Un.kept hk,⟨m,hns,fun i y v e1 e2 e3=>?_⟩,fun y c e=>?_,I.hok.fresh hC,fun y c e=>I.freeC y c (L.sub.get e),fun p hp=>absurd (show p∈([]:List (aO×Obj))from hp) (by simp),I.hok.kept hk,?_⟩
 ·exact uT (uJ (hlt b hb) hC)
 ·exact(hf b hb).2.2.2.2.1 x c (L.sub.get e)
 ·rcases(hf b hb).2.2.2.1 with z|z
  ·exact I.ok.noex b o e z
  ·exact absurd (uJ (uC e) (uH I.ok.bsz z)) (Uw _)
 ·rcases uy.mp (I.stkSub b z)with q|q
  ·exact(hf b hb).2.1 q
  ·exact(hf b hb).2.2.1 q
 ·have e1':(X.N++M)[i]?=sO y:=e1
  by_cases hi:i < σ.length
  ·rw[Ut (by rw[xP];exact hi)]at e2
   obtain⟨e2,hiS⟩:=jD S σ e2;rw[Ut (by rw[<- I.len];exact hi)]at e1';obtain⟨m0,hn0,hl⟩:=I.loc;have hy:scope.names.lookup y=sO .free:=by
    rcases e3 with e3|e3
    ·have q:=yY scope.names X.env y
     have e3':(relabel scope X.env).names.lookup y=sO .local:=e3;cases z:scope.names.lookup y with
     |none =>
      rw[z]at q;have q':(relabel scope X.env).names.lookup y=nO:=q;rw[e3']at q';cases q'
     |some k =>
      have hk1:k≠.local:=fun w=>L.apart i y e1' hiS (w ▸ z);rw[z,UZ]at q;have q':sO NameKind.local=sO (if(k == NameKind.free && X.env.scope.kind == .function && X.env.kindOf y == sO .cell)=tV then NameKind.cell else k):=e3'.symm.trans q;have q2:=uX.inj q';by_cases hc:(k == NameKind.free && X.env.scope.kind == .function && X.env.kindOf y == sO .cell)=tV
      ·rw[iP hc]at q2;cases q2
      ·rw[iN hc]at q2;exact absurd q2.symm hk1
    ·exact L.kinds e3
   obtain⟨⟨c,hc⟩,hk2⟩:=L.free hy;obtain⟨u,r,l⟩:=hl i y v e1' e2 (.inr hk2);refine⟨u,r,.inr ⟨?_,c,hc,?_⟩⟩
   ·have q:=yY scope.names X.env y
    rw[hy,UZ]at q;have q':(relabel scope X.env).names.lookup y=sO (if(NameKind.free == NameKind.free && X.env.scope.kind == .function && X.env.kindOf y == sO .cell)=tV then NameKind.cell else NameKind.free):=q;by_cases hc:(NameKind.free == NameKind.free && X.env.scope.kind == .function && X.env.kindOf y == sO .cell)=tV
    ·rw[iP hc]at q';exact .inl q'
    ·rw[iN hc]at q';exact .inr q'
   ·rcases l with⟨l1,_⟩|⟨_,c',e',z⟩
    ·rcases hk2 with w|w<;>(rw[l1]at w;cases w)
    ·have ec:c'=c:=by
      have w:=L.sub.get hc;rw[e']at w;exact uX.inj w
     subst ec;obtain⟨o,ho,hd⟩:=z;exact⟨o,hk _ _ ho,hd⟩
  ·rw[UE (by rw[xP];exact Nat.not_lt.mp hi),List.getElem?_replicate]at e2
   split at e2<;>cases e2
 ·obtain⟨v,o,ho,hd⟩:=I.cell y c (L.sub.get e)
  exact⟨v,o,hk _ _ ho,hd⟩
 ·show(wp S σ++uQ M.length nO).length=(X.N++M).length
  rw[uf,uf,Uq,xP,I.len]
def PTs(X:Cx)(ifs:List Expr)(t:TT):Prop :=
 ∀(pins:List (aO×Obj))(s:Shared)(σ:St)(H:Hp)(Q:Bool->Hp->Prop),Inv X pins σ H s->t σ H Q ->
  wpAny (model X.prog X.w) X.A (forIn ifs tV fun c r=>if r=tV then do let ok <- isTrue c X.env (eval c X.env);pure (ForInStep.yield ok)else pure (ForInStep.yield r)) (TP X pins σ Q) X.xe s
def tYes:TT:=fun _ H Q=>Q tV H
theorem QM:PTs X [] tYes:=fun _ _ _ H _ I h=>wpAny_tests_nil ⟨H,I,h⟩
theorem QN{c:Expr}{t:TT}(h:PT X c t):PTs X [c] t:=fun pins s σ H Q I q=>wpAny_tests_one (h pins s σ H Q I q)
def lcBy(J:It)(g:TG)(tt:TT)(te:TE)(Q:VK)(W:Nat->Nat->St->List V->Hp->Prop):Prop:=∀i m τ ys H,W i m τ ys H ->
 (J.stop i H/\∀p,H p=nO->Q (.ref p) (upd H p (.lst ys))) \/
 (J.go i H/\∃N:St->List V->Hp->Prop,(∀τ' ys' H',N τ' ys' H'->∃m',m' < m/\W (i+1) m' τ' ys' H')/\∀x H',J.yld i H x H'->g x τ H' fun τ2 H2=>tt τ2 H2 fun b H3 =>
  if b=tV then te τ2 H3 fun y H4=>ys.length < sizeLine/\N τ2 (ys++[y]) H4 else N τ2 ys H3)
def tLC(wi:TI)(g:TG)(tt:TT)(te:TE)(n:Nat):TE:=fun σ H Q=>wi σ H fun J H1=>∃W,(∃m,W 0 m (σ++uQ n nO) [] H1)/\lcBy J g tt te Q W
def tLCS(S:List Nat)(wi:TI)(g:TG)(tt:TT)(te:TE)(n:Nat):TE:=fun σ H Q=>wi σ H fun J H1=>∃W,(∃m,W 0 m (wp S σ++uQ n nO) [] H1)/\lcBy J g tt te Q W
theorem XR{J:It}{tn:Nat->Heap->Prop}{Q:VK}{R:aA->aO->Result->Shared->Prop}{Al:aO->(aA->Shared->Prop)->Prop}
  {W:Nat->Nat->St->List V->Hp->Prop} {m0:Nat} (L:LcOk X scope cl S) (hc:X.calm=tV) (I:Inv X pins σ H s) (T:Turn X.prog X.w X.K tg J fp it tn) (st:tn 0 s.heap) (hf:∀b∈fp,FpOk X pins H b)
  (hg:∀C s H ex E,PG (cxLC X scope cl M C s H ex E) tg g) (ht:∀C s H ex E,PTs (cxLC X scope cl M C s H ex E) ifs tt) (he:∀C E,Al C E->PE (cxLC X scope cl M C s H fp E) elt te)
  (hal:∀C,s.heap.objs.size < C->Al C (notedBy (model X.prog X.w) X.A (compEnvC scope cl C X.env) (fun e s'=>R (.ref s.heap.objs.size) C (.error e) s')))
  (w0:W 0 m0 (wp S σ++uQ M.length nO) [] H) (turn:lcBy J g tt te Q W)
  (hR:∀D C s' H' ys m,Inv X pins σ (upd H' D (.lst ys)) s'->FpOk X pins (upd H' D (.lst ys)) C->s'.heap.Ns C m->Q (.ref D) (upd H' D (.lst ys))->R (.ref D) C (.ok .next) s') :
  wpAny (model X.prog X.w) X.A (newList []) (fun acc s₃=>wpAny (model X.prog X.w) X.A (newFunctionEnv scope X.env.globals cl [] X.env.qual nO .none (sO X.env)) (fun cenv s₄ =>
   codeAny (model X.prog X.w) X.A (.compStart (.ListComp elt [⟨tg,iter,ifs,0⟩] scope pos) 0 (.ref it) acc { cenv with scope:=relabel scope X.env }) (R acc cenv.locals) s₄) E s₃) E s:=by
 refine wpAny_newObj_type (wpAny_newFunctionEnv L.nocell (by intro y hy;simp at hy) (fun h₁ hns₁ hsb₁=>?_) L.kind);dsimp only at hns₁ hsb₁ ⊢
 generalize hG:s.heap.push { cls:=.type "list",dict:=nO,data:=.seq ([]:List aA).toArray }=G at hns₁ hsb₁ ⊢;have hC:G.objs.size=s.heap.objs.size+1:=by rw[<- hG,Uf]
 have hDC:s.heap.objs.size≠G.objs.size:=by rw[hC];exact uT (UW _)
 have hCle:s.heap.objs.size<=G.objs.size:=by rw[hC];exact Nat.le_succ _
 have old:∀b o,s.heap.get? b=sO o->h₁.get? b=sO o:=fun b o e =>
  hsb₁.extBut b o (by rw[hC];exact uT (Nat.lt_succ_of_lt (uC e))) (ue _ (hG ▸ ue _ e))
 have hacc:h₁.get? s.heap.objs.size=sO { cls:=.type "list",data:=.seq ([]:List aA).toArray }:=hsb₁.extBut _ _ hDC (ue _ (hG ▸ uu _ rfl));have fpo:∀b∈fp,b < s.heap.objs.size:=fun b hb=>let ⟨o,e,_⟩:=T.obj 0 _ st b hb;uC e
 have st1:tn 0 h₁:=T.keep 0 _ _ st fun b _ o e=>old b o e;have nofs:s.heap.objs.size∉frs X.stack:=fun z=>by
  rcases uy.mp (I.stkSub _ z)with q|q
  ·exact absurd (q ▸ I.lt) (Uw _)
  ·exact I.nofs (uj _) q
 have nocl:∀y c,cl.lookup y=sO c->c≠s.heap.objs.size:=fun y c e z=>by
  obtain⟨v,o,ho,_⟩:=I.cell y c (L.sub.get e);exact absurd (z ▸ uC ho) (Uw _)
 have loop:∀s₃:Shared,s₃={ s with heap:=h₁,toks:=s.toks+([]:List (Str×aA)).length } ->
   codeAny (model X.prog X.w) X.A (.compLoop (.ListComp elt [⟨tg,iter,ifs,0⟩] scope pos) 0 (.ref it) (.ref s.heap.objs.size) (compEnvC scope cl G.objs.size X.env)) (R (.ref s.heap.objs.size) G.objs.size) s₃:=by
  rintro s₃ rfl;have hAl:=hal G.objs.size (by rw[hC];exact UW _);generalize hE:notedBy (model X.prog X.w) X.A (compEnvC scope cl G.objs.size X.env) (fun e s'=>R (.ref s.heap.objs.size) G.objs.size (.error e) s')=E' at hAl ⊢;have IY:Inv (cxLC X scope cl M G.objs.size s H fp E') [] (wp S σ++uQ M.length nO) H { s with heap:=h₁,toks:=s.toks+([]:List (Str×aA)).length }:=Vx I L hf fpo old hCle hns₁;refine codeAny_loop rfl (fun n s'=>∃(i:Nat)(τ:St)(H':Hp)(ys:List V)(its:List aA)(k:Nat),Inv (cxLC X scope cl M G.objs.size s H fp E') [] τ H' s'/\tn i s'.heap/\(∀b∈fp,H' b=nO) /\
   s'.heap.get? s.heap.objs.size=sO { cls:=.type "list",data:=.seq its.toArray k }/\H' s.heap.objs.size=nO/\Vals ys its/\ys.length<=sizeLine/\W i n τ ys H') (fun n s' hI=>?_) m0
   ⟨0,_,H,[],[],_,IY,st1,fun b hb=>(hf b hb).1,hacc,I.hok.fresh (uj _),.nil,uK _,w0⟩
  obtain⟨i,τ,H1,ys,its,k,I1,st1,fr1,eD,fD,rv,hz,w1⟩:=hI;show wpAny _ X.A ((compTurn (.ListComp elt [⟨tg,iter,ifs,0⟩] scope pos) 0 (.ref it) (.ref s.heap.objs.size) (compEnvC scope cl G.objs.size X.env)).onRaise (fun x=>do noteFrame x (compEnvC scope cl G.objs.size X.env);theTreesLotGoes x)) _ _ s';refine wpAny_noted ?_;rw[hE,compTurn_list];have I1':Inv (cxLC X scope cl M G.objs.size s H fp E') [(s.heap.objs.size,{ cls:=.type "list",data:=.seq its.toArray k })] τ H1 s':=I1.pins_of fun p hp=>by
   have e:p=(s.heap.objs.size,{ cls:=.type "list",data:=.seq its.toArray k }):=by simpa using hp
   subst e;exact⟨eD,fD,hDC,nofs,(fun v z=>nomatch z)⟩
  have stat:∀{H':Hp},(∀b∈fp,H' b=nO)->∀b∈fp,FpOk (cxLC X scope cl M G.objs.size s H fp E') [(s.heap.objs.size,{ cls:=.type "list",data:=.seq its.toArray k })] H' b:=fun hn b hb=>by
   refine⟨hn b hb,?_,?_,.inl hb,fun x c e=>(hf b hb).2.2.2.2.1 x c (L.sub.get e),fun p hp z=>?_⟩
   ·exact uT (uJ (fpo b hb) hCle)
   ·intro z
    rcases uy.mp (I.stkSub b z)with q|q
    ·exact(hf b hb).2.1 q
    ·exact(hf b hb).2.2.1 q
   ·have e:p=(s.heap.objs.size,{ cls:=.type "list",data:=.seq its.toArray k }):=by
     have hp':p∈[(s.heap.objs.size,({ cls:=.type "list",data:=.seq its.toArray k }:Obj))]:=hp;simpa using hp'
    subst e;exact absurd (z ▸ fpo b hb) (Uw _)
  refine bA (wpAny_standAt (bA ?_));rcases turn i n τ ys H1 w1 with⟨stop,q⟩|⟨go,N,hN,step⟩
  ·refine thn (T.done (cxLC X scope cl M G.objs.size s H fp E') rfl rfl rfl hc i _ s' τ H1 E' I1' (stat fr1) st1 stop) fun r s4 hq_=>?_
   obtain⟨hr,I4⟩:=hq_;subst hr;refine pO ?_;obtain⟨eD4,_,_⟩:=I4.pin (s.heap.objs.size,{ cls:=.type "list",data:=.seq its.toArray k }) (uv _ Uk);have base4:Un (frs X.stack) fp H H1 s.heap s4.heap:=I4.base;have un:Un (frs X.stack) fp H (upd H1 s.heap.objs.size (.lst ys)) s.heap s4.heap:=⟨base4.keep,base4.slot,fun b o e n hx=>by rw[zj (uT (uC e))];exact base4.free b o e n hx,base4.there,
    fun b xs e=>by rw[zj (zi (base4.tups b xs e) fD)];exact base4.tups b xs e,fun b o u e=>by rw[zj (zi (base4.frzs b o u e) fD)];exact base4.frzs b o u e,
    fun b ps e=>by
     obtain⟨more,w⟩:=base4.tbls b ps e;exact⟨more,by rw[zj (zi w fD)];exact w⟩⟩
   have hok:HOk X.prog X.w (upd H1 s.heap.objs.size (.lst ys)) s4.heap:=fun b u e=>by
    by_cases hb:b=s.heap.objs.size
    ·subst hb
     rw[uX9]at e;cases e;exact⟨hz,its,k,rv,eD4⟩
    ·rw[zj hb]at e
     exact(I4.hok b u e).stay (fun c v _ q=>q) (fun c q=>by rw[zj (zi q fD)];exact q) fun c xs q=>by rw[zj (zi q fD)];exact q
   have IX:Inv X pins σ (upd H1 s.heap.objs.size (.lst ys)) s4:=I.call' I4.os un hok I4.bare fun b hb=>⟨(hf b hb).2.2.2.1,(hf b hb).2.1,(hf b hb).2.2.2.2.1,(hf b hb).2.2.2.2.2⟩;have fC:H1 G.objs.size=nO:=I4.free;obtain⟨m4,n4,_⟩:=I4.loc;exact hR _ _ s4 H1 ys m4 IX (I.fpOk hCle (by rw[zj (Ne.symm hDC)];exact fC)) n4 (q _ fD)
  ·refine thn (T.item (cxLC X scope cl M G.objs.size s H fp E') rfl rfl rfl hc i _ s' τ H1 E' I1' (stat fr1) st1 go) fun r s4 hq_=>?_
   obtain⟨u,hr,h4⟩:=hq_;subst hr;refine bA (thn h4 fun _ s5 hq_=>?_);obtain⟨x,H5,I5,r5,y5,st5,fr5⟩:=hq_;have I5':=I5.pinned (stat fr5) (T.obj _ _ st5);have kept:∀{τ6:St}{H6:Hp}{s6:Shared},Inv (cxLC X scope cl M G.objs.size s H fp E') ([(s.heap.objs.size,{ cls:=.type "list",data:=.seq its.toArray k })]++vG fp s5.heap) τ6 H6 s6 ->
     Inv (cxLC X scope cl M G.objs.size s H fp E') [] τ6 H6 s6/\tn (i+1) s6.heap/\(∀b∈fp,H6 b=nO)/\s6.heap.get? s.heap.objs.size=sO { cls:=.type "list",data:=.seq its.toArray k }/\H6 s.heap.objs.size=nO:=fun{τ6 H6 s6} I6=>by
    have pin:∀b∈fp,∀o,s5.heap.get? b=sO o->s6.heap.get? b=sO o/\H6 b=nO:=fun b hb o e =>
     let w:=I6.pin (b,o) (uv _ (uv _ (x8 hb e)))
     ⟨w.1,w.2.1⟩
    have pD:=I6.pin (s.heap.objs.size,{ cls:=.type "list",data:=.seq its.toArray k }) (uv _ (uz _ Uk));refine⟨I6.pins_of (fun p hp=>nomatch hp),T.keep _ _ _ st5 fun b hb o e=>(pin b hb o e).1,fun b hb=>?_,pD.1,pD.2.1⟩;obtain⟨o,e,_⟩:=T.obj _ _ st5 b hb;exact(pin b hb o e).2
   refine bA (thn (hg _ _ _ _ _ _ s5 τ H5 x u _ I5' r5 (step x H5 y5)) fun _ s6 hq_=>?_);obtain⟨σ6,H6,I6,q6⟩:=hq_;refine bA (thn (ht _ _ _ _ _ _ s6 σ6 H6 _ I6 q6) fun ok s7 hq_=>?_);obtain⟨H7,I7,q7⟩:=hq_;cases ok with
   |false =>
    have q7':N σ6 ys H7:=by simpa using q7
    obtain⟨m',hm,w7⟩:=hN _ _ _ q7';obtain⟨K1,K2,K3,K4,K5⟩:=kept I7;exact pO ⟨rfl,m',hm,i+1,σ6,H7,ys,its,k,K1,K2,K3,K4,K5,rv,hz,w7⟩
   |true =>
    have q7':te σ6 H7 fun y H4=>ys.length < sizeLine/\N σ6 (ys++[y]) H4:=by simpa using q7
    refine bA (bA (thn (he _ _ hAl _ s7 σ6 H7 _ I7 q7') fun y s8 hq_=>?_));obtain⟨v8,H8,I8,r8,hz8,n8⟩:=hq_;obtain⟨m',hm,w8⟩:=hN _ _ _ n8;obtain⟨K1,K2,K3,K4,K5⟩:=kept I8;have hl:=rv.length;refine bA (wpAny_list_append_plain (hsz:=by rw[uA];lia) ⟨k,K4⟩ fun h9 hl9 hs9=>pO (pO ⟨rfl,m',hm,?_⟩));obtain⟨k9,e9⟩:=hl9;have I9:Inv (cxLC X scope cl M G.objs.size s H fp E') [] σ6 H8 { s8 with heap:=h9 }:=K1.turned (t':=s8.toks) (it:=s.heap.objs.size) (fun b o hb e=>(hs9.2 b hb).trans e) K5 hDC (.inr (uj _))
     (fun y c e=>nocl y c e) fun p hp=>nomatch hp
    refine⟨i+1,σ6,H8,ys++[v8],its++[y],k9,I9,T.keep _ _ _ K2 fun b hb o e=>(hs9.2 b (uT (fpo b hb))).trans e,K3,?_,K5,rv.append (.cons r8 .nil),?_,w8⟩
    ·rw[e9]
     simp
    ·rw[uf,uY]
     lia
 exact codeAny_compStart_list (loop _ rfl) (T.self X.A 0 _ _ _ st1 (loop _ rfl))
variable{wi:TI}
theorem zbc(L:LcOk X scope cl S)(hc:X.calm=tV)(hi:PI X tg iter wi)(hg:∀C s H ex E,PG (cxLC X scope cl M C s H ex E) tg g)(ht:∀C s H ex E,PTs (cxLC X scope cl M C s H ex E) ifs tt)(he:∀C s H ex E,PE (cxLC X scope cl M C s H ex E) elt te)
  (hs:∀x,foldedSetIterable iter X.env x=pure x:=by intro _;rfl):PE X (.ListComp elt [⟨tg,iter,ifs,0⟩] scope pos) (tLCS S wi g tt te M.length):=by
 intro pins s σ H Q I h;rw[eval_ListComp];refine wpAny_comprehension_free (use:=nO) rfl hs L.clos L.kind L.locs (thn (hi pins s σ H _ I h) fun v s1 h1=>thn h1 fun itv s2 h2=>?_);obtain⟨it,fp,tn,J,H2,rfl,I2,T,st2,f2,W,⟨m0,w0⟩,turn⟩:=h2;refine XR (R:=fun acc C=>compPost (model X.prog X.w) X.A X.xe nO (EP X pins σ Q) acc C) (Al:=fun _ _=>True) L hc I2 T st2 f2 hg ht (fun C E _=>he C _ _ _ E) (fun _ _=>trivial) w0 turn ?_;intro D C s' H' ys m IX fC ns q;exact⟨m,ns,fun h' sb=>⟨.ref D,_,IX.turned (t':=s'.toks) (fun b o hb e=>(sb.2 b hb).trans e) fC.1 fC.2.1 fC.2.2.2.1 fC.2.2.2.2.1 fC.2.2.2.2.2,rfl,q⟩⟩
theorem jF(hN:X.N.Nodup)(hi':X.N[i]?=sO y)(hy:Loc X.env.scope y)(L:LcOk X scope cl S)(hc:X.calm=tV)(hi:PI X tg iter wi)(hg:∀C s H ex E,PG (cxLC X scope cl M C s H ex E) tg g)
  (ht:∀C s H ex E,PTs (cxLC X scope cl M C s H ex E) ifs tt) (he:∀C s H ex E,PE (cxLC X scope cl M C s H ex E) elt te) (hs:∀x,foldedSetIterable iter X.env x=pure x:=by intro _;rfl)
  (hsw:swapsWith (.ListComp elt [⟨tg,iter,ifs,0⟩] scope pos) (sO (.Name y py)) spos.line X.env=pure tV:=by rfl)
  (hf:X.fn y=tV\/X.env.scope.names.lookup y=sO .local:=by first|exact .inl rfl|exact .inr rfl|assumption) :
  PS X (.Assign [.Name y py] (.ListComp elt [⟨tg,iter,ifs,0⟩] scope pos) spos) (fun D σ H=>tLCS S wi g tt te M.length σ H fun v H1=>D.nx (σ.set i (sO v)) H1):=by
 intro pins s σ H D I h;rw[exec_Assign_Name_used _ _ _ _ hsw];refine bA (wpAny_standAt (bA ?_));show wpAny _ X.A (do let _ <- comprehension (.ListComp elt [⟨tg,iter,ifs,0⟩] scope pos) scope X.env _ (newList []) fO (eval iter X.env) (sO (assign (.Name y py) X.env))) _ _ s;refine bA (wpAny_mono (wpAny_comprehension_free (use:=sO (assign (.Name y py) X.env)) (Q:=fun _ s'=>SP X pins D .next s') rfl hs L.clos L.kind L.locs
  (thn (hi pins s σ H _ I h) fun v s1 h1=>thn h1 fun itv s2 h2=>?_)) (fun _ s' hq=>pO (pO hq)) fun _ _ e=>e)
 obtain⟨it,fp,tn,J,H2,rfl,I2,T,st2,f2,W,⟨m0,w0⟩,turn⟩:=h2;refine XR (R:=fun acc C=>compPost (model X.prog X.w) X.A X.xe (sO (assign (.Name y py) X.env)) (fun _ s'=>SP X pins D .next s') acc C) (Al:=fun _ _=>True) L hc I2 T st2 f2 hg ht (fun C E _=>he C _ _ _ E) (fun _ _=>trivial) w0 turn ?_;intro D' C s' H' ys m IX fC ns q;show wpAny _ X.A (assign (.Name y py) X.env (.ref D')) _ _ s';refine wpAny_assign_Name (jr IX hN hi' hy (v:=.ref D') rfl (fun s'' I'' ⟨a,sb,ha⟩=>?_) hf);refine⟨m,ns.sameBut sb ?_,fun h' sb'=>⟨_,_,I''.turned (t':=s''.toks) (fun b o hb e=>(sb'.2 b hb).trans e) fC.1 fC.2.1 fC.2.2.2.1 fC.2.2.2.2.1 fC.2.2.2.2.2,q⟩⟩;rcases ha with ha|ha
 ·rw[ha];exact fC.2.1
 ·exact Ne.symm (fC.2.2.2.2.1 y a ha)
end
def clOf(scope:Scope)(env:Env):List (Str×aO):=scope.names.foldl (fun cs p=>if p.2 == .free then(match env.cells.lookup p.1 with|some a=>(p.1,a)::cs|none=>cs)else cs) []
theorem XS(env:Env):∀(names:List (Str×NameKind))(acc:List (Str×aO)),AllIn env acc->AllIn env (names.foldl (fun cs p=>if p.2 == .free then(match env.cells.lookup p.1 with|some a=>(p.1,a)::cs|none=>cs)else cs) acc)
 |[],_,h=>h
 | (n,k)::r,acc,h=>by
  rw[UJ];refine XS env r _ ?_;by_cases hk:(k == NameKind.free)=tV
  ·rw[iP hk]
   cases e:env.cells.lookup n with
   |none=>exact h
   |some a=>exact⟨e,h⟩
  ·rw[iN hk]
   exact h
section
variable{M:lS}{wi:TI}
theorem Vy(h1:closureFor scope X.env=pure (clOf scope X.env))(h2:scope.kind=.function)(h3:scope.names.all (fun y=>y.2 != .cell)=tV)(h4:scope.names.all (fun y=>y.2 != .local || scope.names.lookup y.1 == sO .local)=tV)
  (h5:X.N.zipIdx.all (fun y=>S.contains y.2 || scope.names.lookup y.1 != sO .local)=tV) (h6:scope.names.all (fun p=>p.2 != .free || (((clOf scope X.env).lookup p.1).isSome && (X.env.kindOf p.1 == sO .cell || X.env.kindOf p.1 == sO .free)))=tV) :
  LcOk X scope (clOf scope X.env) S:=⟨h1,h2,h3,h4,h5,XS X.env scope.names [] trivial,h6⟩
theorem lcOk(h1:closureFor scope X.env=pure (clOf scope X.env))(h2:scope.kind=.function)(h3:scope.names.all (fun y=>y.2 != .cell)=tV)(h4:scope.names.all (fun y=>y.2 != .local || scope.names.lookup y.1 == sO .local)=tV)
  (h5:X.N.all (fun y=>scope.names.lookup y != sO .local)=tV) (h6:scope.names.all (fun p=>p.2 != .free || (((clOf scope X.env).lookup p.1).isSome && (X.env.kindOf p.1 == sO .cell || X.env.kindOf p.1 == sO .free)))=tV) :
  LcOk X scope (clOf scope X.env) []:=Vy h1 h2 h3 h4 (UF.mpr fun y hy=>by
   have hm:y.1∈X.N:=uw (List.mem_zipIdx_iff_getElem?.mp hy);rw[UF.mp h5 y.1 hm,Bool.or_true]) h6
theorem QO(M:lS)(hc:X.calm=tV)(hi:PI X tg iter wi)(hg:∀C s H ex E,PG (cxLC X scope (clOf scope X.env) M C s H ex E) tg g)(ht:∀C s H ex E,PTs (cxLC X scope (clOf scope X.env) M C s H ex E) ifs tt)
  (he:∀C s H ex E,PE (cxLC X scope (clOf scope X.env) M C s H ex E) elt te) (hs:∀x,foldedSetIterable iter X.env x=pure x:=by intro _;rfl)
  (h1:closureFor scope X.env=pure (clOf scope X.env):=by with_unfolding_all rfl) (h2:scope.kind=.function:=by rfl) (h3:scope.names.all (fun y=>y.2 != .cell)=tV:=by rfl) (h4:scope.names.all (fun y=>y.2 != .local || scope.names.lookup y.1 == sO .local)=tV:=by rfl)
  (h5:X.N.all (fun y=>scope.names.lookup y != sO .local)=tV:=by rfl) (h6:scope.names.all (fun p=>p.2 != .free || (((clOf scope X.env).lookup p.1).isSome && (X.env.kindOf p.1 == sO .cell || X.env.kindOf p.1 == sO .free)))=tV:=by rfl) :
  PE X (.ListComp elt [⟨tg,iter,ifs,0⟩] scope pos) (tLC wi g tt te M.length):=zbc (lcOk h1 h2 h3 h4 h5 h6) hc hi hg ht he hs
theorem QP(M:lS)(hN:X.N.Nodup)(hi':X.N[i]?=sO y)(hy:Loc X.env.scope y)(hc:X.calm=tV)(hi:PI X tg iter wi)(hg:∀C s H ex E,PG (cxLC X scope (clOf scope X.env) M C s H ex E) tg g)
  (ht:∀C s H ex E,PTs (cxLC X scope (clOf scope X.env) M C s H ex E) ifs tt) (he:∀C s H ex E,PE (cxLC X scope (clOf scope X.env) M C s H ex E) elt te) (hs:∀x,foldedSetIterable iter X.env x=pure x:=by intro _;rfl)
  (hsw:swapsWith (.ListComp elt [⟨tg,iter,ifs,0⟩] scope pos) (sO (.Name y py)) spos.line X.env=pure tV:=by rfl)
  (hf:X.fn y=tV\/X.env.scope.names.lookup y=sO .local:=by first|exact .inl rfl|exact .inr rfl|assumption)
  (h1:closureFor scope X.env=pure (clOf scope X.env):=by with_unfolding_all rfl) (h2:scope.kind=.function:=by rfl) (h3:scope.names.all (fun y=>y.2 != .cell)=tV:=by rfl) (h4:scope.names.all (fun y=>y.2 != .local || scope.names.lookup y.1 == sO .local)=tV:=by rfl)
  (h5:X.N.all (fun y=>scope.names.lookup y != sO .local)=tV:=by rfl) (h6:scope.names.all (fun p=>p.2 != .free || (((clOf scope X.env).lookup p.1).isSome && (X.env.kindOf p.1 == sO .cell || X.env.kindOf p.1 == sO .free)))=tV:=by rfl) :
  PS X (.Assign [.Name y py] (.ListComp elt [⟨tg,iter,ifs,0⟩] scope pos) spos) (fun D σ H=>tLC wi g tt te M.length σ H fun v H1=>D.nx (σ.set i (sO v)) H1):=jF hN hi' hy (lcOk h1 h2 h3 h4 h5 h6) hc hi hg ht he hs hsw hf
theorem Vz(S:List Nat)(M:lS)(hc:X.calm=tV)(hi:PI X tg iter wi)(hg:∀C s H ex E,PG (cxLC X scope (clOf scope X.env) M C s H ex E) tg g)(ht:∀C s H ex E,PTs (cxLC X scope (clOf scope X.env) M C s H ex E) ifs tt)
  (he:∀C s H ex E,PE (cxLC X scope (clOf scope X.env) M C s H ex E) elt te) (hs:∀x,foldedSetIterable iter X.env x=pure x:=by intro _;rfl)
  (h1:closureFor scope X.env=pure (clOf scope X.env):=by with_unfolding_all rfl) (h2:scope.kind=.function:=by rfl) (h3:scope.names.all (fun y=>y.2 != .cell)=tV:=by rfl) (h4:scope.names.all (fun y=>y.2 != .local || scope.names.lookup y.1 == sO .local)=tV:=by rfl)
  (h5:X.N.zipIdx.all (fun y=>S.contains y.2 || scope.names.lookup y.1 != sO .local)=tV:=by rfl) (h6:scope.names.all (fun p=>p.2 != .free || (((clOf scope X.env).lookup p.1).isSome && (X.env.kindOf p.1 == sO .cell || X.env.kindOf p.1 == sO .free)))=tV:=by rfl) :
  PE X (.ListComp elt [⟨tg,iter,ifs,0⟩] scope pos) (tLCS S wi g tt te M.length):=zbc (Vy h1 h2 h3 h4 h5 h6) hc hi hg ht he hs
theorem VA(S:List Nat)(M:lS)(hN:X.N.Nodup)(hi':X.N[i]?=sO y)(hy:Loc X.env.scope y)(hc:X.calm=tV)(hi:PI X tg iter wi)(hg:∀C s H ex E,PG (cxLC X scope (clOf scope X.env) M C s H ex E) tg g)
  (ht:∀C s H ex E,PTs (cxLC X scope (clOf scope X.env) M C s H ex E) ifs tt) (he:∀C s H ex E,PE (cxLC X scope (clOf scope X.env) M C s H ex E) elt te) (hs:∀x,foldedSetIterable iter X.env x=pure x:=by intro _;rfl)
  (hsw:swapsWith (.ListComp elt [⟨tg,iter,ifs,0⟩] scope pos) (sO (.Name y py)) spos.line X.env=pure tV:=by rfl)
  (hf:X.fn y=tV\/X.env.scope.names.lookup y=sO .local:=by first|exact .inl rfl|exact .inr rfl|assumption)
  (h1:closureFor scope X.env=pure (clOf scope X.env):=by with_unfolding_all rfl) (h2:scope.kind=.function:=by rfl) (h3:scope.names.all (fun y=>y.2 != .cell)=tV:=by rfl) (h4:scope.names.all (fun y=>y.2 != .local || scope.names.lookup y.1 == sO .local)=tV:=by rfl)
  (h5:X.N.zipIdx.all (fun y=>S.contains y.2 || scope.names.lookup y.1 != sO .local)=tV:=by rfl) (h6:scope.names.all (fun p=>p.2 != .free || (((clOf scope X.env).lookup p.1).isSome && (X.env.kindOf p.1 == sO .cell || X.env.kindOf p.1 == sO .free)))=tV:=by rfl) :
  PS X (.Assign [.Name y py] (.ListComp elt [⟨tg,iter,ifs,0⟩] scope pos) spos) (fun D σ H=>tLCS S wi g tt te M.length σ H fun v H1=>D.nx (σ.set i (sO v)) H1):=jF hN hi' hy (Vy h1 h2 h3 h4 h5 h6) hc hi hg ht he hs hsw hf
end
section
variable{Q:VK}
theorem yp{K:uc}(Pv:Nat->St->List V->Hp->Prop)(h0:Pv 0 σ [] H)(hl:∀i τ ys H,i<=xs.length->Pv i τ ys H->SqL K H a xs)
  (hs:∀i x τ ys H,xs[i]?=sO x->Pv i τ ys H->g x τ H fun τ2 H2=>tt τ2 H2 fun b H3=>if b=tV then te τ2 H3 fun y H4=>ys.length < sizeLine/\Pv (i+1) τ2 (ys++[y]) H4 else Pv (i+1) τ2 ys H3)
  (hd:∀τ ys H,Pv xs.length τ ys H->∀p,H p=nO->Q (.ref p) (upd H p (.lst ys))):∃W,(∃m,W 0 m σ [] H)/\lcBy (Itl K a) g tt te Q W:=by
 refine⟨fun i m τ ys H=>m=xs.length-i/\i<=xs.length/\Pv i τ ys H,⟨xs.length,by simp,uK _,h0⟩,?_⟩;rintro i m τ ys H ⟨rfl,hi,p⟩;have q:=hl i τ ys H hi p;by_cases hlt:i < xs.length
 ·refine .inr ⟨⟨xs,xs[i],q,by simp[hlt]⟩,Pv (i+1),fun τ' ys' H' p'=>⟨xs.length-(i+1),by lia,rfl,hlt,p'⟩,fun x H' y=>?_⟩
  obtain⟨e,y⟩:=y;subst e;exact hs i x τ ys _ (y xs q) p
 ·have e:i=xs.length:=by lia
  subst e;exact .inl ⟨⟨xs,q,uj _⟩,hd τ ys H p⟩
theorem yZ{lo:Int}(Pv:Nat->St->List V->Hp->Prop)(h0:Pv 0 σ [] H)
  (hs:∀i τ ys H,i < n->Pv i τ ys H->g (.int (lo+i)) τ H fun τ2 H2=>tt τ2 H2 fun b H3=>if b=tV then te τ2 H3 fun y H4=>ys.length < sizeLine/\Pv (i+1) τ2 (ys++[y]) H4 else Pv (i+1) τ2 ys H3)
  (hd:∀τ ys H,Pv n τ ys H->∀p,H p=nO->Q (.ref p) (upd H p (.lst ys))):∃W,(∃m,W 0 m σ [] H)/\lcBy (Itr lo n) g tt te Q W:=by
 refine⟨fun i m τ ys H=>m=n-i/\i<=n/\Pv i τ ys H,⟨n,by simp,uK _,h0⟩,?_⟩;rintro i m τ ys H ⟨rfl,hi,p⟩;by_cases hlt:i < n
 ·refine .inr ⟨hlt,Pv (i+1),fun τ' ys' H' p'=>⟨n-(i+1),by lia,rfl,hlt,p'⟩,fun x H' y=>?_⟩
  obtain⟨e,y⟩:=y;subst e y;exact hs i τ ys _ hlt p
 ·have e:i=n:=by lia
  subst e;exact .inl ⟨uj _,hd τ ys H p⟩
end
end L2
namespace L2
open PySem PySem.Spec PyProof.Rows Builtin Builtin.Str
theorem Xc:OpR X (binaryOp .Mult) (fun x y H Q=>∃z n,x=.str z/\y=.int n/\MulOk z n/\Q (.str (Txt.mul z n)) H):=by
 intro pins s σ H x y v u Q I rx ry h;obtain⟨z,n,rfl,rfl,ok,q⟩:=h;obtain⟨t,rfl⟩:=rx;obtain⟨t',rfl⟩:=ry;exact SB.mul ok fun t'' k=>⟨.str (Txt.mul z n),H,I.tok k,⟨t'',rfl⟩,q⟩
end L2
namespace L2
open PySem PySem.Spec PyProof.Rows
variable{T:String}
def zy:Expr->Bool
 |.Starred ..=>tV
 |_=>fO
theorem zE(h:zy e=fO):starEach (e::es) env=(fO,eval e env)::starEach es env:=by
 cases e<;>first
  |rfl
  |exact absurd (show tV=fO from h) (by decide)
theorem yB{env:Env}{pos:Pos}:∀{es:List Expr},es.all (fun e=>!zy e)=tV->(backTo pos (starEach es env)).any (·.1)=fO
 |[],_=>rfl
 |e::es,h=>by
  rw[List.all_cons,uS]at h;have h1:zy e=fO:=by simpa using h.1
  rw[zE h1];show(fO || (backTo pos (starEach es env)).any (·.1))=fO;rw[yB h.2]
  rfl
section
variable{k:Nat}{dvs:List V}{E:XK}{m:Str}{p:Pos}{t:TA}{r:List V->Hp->VK->Prop}
theorem pa_c(ha:PE X e te)(hr:PA X es t)(h:zy e=fO:=by rfl):PA X (e::es) (z5 te t):=QC ha hr (zE h)
theorem zdF(F:FnOk X.prog X.w X.K X.mg X.base CX k f fd ps sp)(hr:Room k X.A)(hg:Gl X x)(hm:X.mg x=sO (.ref f))(hk:u5 X.K (.ref f)=tV)(hb:Binds X.K fd ps ds)(hd:Vals dvs ds)(hx:yS CX X E)
  (ha:PA X (e::es) t) (hdb:(x == ("__debug__":Str))=fO:=by decide) (h1:zy e=fO:=by rfl) (h2:es.all (fun e=>!zy e)=tV:=by rfl) :
  PE X (.Call (.Name x p) (e::es) [] pos) (Z2 sp dvs E t):=QD F hr hg hm hk hb hd hx ha hdb (zE h1) (yB h2)
theorem zco(hc:xB X (.builtin id) r)(hg:Gl X x)(hm:X.mg x=nO)(hv:bootBuiltins x=sO (.builtin id))(ha:PA X (e::es) t)(hn:x≠"__name__":=by decide)(hdb:(x == ("__debug__":Str))=fO:=by decide)
  (h1:zy e=fO:=by rfl) (h2:es.all (fun e=>!zy e)=tV:=by rfl):PE X (.Call (.Name x p) (e::es) [] pos) (tCB r t):=Vp hc hg hm hv ha hn hdb (zE h1) (yB h2)
theorem QQ(hc:xB X (.type T) r)(hg:Gl X x)(hm:X.mg x=nO)(hv:bootBuiltins x=sO (.type T))(ha:PA X (e::es) t)(hn:x≠"__name__":=by decide)(hdb:(x == ("__debug__":Str))=fO:=by decide)
  (h1:zy e=fO:=by rfl) (h2:es.all (fun e=>!zy e)=tV:=by rfl):PE X (.Call (.Name x p) (e::es) [] pos) (tCB r t):=Wu hc hg hm hv ha hn hdb (zE h1) (yB h2)
end
structure jE(X:Cx)(e:Expr)(t:TE):Prop where
 out:PE X e t
structure jT(X:Cx)(e:Expr)(t:TT):Prop where
 out:PT X e t
structure jW(X:Cx)(e:Expr)(t:TT):Prop where
 out:PW X e t
structure jA(X:Cx)(es:List Expr)(t:TA):Prop where
 out:PA X es t
structure jS(X:Cx)(st:Stmt)(t:TS):Prop where
 out:PS X st t
structure jSs(X:Cx)(sts:List Stmt)(t:TS):Prop where
 out:PSs X sts t
structure jG(X:Cx)(tg:Expr)(t:TG):Prop where
 out:PG X tg t
structure jGs(X:Cx)(tg:List Expr)(t:TGs):Prop where
 out:PGs X tg t
structure jI(X:Cx)(tg iter:Expr)(t:TI):Prop where
 out:PI X tg iter t
structure jO(X:Cx)(e:Option Expr)(t:TO):Prop where
 out:PO X e t
structure jTs(X:Cx)(ifs:List Expr)(t:TT):Prop where
 out:PTs X ifs t
structure jOp(X:Cx)(f:aA->aA->Sem aA)(r:R2):Prop where
 out:OpR X f r
structure jIx(X:Cx)(r:R2):Prop where
 out:IxR X r
structure jSl(X:Cx)(r:V->Option Int->Option Int->Hp->VK->Prop):Prop where
 out:SlR X r
structure jMt(X:Cx)(id:String)(r:V->List V->Hp->VK->Prop):Prop where
 out:MtR X id r
structure jCa(X:Cx)(f:aA)(r:List V->Hp->VK->Prop):Prop where
 out:xB X f r
section
variable{a b c:Expr}{rest:List Expr}{tc:TE}{t u:TA}{tA tB':TT}{p px:Pos}{m:Str}{op':CmpOp}{bop:Operator}{r r':R2}
theorem jv(i:Nat)(hN:X.N[i]?=sO x:=by rfl)(hv:Vis X.env.scope x:=by first|exact Or.inl rfl|exact Or.inr (Or.inl rfl)|exact Or.inr (Or.inr rfl))(hd:(x == ("__debug__":Str))=fO:=by decide)
  (hcd:(x == ("__classdict__":Str))=fO:=by decide):jE X (.Name x pos) (tVar i):=⟨pv i hN hv hd hcd⟩
theorem zo{i j}:jE X (.Constant (.int i) j pos) (tC (.int i)):=⟨zbP⟩
theorem vL{b j}:jE X (.Constant (.bool b) j pos) (tC (.bl b)):=⟨zds⟩
theorem zz{x j}:jE X (.Constant (.str x) j pos) (tC (.str x)):=⟨zbQ⟩
theorem QR{v:V}{w:aA}(hg:Gl X x)(hm:X.mg x=sO w)(r:RelV v w)(hd:(x == ("__debug__":Str))=fO:=by decide):jE X (.Name x pos) (tC v):=⟨Qp hg hm r hd⟩
theorem zx(ho:jOp X (binaryOp bop) r)(ha:jE X a ta)(hb:jE X b tb):jE X (.BinOp a bop b pos) (tOp r ta tb):=⟨zdv ho.out ha.out hb.out⟩
theorem y0(ha:jE X a ta):jE X (.UnaryOp .USub a pos) (tUn (rU fun i=>.int (-i)) ta):=⟨za4 zb8 ha.out⟩
theorem xr(ho:jOp X (compareOp op) r)(ha:jE X a ta)(hb:jE X b tb)(hm:behindInMarks op b=fO):jE X (.Compare a [op] [b] pos) (tOp r ta tb):=⟨Qx ho.out ha.out hb.out hm⟩
theorem Zf(ho:jOp X (compareOp op) r)(ha:jE X a ta)(hb:jE X b tb)(hm:behindInMarks op b=fO):jT X (.Compare a [op] [b] pos) (vH (tOp r ta tb)):=⟨Qy ho.out ha.out hb.out hm⟩
theorem yv(h:jE X e te)(he:∀whole,isTrue e X.env whole=(do let v <- whole;standAt e.pos;holding [v] (truthy v)):=by intro _;rfl):jT X e (tB te):=⟨zbR h.out he⟩
theorem xt(ha:jT X a tA):jW X (.BoolOp .And [a] pos) tA:=⟨pw_and1 ha.out⟩
theorem x9(ha:jT X a tA):jW X (.BoolOp .Or [a] pos) tA:=⟨pw_or1 ha.out⟩
theorem xD(ha:jT X a tA)(hb:jW X (.BoolOp .And (b::rest) pos) tB'):jW X (.BoolOp .And (a::b::rest) pos) (tAnd tA tB'):=⟨pw_and ha.out hb.out⟩
theorem vj(ha:jT X a tA)(hb:jW X (.BoolOp .Or (b::rest) pos) tB'):jW X (.BoolOp .Or (a::b::rest) pos) (tOr tA tB'):=⟨pw_or ha.out hb.out⟩
theorem jW.pt(h:jW X e tA):jT X e tA:=⟨PW.pt h.out⟩
theorem xE(ha:jT X a tA):jT X (.UnaryOp .Not a pos) (tNot tA):=⟨zbS ha.out⟩
theorem VB{op}(h:jE X a te):jE X (.BoolOp op [a] pos) te:=⟨zbT h.out⟩
theorem zcp(ha:jE X a ta)(hb:jE X (.BoolOp .And (b::rest) pos) tb):jE X (.BoolOp .And (a::b::rest) pos) (Vb ta tb):=⟨zbU ha.out hb.out⟩
theorem zdG(ha:jE X a ta)(hb:jE X (.BoolOp .Or (b::rest) pos) tb):jE X (.BoolOp .Or (a::b::rest) pos) (tOrV ta tb):=⟨zdt ha.out hb.out⟩
theorem zcq(ha:jE X a ta):jE X (.UnaryOp .Not a pos) (za1 ta):=⟨zbV ha.out⟩
theorem wq(hc:jT X c tA)(ha:jE X a ta)(hb:jE X b tb):jE X (.IfExp c a b pos) (tIf tA ta tb):=⟨Vc hc.out ha.out hb.out⟩
theorem zL:jA X [] tNil:=⟨zcc⟩
theorem ja_c(ha:jE X e te)(hr:jA X es t)(h:zy e=fO:=by rfl):jA X (e::es) (z5 te t):=⟨pa_c ha.out hr.out h⟩
theorem zC(h:jA X es t):jE X (.List es pos) (tLst t):=⟨zce h.out⟩
theorem zA{x1}(h:jA X es t):jE X (.Tuple es x1 pos) (tTup t):=⟨zcd h.out⟩
theorem Z5(hr:jIx X r)(ha:jE X a ta)(hb:jE X b tb)(hs:j9 b):jE X (.Subscript a b pos) (tOp r ta tb):=⟨zdD hr.out ha.out hb.out hs⟩
theorem yM:jO X nO XO:=⟨QG⟩
theorem yN(h:jE X e te):jO X (sO e) (za8 te):=⟨QH h.out⟩
theorem yC{r:V->Option Int->Option Int->Hp->VK->Prop}{lo hi:Option Expr}{tl th:TO}(hr:jSl X r)(he:jE X e te)(hl:jO X lo tl)(hu:jO X hi th):jE X (.Subscript e (.Slice lo hi nO p2) pos) (tSl r te tl th):=⟨Vr hr.out he.out hl.out hu.out⟩
variable{k:Nat}{dvs:List V}{E:XK}{rc:List V->Hp->VK->Prop}{rm:V->List V->Hp->VK->Prop}
theorem zdH(F:FnOk X.prog X.w X.K X.mg X.base CX k f fd ps sp)(hr:Room k X.A)(hg:Gl X x)(hm:X.mg x=sO (.ref f))(hk:u5 X.K (.ref f)=tV)(hb:Binds X.K fd ps ds)(hd:Vals dvs ds)(hx:yS CX X E)
  (ha:jA X (e::es) t) (hdb:(x == ("__debug__":Str))=fO:=by decide) (h1:zy e=fO:=by rfl) (h2:es.all (fun e=>!zy e)=tV:=by rfl) :
  jE X (.Call (.Name x p) (e::es) [] pos) (Z2 sp dvs E t):=⟨zdF F hr hg hm hk hb hd hx ha.out hdb h1 h2⟩
theorem yj(hc:jCa X (.builtin id) rc)(hg:Gl X x)(hm:X.mg x=nO)(hv:bootBuiltins x=sO (.builtin id))(ha:jA X (e::es) t)(hn:x≠"__name__":=by decide)(hdb:(x == ("__debug__":Str))=fO:=by decide)
  (h1:zy e=fO:=by rfl) (h2:es.all (fun e=>!zy e)=tV:=by rfl):jE X (.Call (.Name x p) (e::es) [] pos) (tCB rc t):=⟨zco hc.out hg hm hv ha.out hn hdb h1 h2⟩
theorem zS(hc:jCa X (.type T) rc)(hg:Gl X x)(hm:X.mg x=nO)(hv:bootBuiltins x=sO (.type T))(ha:jA X (e::es) t)(hn:x≠"__name__":=by decide)(hdb:(x == ("__debug__":Str))=fO:=by decide)
  (h1:zy e=fO:=by rfl) (h2:es.all (fun e=>!zy e)=tV:=by rfl):jE X (.Call (.Name x p) (e::es) [] pos) (tCB rc t):=⟨QQ hc.out hg hm hv ha.out hn hdb h1 h2⟩
theorem Xd(pa:PlainAttrs T)(slot:Slot T name id)(hty:typeOf (.builtin id)=pure (.type "method_descriptor"))(hm:jMt X id rm)(ho:jE X o to)
  (hbase:attributeBase o name X.env (eval o X.env)=eval o X.env:=by rfl) (hline:(apos.endLine == cpos.line)=tV:=by rfl):jE X (.Call (.Attribute o name apos) [] [] cpos) (tBM0 X.K T rm to):=⟨zck pa slot hty hm.out ho.out hbase hline⟩
theorem xg(pa:PlainAttrs T)(slot:Slot T name id)(hty:typeOf (.builtin id)=pure (.type "method_descriptor"))(hm:jMt X id rm)(ho:jE X o to)(ha:jA X (e::es) t)
  (hbase:attributeBase o name X.env (eval o X.env)=eval o X.env:=by rfl)
  (hfew:((backTo cpos (starEach (e::es) X.env)).all (fun x=>!x.1) && (backToKw cpos (keywordEach [] X.env)).all (fun x=>x.1.isSome)
   && decide ((e::es).length+([]:List Keyword).length+(if([]:List Keyword).isEmpty then 0 else 1) < 30))=tV:=by rfl)
  (hline:(apos.endLine == cpos.line)=tV:=by rfl) (h1:zy e=fO:=by rfl) (h2:es.all (fun e=>!zy e)=tV:=by rfl) :
  jE X (.Call (.Attribute o name apos) (e::es) [] cpos) (tBM X.K T rm to t):=⟨zdE pa slot hty hm.out ho.out ha.out hbase hfew hline (zE h1) (yB h2)⟩
variable{sts:List Stmt}{s1 s2:TS}{wi:TI}{tb1:TS}
theorem zB:jSs X [] xA:=⟨Qq⟩
theorem zh(h1:jS X st s1)(h2:jSs X sts s2):jSs X (st::sts) (tSeq s1 s2):=⟨Vd h1.out h2.out⟩
theorem zn(h1:jS X st s1):jSs X [st] s1:=⟨Qr h1.out⟩
theorem yr(he:jE X e te)(hs:swapsWith e nO pos.line X.env=pure fO:=by rfl):jS X (.Expr e pos) (Ve te):=⟨Qs he.out hs⟩
theorem zv(he:jE X e te):jS X (.Return (sO e) pos) (tRet te):=⟨zbW he.out⟩
theorem zH{A B:List Stmt}(hc:jT X c tA)(ha:jSs X A s1)(hb:jSs X B s2):jS X (.If c A B pos) (tIfS tA s1 s2):=⟨zdu hc.out ha.out hb.out⟩
theorem VC(hN:X.N.Nodup)(hi:X.N[i]?=sO x)(hx:Loc X.env.scope x)(he:jE X e te)(hs:swapsWith e (sO (.Name x pos')) pos.line X.env=pure fO:=by rfl)
  (hf:X.fn x=tV\/X.env.scope.names.lookup x=sO .local:=by first|exact .inl rfl|exact .inr rfl|assumption):jS X (.Assign [.Name x pos'] e pos) (tAsg te (xZ i)):=⟨zb0 hN hi hx he.out hs hf⟩
theorem xa(he:jE X e te)(hg:jG X tg g)(hs:swapsWithSole [tg] e pos.line X.env=pure fO:=by rfl)(hw:swappedStores [tg] e X.env=pure nO:=by rfl)(h1:(assignEach [tg] X.env).map (·.2)=[assign tg X.env]:=by rfl):jS X (.Assign [tg] e pos) (tAsg te g):=⟨zbZ he.out hg.out hs hw h1⟩
theorem QS(hN:X.N.Nodup)(hi:X.N[i]?=sO x)(hx:Loc X.env.scope x)(hf:X.fn x=tV\/X.env.scope.names.lookup x=sO .local:=by first|exact .inl rfl|exact .inr rfl|assumption):jG X (.Name x pos) (xZ i):=⟨Qt hN hi hx hf⟩
theorem zJ:jGs X [] gNil:=⟨Qu⟩
theorem zu(h1:jG X e g)(h2:jGs X es gs)(hs:(assignEach (e::es) X.env).map (·.2)=assign e X.env::(assignEach es X.env).map (·.2):=by rfl):jGs X (e::es) (za2 g gs):=⟨Vf h1.out h2.out hs⟩
theorem zcr(hc:X.calm=tV)(h:jGs X es gs)(hn:(assignEach es X.env).length=n:=by rfl)(hst:(assignEach es X.env).findIdx? (·.1)=nO:=by rfl):jG X (.Tuple es k pos) (gTup X.K n gs):=⟨zbX hc h.out hn hst⟩
theorem QT{l:Expr}(hl:jE X l tl):jI X tg l (Vi X.K tl):=⟨Qv hl.out⟩
theorem zcs{l:Expr}(hl:jE X l tl):jI X tg l (iTup X.K tl):=⟨zb1 hl.out⟩
theorem yz(hg:Gl X "range")(hm:X.mg "range"=nO)(ha:jA X [a] t)(h:zy a=fO:=by rfl):jI X tg (.Call (.Name "range" p) [a] [] pos) (za3 t):=⟨Wp hg hm ha.out (zE h)⟩
theorem ya(hp:PassesOwn (model X.prog X.w) X.A X.env X.xe)(hc:X.calm=tV)(hi:jI X tg iter wi)(hg:jG X tg g)(hb:jSs X sts tb1)(hs:∀x,foldedSetIterable iter X.env x=pure x:=by intro _;rfl):jS X (.For tg iter sts [] pos) (tFor wi g tb1):=⟨zb2 hp hc hi.out hg.out hb.out hs⟩
theorem Z6(hp:PassesOwn (model X.prog X.w) X.A X.env X.xe)(hc:jT X c tA)(hb:jSs X sts tb1):jS X (.While c sts [] pos) (Vg tA tb1):=⟨Vh hp hc.out hb.out⟩
theorem zW:jTs X [] tYes:=⟨QM⟩
theorem yt(h:jT X c tA):jTs X [c] tA:=⟨QN h.out⟩
theorem yg(M:lS)(hc:X.calm=tV)(hi:jI X tg iter wi)(hg:∀C s H ex E,jG (cxLC X scope (clOf scope X.env) M C s H ex E) tg g)(ht:∀C s H ex E,jTs (cxLC X scope (clOf scope X.env) M C s H ex E) ifs tt)
  (he:∀C s H ex E,jE (cxLC X scope (clOf scope X.env) M C s H ex E) elt te) (hs:∀x,foldedSetIterable iter X.env x=pure x:=by intro _;rfl)
  (h1:closureFor scope X.env=pure (clOf scope X.env):=by with_unfolding_all rfl) (h2:scope.kind=.function:=by rfl) (h3:scope.names.all (fun y=>y.2 != .cell)=tV:=by rfl) (h4:scope.names.all (fun y=>y.2 != .local || scope.names.lookup y.1 == sO .local)=tV:=by rfl)
  (h5:X.N.all (fun y=>scope.names.lookup y != sO .local)=tV:=by rfl) (h6:scope.names.all (fun p=>p.2 != .free || (((clOf scope X.env).lookup p.1).isSome && (X.env.kindOf p.1 == sO .cell || X.env.kindOf p.1 == sO .free)))=tV:=by rfl) :
  jE X (.ListComp elt [⟨tg,iter,ifs,0⟩] scope pos) (tLC wi g tt te M.length):=⟨QO M hc hi.out (fun C s H ex E=>(hg C s H ex E).out) (fun C s H ex E=>(ht C s H ex E).out) (fun C s H ex E=>(he C s H ex E).out) hs h1 h2 h3 h4 h5 h6⟩
theorem yu(M:lS)(hN:X.N.Nodup)(hi':X.N[i]?=sO y)(hy:Loc X.env.scope y)(hc:X.calm=tV)(hi:jI X tg iter wi)(hg:∀C s H ex E,jG (cxLC X scope (clOf scope X.env) M C s H ex E) tg g)
  (ht:∀C s H ex E,jTs (cxLC X scope (clOf scope X.env) M C s H ex E) ifs tt) (he:∀C s H ex E,jE (cxLC X scope (clOf scope X.env) M C s H ex E) elt te) (hs:∀x,foldedSetIterable iter X.env x=pure x:=by intro _;rfl)
  (hsw:swapsWith (.ListComp elt [⟨tg,iter,ifs,0⟩] scope pos) (sO (.Name y py)) spos.line X.env=pure tV:=by rfl)
  (hf:X.fn y=tV\/X.env.scope.names.lookup y=sO .local:=by first|exact .inl rfl|exact .inr rfl|assumption)
  (h1:closureFor scope X.env=pure (clOf scope X.env):=by with_unfolding_all rfl) (h2:scope.kind=.function:=by rfl) (h3:scope.names.all (fun y=>y.2 != .cell)=tV:=by rfl) (h4:scope.names.all (fun y=>y.2 != .local || scope.names.lookup y.1 == sO .local)=tV:=by rfl)
  (h5:X.N.all (fun y=>scope.names.lookup y != sO .local)=tV:=by rfl) (h6:scope.names.all (fun p=>p.2 != .free || (((clOf scope X.env).lookup p.1).isSome && (X.env.kindOf p.1 == sO .cell || X.env.kindOf p.1 == sO .free)))=tV:=by rfl) :
  jS X (.Assign [.Name y py] (.ListComp elt [⟨tg,iter,ifs,0⟩] scope pos) spos) (fun D σ H=>tLC wi g tt te M.length σ H fun v H1=>D.nx (σ.set i (sO v)) H1) :=
 ⟨QP M hN hi' hy hc hi.out (fun C s H ex E=>(hg C s H ex E).out) (fun C s H ex E=>(ht C s H ex E).out) (fun C s H ex E=>(he C s H ex E).out) hs hsw hf h1 h2 h3 h4 h5 h6⟩
theorem Z7(S:List Nat)(M:lS)(hc:X.calm=tV)(hi:jI X tg iter wi)(hg:∀C s H ex E,jG (cxLC X scope (clOf scope X.env) M C s H ex E) tg g)(ht:∀C s H ex E,jTs (cxLC X scope (clOf scope X.env) M C s H ex E) ifs tt)
  (he:∀C s H ex E,jE (cxLC X scope (clOf scope X.env) M C s H ex E) elt te) (hs:∀x,foldedSetIterable iter X.env x=pure x:=by intro _;rfl)
  (h1:closureFor scope X.env=pure (clOf scope X.env):=by with_unfolding_all rfl) (h2:scope.kind=.function:=by rfl) (h3:scope.names.all (fun y=>y.2 != .cell)=tV:=by rfl) (h4:scope.names.all (fun y=>y.2 != .local || scope.names.lookup y.1 == sO .local)=tV:=by rfl)
  (h5:X.N.zipIdx.all (fun y=>S.contains y.2 || scope.names.lookup y.1 != sO .local)=tV:=by rfl) (h6:scope.names.all (fun p=>p.2 != .free || (((clOf scope X.env).lookup p.1).isSome && (X.env.kindOf p.1 == sO .cell || X.env.kindOf p.1 == sO .free)))=tV:=by rfl) :
  jE X (.ListComp elt [⟨tg,iter,ifs,0⟩] scope pos) (tLCS S wi g tt te M.length):=⟨Vz S M hc hi.out (fun C s H ex E=>(hg C s H ex E).out) (fun C s H ex E=>(ht C s H ex E).out) (fun C s H ex E=>(he C s H ex E).out) hs h1 h2 h3 h4 h5 h6⟩
theorem VD(S:List Nat)(M:lS)(hN:X.N.Nodup)(hi':X.N[i]?=sO y)(hy:Loc X.env.scope y)(hc:X.calm=tV)(hi:jI X tg iter wi)(hg:∀C s H ex E,jG (cxLC X scope (clOf scope X.env) M C s H ex E) tg g)
  (ht:∀C s H ex E,jTs (cxLC X scope (clOf scope X.env) M C s H ex E) ifs tt) (he:∀C s H ex E,jE (cxLC X scope (clOf scope X.env) M C s H ex E) elt te) (hs:∀x,foldedSetIterable iter X.env x=pure x:=by intro _;rfl)
  (hsw:swapsWith (.ListComp elt [⟨tg,iter,ifs,0⟩] scope pos) (sO (.Name y py)) spos.line X.env=pure tV:=by rfl)
  (hf:X.fn y=tV\/X.env.scope.names.lookup y=sO .local:=by first|exact .inl rfl|exact .inr rfl|assumption)
  (h1:closureFor scope X.env=pure (clOf scope X.env):=by with_unfolding_all rfl) (h2:scope.kind=.function:=by rfl) (h3:scope.names.all (fun y=>y.2 != .cell)=tV:=by rfl) (h4:scope.names.all (fun y=>y.2 != .local || scope.names.lookup y.1 == sO .local)=tV:=by rfl)
  (h5:X.N.zipIdx.all (fun y=>S.contains y.2 || scope.names.lookup y.1 != sO .local)=tV:=by rfl) (h6:scope.names.all (fun p=>p.2 != .free || (((clOf scope X.env).lookup p.1).isSome && (X.env.kindOf p.1 == sO .cell || X.env.kindOf p.1 == sO .free)))=tV:=by rfl) :
  jS X (.Assign [.Name y py] (.ListComp elt [⟨tg,iter,ifs,0⟩] scope pos) spos) (fun D σ H=>tLCS S wi g tt te M.length σ H fun v H1=>D.nx (σ.set i (sO v)) H1) :=
 ⟨VA S M hN hi' hy hc hi.out (fun C s H ex E=>(hg C s H ex E).out) (fun C s H ex E=>(ht C s H ex E).out) (fun C s H ex E=>(he C s H ex E).out) hs hsw hf h1 h2 h3 h4 h5 h6⟩
theorem yh:jOp X (binaryOp .Add) (rI0 fun i j=>.int (i+j)):=⟨zb3⟩
theorem xu:jOp X (binaryOp .Sub) (rI0 fun i j=>.int (i-j)):=⟨zb4⟩
theorem wc:jOp X (binaryOp .Mult) (rI CMul fun i j=>.int (i*j)):=⟨zb5⟩
theorem yU:jOp X (binaryOp .FloorDiv) (rI CDiv fun i j=>.int (i / j)):=⟨Qw⟩
theorem yH:jOp X (binaryOp .Mod) (rI (fun _ j=>0 < j) fun i j=>.int (i % j)):=⟨zb6⟩
theorem zM:jOp X (compareOp .Eq) rEq:=⟨zdx⟩
theorem VE:jOp X (compareOp .NotEq) rNe:=⟨zdy⟩
theorem vk:jOp X (compareOp .Lt) (rI0 fun i j=>.bl (decide (i < j))):=⟨zdz⟩
theorem zbd:jOp X (compareOp .LtE) (rI0 fun i j=>.bl (decide (i<=j))):=⟨zdA⟩
theorem jH:jOp X (compareOp .Gt) (rI0 fun i j=>.bl (decide (j < i))):=⟨zdB⟩
theorem zdI:jOp X (compareOp .GtE) (rI0 fun i j=>.bl (decide (j<=i))):=⟨zdC⟩
theorem WA:jOp X (compareOp .In) (rIn X.K fO):=⟨Wv⟩
theorem Zg:jOp X (compareOp .NotIn) (rIn X.K tV):=⟨Zb⟩
theorem yL:jOp X (binaryOp .Add) (fun x y H Q=>∃i j,x=.str i/\y=.str j/\i.length+j.length<=sizeLine/\Q (.str (i++j)) H):=⟨Y1⟩
theorem vM:jOp X (binaryOp .Mult) (fun x y H Q=>∃z n,x=.str z/\y=.int n/\MulOk z n/\Q (.str (Txt.mul z n)) H):=⟨Xc⟩
theorem yw:jOp X (binaryOp .Add) rCat:=⟨zcm⟩
theorem wr:jOp X (binaryOp .Add) (za9 X.K):=⟨QI⟩
theorem XT:jIx X (rIxL X.K):=⟨QJ⟩
theorem VF:jIx X (rIxT X.K):=⟨zch⟩
theorem Xe:jIx X rIxS:=⟨zci⟩
theorem QU:jSl X (rSlL X.K):=⟨QK⟩
theorem z6:jMt X "list.append" Ze:=⟨Ww⟩
theorem VG:jMt X "list.pop" rPop:=⟨zcl⟩
theorem Xf:jCa X (.builtin "len") (fun xs H Q=>∃p ys,xs=[.ref p]/\(SqL X.K H p ys\/SqT X.K H p ys)/\Q (.int ys.length) H):=⟨Zc⟩
theorem Z8:jCa X (.type "tuple") (fun xs H Q=>∃p ys,xs=[.ref p]/\((SqL X.K H p ys/\∀l,H l=nO->Q (.ref l) (upd H l (.tup ys)))\/(SqT X.K H p ys/\Q (.ref p) H))):=⟨jp⟩
theorem Xg:jCa X (.type "list") (fun xs H Q=>∃p ys,xs=[.ref p]/\(SqL X.K H p ys\/SqT X.K H p ys)/\∀l,H l=nO->Q (.ref l) (upd H l (.lst ys))):=⟨Zd⟩
end
section
variable{K:uc}
theorem Fun.by{k:Nat}(F:Fun K x qual st f fd)(S:FnScope N ps (zt st))(len:∀vs H Q E,sp vs H Q E->vs.length=ps.length)
  (hbody:∀(cdv:aA)(A:Around)(outer:List Env)(s:Shared)(H:Hp)(vs:List V)(Q:VK)(E:XK),Room k (A.deeper (envOfC qual (zt st) s.heap.objs.size f cdv))->sp vs H Q E ->
   ∃t,jSs (cxOf CX0 P w K mg base N qual (zt st) f cdv A outer s H E).nox (zO st) t/\t { nx:=fun _ H'=>Q .non H',rt:=Q } (start N vs) H):FnOk P w K mg base CX0 (k+1) f fd ps sp :=
 F.ok S len fun cdv A outer s H vs Q E hr h=>let ⟨t,b,q⟩:=hbody cdv A outer s H vs Q E hr h;⟨t,b.out,q⟩
end
end L2
namespace L2
open PySem PySem.W PySem.Calls PyProof.Rows Builtin Builtin.ObjectAttr
def bmV:List aA:=[.type "ValueError",.type "Exception",.type "BaseException",.type "object"]
def zdJ:List aA->Bool
 |[]=>fO
 |v::r=>(v::r) == bmV || (match v with
  |.ref _=>zdJ r
  |_=>fO)
end L2
namespace L2
open PySem PySem.Spec PyProof.Rows
abbrev Ends.behind(D:Ends)(i:Nat):Ends:={ nx:=fun σ H=>D.nx (σ.set i nO) H,rt:=D.rt,bk:=fun σ H=>D.bk (σ.set i nO) H,ct:=fun σ H=>D.ct (σ.set i nO) H }
theorem Inv.turns(I:Inv X pins σ H s)(k:∀b o,b∉ch->s.heap.get? b=sO o->h'.get? b=sO o)(hf:∀b∈ch,FpOk X pins H b):Inv X pins σ H { s with heap:=h',toks:=t' }:=by
 have nit:∀b u,H b=sO u->b∉ch:=fun b u e z=>by rw[(hf b z).1]at e;cases e
 refine I.call (g':=s.gens) (d':=s.drawn) (t':=t') (ch:=ch) ⟨fun b o q _ _ x=>k b o x q,fun b o q _ _ x=>⟨o.slots,k b o x q⟩,fun _ _ _ n _=>n,fun b o q x=>⟨o,k b o x q⟩,fun _ _ q=>q,fun _ _ _ q=>q,fun _ ps q=>⟨#[],by rw[q];simp⟩⟩
  (fun b u e=>(I.hok b u e).stay (fun c v hc q=>k c v ?_ q) (fun _ q=>q) fun _ _ q=>q) I.bare fun b hb=>?_
 ·rcases hc with z|z
  ·rw[z];exact nit b u e
  ·exact nit c _ z
 ·obtain⟨f0,f1,f2,f3,f4,f5⟩:=hf b hb
  exact⟨f3,f1,f4,f5⟩
theorem Inv.turnsLaid{o:HO}(I:Inv X pins σ H s)(k:∀b o,b∉ch->s.heap.get? b=sO o->h'.get? b=sO o)(hf:∀b∈ch,FpOk X pins H b)(hp:s.heap.objs.size<=a)(new:ObjOk X.prog X.w (upd H a o) h' a o):
  Inv X pins σ (upd H a o) { s with heap:=h',toks:=t' }:=by
 have hn:=I.hok.fresh hp;have nit:∀b u,H b=sO u->b∉ch:=fun b u e z=>by rw[(hf b z).1]at e;cases e
 refine I.call (g':=s.gens) (d':=s.drawn) (t':=t') (ch:=ch) ⟨fun b o q _ _ x=>k b o x q,fun b o q _ _ x=>⟨o.slots,k b o x q⟩,fun b u q n _=>by rw[zj (uT (uJ (uC q) hp))];exact n,fun b o q x=>⟨o,k b o x q⟩,
   fun b xs q=>by rw[zj (zi q hn)];exact q,fun b u xs q=>by rw[zj (zi q hn)];exact q,fun b ps q=>⟨#[],by rw[zj (zi q hn),q];simp⟩⟩
  (fun b u e=>?_) I.bare fun b hb=>?_
 ·by_cases hb:b=a
  ·subst hb
   rw[uX9]at e;cases e;exact new
  ·rw[zj hb]at e
   refine(I.hok b u e).stay (fun c v hc q=>k c v ?_ q) (fun c q=>by rw[zj (zi q hn)];exact q) fun c xs q=>by rw[zj (zi q hn)];exact q
   rcases hc with z|z
   ·rw[z];exact nit b u e
   ·exact nit c _ z
 ·obtain⟨f0,f1,f2,f3,f4,f5⟩:=hf b hb
  exact⟨f3,f1,f4,f5⟩
end L2
namespace L2
open PySem PySem.Spec PyProof.Rows Builtin Builtin.Str
theorem wu:∀{zs:lS}{us:List aA},Vals (zs.map V.str) us->∃l:List (Str×Tok),us=strValues l/\l.map (·.1)=zs
 |[],_,.nil=>⟨[],rfl,rfl⟩
 |z::zs,_,.cons ⟨t,e⟩ r=>by
  obtain⟨l,rfl,h⟩:=wu r;exact⟨(z,t)::l,by rw[e];rfl,by rw[uF,h]⟩
theorem Ya(sep:Str):∀(zs:lS)(a:Nat),zs.foldl (· + ·.length+sep.length) a=a+((zs.map (·.length)).sum+zs.length*sep.length)
 |[],a=>by simp
 |z::zs,a=>by
  rw[UJ,Ya sep zs];simp only[uF,Uy,um,tw,Nat.one_mul]
  lia
def wide(sep:Str)(zs:lS):Nat:=(zs.map (·.length)).sum+zs.length*sep.length
def zbe(K:uc):V->List V->Hp->VK->Prop:=fun x vs H Q=>∃sep p zs,x=.str sep/\vs=[.ref p]/\SqL K H p (zs.map V.str)/\wide sep zs<=sizeLine/\Q (.str (Str.join sep zs)) H
theorem QV:MtR X "str.join" (zbe X.K):=by
 intro pins s σ H x vs v us Q I rx rv h;obtain⟨sep,p,zs,rfl,rfl,hq,hw,q⟩:=h;obtain⟨t,rfl⟩:=rx;obtain⟨u,rfl,ru⟩:=rv.one;cases ru;obtain⟨its,r,pl,hz⟩:=I.list hq;obtain⟨l,rfl,hl⟩:=wu r;have big:tooLong ((l.map (·.1)).toArray.foldl (· + ·.length+sep.length) 0)=fO:=by
  rw[hl,List.foldl_toArray,Ya];unfold tooLong;rw[decide_eq_false_iff_not];unfold wide at hw;lia
 have hg:=size_glued sep zs;have hle:(glued sep zs).length<=sizeLine:=by
  rw[hg];unfold wide at hw
  have:(zs.length-1)*sep.length<=zs.length*sep.length:=U0 _ (Nat.sub_le _ _)
  lia
 refine call_meets F.slot_str_join (typeIs_str _ _ _) F.entry_str_join (F.args_str_join_2 _ _) (meets_str_join_list sep t p l big) ⟨pl.isList,?_⟩;rw[<- StrLaws.glued_eq_join]at q
 match l,hl with
 |[],hl=>exact⟨by rw[hl];exact hle,.str _,H,I.tok _,⟨_,rfl⟩,by rw[hl];exact q⟩
 |[(z,tz)],hl =>
  have e:glued sep zs=z:=by
   rw[<- hl]
   rfl
  rw[e]at q;exact⟨.str z,H,I,⟨tz,rfl⟩,q⟩
 |a::b::r,hl=>exact⟨by rw[hl];exact hle,.str _,H,I.tok _,⟨_,rfl⟩,by rw[hl];exact q⟩
theorem QW:jMt X "str.join" (zbe X.K):=⟨QV⟩
def rEqE(K:uc)(neg:Bool):R2:=fun x y H Q=>∃p p' xs,x=.ref p/\y=.ref p'/\SqL K H p xs/\SqL K H p' []/\Q (.bl (if neg then !xs.isEmpty else xs.isEmpty)) H
theorem zct(hu:X.A.units < cLine):OpR X (compareOp .Eq) (rEqE X.K fO):=by
 intro pins s σ H x y v u Q I rx ry h;obtain⟨p,p',xs,rfl,rfl,h1,h2,q⟩:=h;cases rx;cases ry;obtain⟨its,r,pl,_⟩:=I.list h1;obtain⟨its',r',pl',_⟩:=I.list h2;cases r';cases r with
 |nil=>exact SeqAt.eq_listAt (e:=fun _=>tV) pl.isList pl'.isList rfl hu (fun j h=>absurd h (tQ _)) ⟨.bl tV,H,I,rfl,q⟩
 |cons a b=>exact SeqAt.eq_list_lengthsAt pl.isList pl'.isList rfl hu ⟨.bl fO,H,I,rfl,q⟩
theorem zcu(hu:X.A.units < cLine):OpR X (compareOp .NotEq) (rEqE X.K tV):=by
 intro pins s σ H x y v u Q I rx ry h;obtain⟨p,p',xs,rfl,rfl,h1,h2,q⟩:=h;cases rx;cases ry;obtain⟨its,r,pl,_⟩:=I.list h1;obtain⟨its',r',pl',_⟩:=I.list h2;cases r';cases r with
 |nil=>exact SeqAt.RcNeAt.lists (e:=fun _=>tV) pl.isList pl'.isList rfl hu (fun j h=>absurd h (tQ _)) _ _ _ _ ⟨.bl fO,H,I,rfl,q⟩
 |cons a b=>exact SeqAt.RcNeAt.lists_lengths pl.isList pl'.isList rfl hu _ _ _ _ ⟨.bl tV,H,I,rfl,q⟩
theorem Xh{k:Nat}(hr:Room k X.A):jOp X (compareOp .Eq) (rEqE X.K fO):=⟨zct hr.units0⟩
theorem VH{k:Nat}(hr:Room k X.A):jOp X (compareOp .NotEq) (rEqE X.K tV):=⟨zcu hr.units0⟩
end L2
namespace L2
open PySem PySem.Spec PyProof.Rows
variable{xs:Array aA}{j:aO}{x g:aA}{Q:Option aA->Shared->Prop}{f:Nat->List V}{m:Bool}{r N:Nat}{p:Pos}
def Sq(k:Bool)(h:Heap)(l:aO)(xs:Array aA):Prop:=match k with
 |true=>h.IsList l xs
 |false=>h.IsTuple l xs
def SqI(k:Bool)(h:Heap)(j l:aO)(n:Nat):Prop:=match k with
 |true=>h.IsListIter j l n
 |false=>h.IsTupleIter j l n
def SqN(k:Bool):String:=if k then "list_iterator"else "tuple_iterator"
theorem Sq.at{k:Bool}{l:aO}(x:Sq k h l xs)(e:∀o,h.get? l=sO o->h'.get? l=sO o):Sq k h' l xs:=by
 cases k<;>obtain⟨o,ho,r⟩:=x<;>exact⟨o,e _ ho,r⟩
theorem SqI.at{k:Bool}{l:aO}(x:SqI k h j l n)(e:∀o,h.get? j=sO o->h'.get? j=sO o):SqI k h' j l n:=by
 cases k<;>obtain⟨o,ho,r⟩:=x<;>exact⟨o,e _ ho,r⟩
theorem SqI.ex{k:Bool}{l:aO}(x:SqI k h j l n):∃o,h.get? j=sO o/\o.cls=.type (SqN k)/\o.data=.fields #[.ref l,.int n 0]:=by
 cases k<;>exact x
theorem SqI.of{k:Bool}{l:aO}(x:∃o,h.get? j=sO o/\o.cls=.type (SqN k)/\o.data=.fields #[.ref l,.int n 0]):SqI k h j l n:=by
 cases k<;>exact x
theorem VI{l:aO}{Q:VSP}(hj:s.heap.IsTupleIter j l n)(hl:s.heap.IsTuple l xs)(hx:xs[n]?=sO x)
  (q:∀h',h'.IsTupleIter j l (n+1)->Heap.SameBut j s.heap h'->Q x { s with heap:=h' }):wpAny (model P w) A (Uh (.ref j)) Q E s:=by
 have⟨oj,hoj,cj,dj⟩:=hj;have⟨ol,hol,_,m,dl⟩:=hl;unfold Uh;refine bA (wpAny_callSpecial?_slot hj.typeIs F.slot_tuple_iterator_next (wpAny_call_entry F.slot_tuple_iterator_next hj.typeIs F.entry_tuple_iterator_next ?_ (F.args_tuple_iterator_next_1 (.ref j))));refine bA (m:=field (.ref j) 0) (wpAny_field hoj dj (x:=.ref l) rfl ?_);have nn:¬ ((Value.ref l == Value.none)=tV):=uE;show wpAny _ _ (ite ((Value.ref l == Value.none)=tV) _ _) _ _ _;rw[iN nn];refine bA (m:=field (.ref j) 1) (wpAny_field hoj dj (x:=.int n 0) rfl ?_);refine bA (m:=seqItems? (.ref l)) (wpAny_seqItems hol dl ?_);simp only[UR,hx]
 refine bA (wpAny_setField hoj dj (by simp) (pO ⟨x,rfl,pO (q _ ⟨_,UB _ hoj (Obj.isFreed_of_fields (Obj.data_mapFields dj _)),(Obj.cls_mapFields ..).trans cj,?_⟩ (Heap.SameBut.update ..))⟩));rw[Obj.data_mapFields dj];simp[rawInt]
theorem QX{l:aO}{Q:VSP}(hA:A.handled=nO)(hj:s.heap.IsTupleIter j l n)(hl:s.heap.IsTuple l xs)(hx:xs[n]?=nO)
  (q:∀h' e,Heap.ExtBut j s.heap h'->(∃o,h'.get? e=sO o/\o.cls=.type "StopIteration")->E (.ref e) { s with heap:=h' }):wpAny (model P w) A (Uh (.ref j)) Q E s:=by
 have⟨oj,hoj,cj,dj⟩:=hj;have⟨ol,hol,_,m,dl⟩:=hl;unfold Uh;refine bA (wpAny_callSpecial?_slot hj.typeIs F.slot_tuple_iterator_next (wpAny_call_entry F.slot_tuple_iterator_next hj.typeIs F.entry_tuple_iterator_next ?_ (F.args_tuple_iterator_next_1 (.ref j))));refine bA (m:=field (.ref j) 0) (wpAny_field hoj dj (x:=.ref l) rfl ?_);have nn:¬ ((Value.ref l == Value.none)=tV):=uE;show wpAny _ _ (ite ((Value.ref l == Value.none)=tV) _ _) _ _ _;rw[iN nn];refine bA (m:=field (.ref j) 1) (wpAny_field hoj dj (x:=.int n 0) rfl ?_);refine bA (m:=seqItems? (.ref l)) (wpAny_seqItems hol dl ?_);simp only[UR,hx]
 refine bA (wpAny_rule (bA (wpAny_setField hoj dj (by simp) ?_)));refine bA (m:=newExc (.type "StopIteration") []) ?_;unfold newExc newTuple;refine bA (wpAny_newObj_type (bA (m:=firstArgMember _ _) (wpAny_of_eq (a:=Value.none) (by first|rfl|(simp only[firstArgMember];rfl)) (wpAny_newObj_type ?_ (by size_fits)))) (by size_fits));unfold raiseNew;refine bA (wpAny_handled ?_);rw[show A.in1.handled=nO from hA];exact bA (pO (wpAny_throw (q _ _ (((Heap.SameBut.update ..).extBut.push _).push _) ⟨_,uu _ rfl,rfl⟩)))
theorem QY{k:Bool}{l:aO}{Q:VSP}(hj:SqI k s.heap j l n)(hl:Sq k s.heap l xs)(hx:xs[n]?=sO x)
  (q:∀h',SqI k h' j l (n+1)->Heap.SameBut j s.heap h'->Q x { s with heap:=h' }):wpAny (model P w) A (Uh (.ref j)) Q E s:=by
 cases k with
 |true=>exact wpAny_nextOf_list_item hj hl hx q
 |false=>exact VI hj hl hx q
theorem zcv{k:Bool}{l:aO}{Q:VSP}(hA:A.handled=nO)(hj:SqI k s.heap j l n)(hl:Sq k s.heap l xs)(hx:xs[n]?=nO)
  (q:∀h' e,Heap.ExtBut j s.heap h'->(∃o,h'.get? e=sO o/\o.cls=.type "StopIteration")->E (.ref e) { s with heap:=h' }):wpAny (model P w) A (Uh (.ref j)) Q E s:=by
 cases k with
 |true=>exact wpAny_nextOf_list_end hA hj hl hx q
 |false=>exact QX hA hj hl hx q
theorem ww{k:Bool}{l:aO}{Q:VSP}(hl:Sq k s.heap l xs)(q:Q (.ref s.heap.objs.size) { s with heap:=s.heap.push { cls:=.type (SqN k),data:=.fields #[.ref l,.int 0 0] } }):
  wpAny (model P w) A (pyIter (.ref l)) Q E s:=by
 cases k with
 |true=>exact wpAny_pyIter_list hl q
 |false=>exact wpAny_pyIter_tuple hl q
abbrev za(k:Bool)(h:Heap)(l:aO):Heap:=h.push { cls:=.type (SqN k),data:=.fields #[.ref l,.int 0 0] }
abbrev zb(k m:Bool)(h:Heap)(l r:aO):Heap:=za m (za k h l) r
abbrev zc(k m:Bool)(h:Heap)(l r:aO):Heap:=(zb k m h l r).push { cls:=.type "tuple",data:=.seq #[.ref h.objs.size,.ref (za k h l).objs.size] }
abbrev zd(k m:Bool)(h:Heap)(l r:aO):Heap:=(zc k m h l r).push { cls:=.type "tuple",data:=.seq #[.none,.none] }
abbrev ze(k m:Bool)(h:Heap)(l r:aO):Heap:=(zd k m h l r).push { cls:=.type "zip",data:=.fields #[.none,.bool fO,.bool fO,.ref (zb k m h l r).objs.size,.ref (zc k m h l r).objs.size] }
theorem VJ(k m:Bool)(l r:aO)(xs ys:Array aA):Meets (Builtin.«zip.__new__» ⟨[.type "zip",.ref l,.ref r],[]⟩)
  (fun _ R s=>Sq k s.heap l xs/\Sq m s.heap r ys/\R (.ok (.ret (.ref (zd k m s.heap l r).objs.size))) { s with heap:=ze k m s.heap l r }) :=
 .of_wp fun prog w A R s h=>by
  obtain⟨hp,g,d,tk,os⟩:=s;obtain⟨h1,h2,h⟩:=h;have hs:=sub_zip;have q1:Sq k (Shared.heap ⟨hp,g,d,tk,os⟩) l xs:=h1;have q2:Sq m (Shared.heap ⟨za k hp l,g,d,tk,os⟩) r ys:=h2.at fun o e=>ue _ e
  wp_walk using ww q1,ww q2
  exact⟨_,rfl,h⟩
structure ZN(zs:List (Bool×Nat))(h:Heap)(B n:Nat)(f g:aA):Prop where
 z:h.get? (B+zs.length+2)=sO { cls:=.type "zip",data:=.fields #[f,g,.bool fO,.ref (B+zs.length),.ref (B+zs.length+1)] }
 ti:h.get? (B+zs.length)=sO { cls:=.type "tuple",data:=.seq ((uM zs.length).map fun j=>Value.ref (B+j)).toArray }
 to:∃us:Array aA,us.size=zs.length/\h.get? (B+zs.length+1)=sO { cls:=.type "tuple",data:=.seq us }
 it:∀(j:Nat) k l,zs[j]?=sO (k,l)->SqI k h (B+j) l n
theorem ZN.at{f:aA}(x:ZN zs h B n f g)(e:∀(b:Nat) o,B<=b->b<=B+zs.length+2->h.get? b=sO o->h'.get? b=sO o):ZN zs h' B n f g where
 z:=e _ _ (by lia) (by lia) x.z
 ti:=e _ _ (by lia) (by lia) x.ti
 to:=let ⟨us,c,y⟩:=x.to;⟨us,c,e _ _ (by lia) (by lia) y⟩
 it:=fun j k l hj=>(x.it j k l hj).at fun o=>e _ o (by lia) (by have:=(ud.mp hj).1;lia)
def KeptN(B N:Nat)(h h':Heap):Prop:=∀(c:Nat) o,(c < B\/B+N+2 < c)->h.get? c=sO o->h'.get? c=sO o
def AtN(zs:List (Bool×Nat))(h:Heap)(B n:Nat)(va:Nat->Option aA):Prop:=∀(j:Nat) k l,zs[j]?=sO (k,l)->l < B/\∃xs:Array aA,Sq k h l xs/\xs[n]?=va j
structure ZW(zs:List (Bool×Nat))(h0 h:Heap)(B n j:Nat)(f g:aA)(us:Array aA):Prop where
 z:h.get? (B+zs.length+2)=sO { cls:=.type "zip",data:=.fields #[f,g,.bool fO,.ref (B+zs.length),.ref (B+zs.length+1)] }
 ti:h.get? (B+zs.length)=sO { cls:=.type "tuple",data:=.seq ((uM zs.length).map fun j=>Value.ref (B+j)).toArray }
 ts:us.size=zs.length
 to:h.get? (B+zs.length+1)=sO { cls:=.type "tuple",data:=.seq us }
 it:∀(i:Nat) k l,zs[i]?=sO (k,l)->SqI k h (B+i) l (if i < j then n+1 else n)
 kp:KeptN B zs.length h0 h
 sz:h.objs.size=h0.objs.size
theorem ZW.next{h2:Heap}{j l:Nat}{k:Bool}{f:aA}{us:Array aA}(W:ZW zs h0 h B n j f g us)(hj:zs[j]?=sO (k,l))(i2:SqI k h2 (B+j) l (n+1))(u2:Heap.SameBut (B+j) h h2):ZW zs h0 h2 B n (j+1) f g us:=by
 have jl:=(ud.mp hj).1;have k2:∀(c:Nat) o,c≠B+j->h.get? c=sO o->h2.get? c=sO o:=fun c o n e=>(u2.2 c n).trans e;refine⟨k2 _ _ (by lia) W.z,k2 _ _ (by lia) W.ti,W.ts,k2 _ _ (by lia) W.to,fun i k' l' hi=>?_,fun c o hc e=>k2 _ _ (by lia) (W.kp c o hc e),by rw[u2.1,W.sz]⟩;by_cases c:i=j
 ·subst c
  rw[hj]at hi;cases hi;rw[iP (UW _)];exact i2
 ·simp only[Nat.lt_succ_iff_lt_or_eq,c,or_false]
  exact(W.it i k' l' hi).at fun o e=>k2 _ o (by lia) e
theorem ZW.done{h9:Heap}{j:Nat}{f f' g':aA}{us:Array aA}(W:ZW zs h0 h B n zs.length f g us)(k9:∀(c:Nat) o,c≠B+zs.length+2->h.get? c=sO o->h9.get? c=sO o)(z9:h9.get? (B+zs.length+2)=sO { cls:=.type "zip",data:=.fields #[f',g',.bool fO,.ref (B+zs.length),.ref (B+zs.length+1)] }):ZN zs h9 B (n+1) f' g' :=
 ⟨z9,k9 _ _ (by lia) W.ti,⟨us,W.ts,k9 _ _ (by lia) W.to⟩,fun i k l hi=>by
  have il:=(ud.mp hi).1;have e:=W.it i k l hi;rw[iP il]at e;exact e.at fun o e=>k9 _ o (by lia) e⟩
theorem VL{α:Type}{L rest:List α}{x:α}{j:Nat}(hr:x::rest=L.drop j):∃jl:j < L.length,x=L[j]/\rest=L.drop (j+1):=by
 rcases Nat.lt_or_ge j L.length with c|c
 ·rw[UG c]at hr
  injection hr with e1 e2
  exact⟨c,e1,e2⟩
 ·rw[List.drop_of_length_le c]at hr
  cases hr
section
variable{f:aA}{va:Nat->Option aA}
theorem VM{o:Obj}{Q:Option Obj->Shared->Prop}(ho:s.heap.get? a=sO o)(h:Q (sO o) s):wpAny (model P w) A (loadIfAlive a) Q E s:=fun Γ p _=>by
 unfold loadIfAlive;rw[Sem.wp_loadIfAlive,ho];simpa using h
def ZF(B N:Nat)(h:Heap)(f g:aA):Prop:=f=.none\/∃(T:Nat)(c:Bool)(o:Obj),f=rawInt T/\g=.bool c/\h.get? T=sO o/\B+N+3 < T
theorem zipN{Q:VSP}(hA:A.handled=nO)(Z:ZN zs s.heap B n f g)(hf:ZF B zs.length s.heap f g)(hz:0 < zs.length)(hs:zs.length<=sizeLine)(hq:AtN zs s.heap B n va)
  (q:∀h' us (T:Nat) (c:Bool),us.size=zs.length->(∀i,i < zs.length->us[i]?=va i)->ZN zs h' B (n+1) (rawInt T) (.bool c)->(T=s.heap.objs.size/\f=.none/\c=fO\/f=rawInt T/\B+zs.length+3 < T/\∃o,s.heap.get? T=sO o)->h'.get? s.heap.objs.size=sO { cls:=.type "tuple",data:=.seq us }->h'.objs.size=s.heap.objs.size+1->KeptN B zs.length s.heap h'->Q (.ref s.heap.objs.size) { s with heap:=h' })
  (qe:∀h' e j,j < zs.length->va j=nO->KeptN B zs.length s.heap h'->(∃o,h'.get? e=sO o/\o.cls=.type "StopIteration")->E (.ref e) { s with heap:=h' }) :
  wpAny (model P w) A (Builtin.«zip.__next__» ⟨[.ref (B+zs.length+2)],[]⟩) (fun fin s'=>∃v,fin=.done (.ret v)/\Q v s') E s:=by
 obtain⟨us0,hu0,hto⟩:=Z.to;refine bA (m:=field (.ref (B+zs.length+2)) 2) (wpAny_field Z.z rfl (x:=.bool fO) rfl ?_);refine bA (m:=field (.ref (B+zs.length+2)) 3) (wpAny_field Z.z rfl (x:=.ref (B+zs.length)) rfl (bA (wpAny_seqItems Z.ti rfl ?_)));have ne:((uM zs.length).map fun j=>Value.ref (B+j)).toArray.isEmpty=fO:=by
  rw[Array.isEmpty_eq_false_iff_exists_mem];exact⟨.ref (B+0),by simp;exact hz⟩
 show wpAny _ _ (if((uM zs.length).map fun j=>Value.ref (B+j)).toArray.isEmpty=tV then _ else _) _ _ _;rw[ne,iN uE];have W0:∀{h1:Heap}{f' g':aA},h1.get? (B+zs.length+2)=sO { cls:=.type "zip",data:=.fields #[f',g',.bool fO,.ref (B+zs.length),.ref (B+zs.length+1)] }->h1.objs.size=s.heap.objs.size->(∀(c:Nat) o,c≠B+zs.length+2->s.heap.get? c=sO o->h1.get? c=sO o)->ZW zs s.heap h1 B n 0 f' g' us0:=fun z1 s1 k1=>⟨z1,k1 _ _ (by lia) Z.ti,hu0,k1 _ _ (by lia) hto,fun i k l hi=>by
  rw[iN (tQ _)];exact(Z.it i k l hi).at fun o=>k1 _ o (by have:=(ud.mp hi).1;lia),fun c o hc=>k1 c o (by lia),s1⟩
 have draw:∀{h:Heap}{j:Nat}{f' g':aA}{us:Array aA}{R:VSP}{E':VSP},ZW zs s.heap h B n j f' g' us->j < zs.length->(∀v h2,va j=sO v->ZW zs s.heap h2 B n (j+1) f' g' us->R v { s with heap:=h2 })->(∀h2 e,va j=nO->(∀(c:Nat) o,c≠B+j->h.get? c=sO o->h2.get? c=sO o)->(∃o,h2.get? e=sO o/\o.cls=.type "StopIteration")->E' (.ref e) { s with heap:=h2 })->∀A':Around,A'.handled=nO->wpAny (model P w) A' (Uh (.ref (B+j))) R E' { s with heap:=h }:=by
  intro h j f' g' us R E' W jl r re A' hA';obtain⟨⟨k,l⟩,hkl⟩:∃p,zs[j]?=sO p:=⟨_,ui jl⟩;obtain⟨ll,xs,hl,hv⟩:=hq j k l hkl;have hl':Sq k h l xs:=hl.at fun o=>W.kp _ o (.inl ll);have it:=W.it j k l hkl;rw[iN (Uw _)]at it;cases e1:va j with
  |none=>exact zcv (s:={ s with heap:=h }) hA' it hl' (hv.trans e1) fun h2 e u2 he=>re h2 e e1 u2 he
  |some v=>exact QY (s:={ s with heap:=h }) it hl' (hv.trans e1) fun h2 i2 u2=>r v h2 e1 (W.next hkl i2 u2)
 rcases hf with rfl|⟨T,c,ot,rfl,rfl,hT,lT⟩
 ·refine bA (m:=Ur (.ref (B+zs.length+2))) ?_
  unfold Ur;refine bA (wpAny_field Z.z rfl (x:=.none) rfl (pO ?_));rw[iP rfl];refine bA (wpAny_rule (bA (wpAny_field Z.z rfl (x:=.ref (B+zs.length+1)) rfl (bA (wpAny_setField_rec Z.z (by simp) fun h1 z1 u1=>bA ?_)))));refine wpAny_forIn_list _ (fun rest b s'=>b=(nO,())/\∃j us h,rest=((((uM zs.length).map fun j=>Value.ref (B+j)).toArray).toList.zipIdx).drop j/\j<=zs.length/\s'={ s with heap:=h }/\ZW zs s.heap h B n j .ellipsis g us/\∀i,i < j->us[i]?=va i) _ ?step ?done _ _ ⟨rfl,0,us0,h1,rfl,uK _,rfl,W0 z1 u1.1 fun c o n e=>(u1.2 c n).trans e,fun i hi=>absurd hi (tQ _)⟩
  case step =>
   rintro x rest b s' ⟨rfl,j,us,h,hr,hj,rfl,W,hva⟩;obtain⟨jl,rfl,rfl⟩:=VL hr;have jl:j < zs.length:=by simpa using jl
   simp only[List.getElem_zipIdx,List.getElem_map,List.getElem_range,Nat.zero_add]
   refine bA (wpAny_onRaise (bA (m:=Uh (.ref (B+j))) (draw W jl (fun v h2 e1 W2=>pO ?_) (fun h2 e e1 k2 he=>?_) _ hA)))
   ·refine bA (wpAny_seqItems W2.to rfl (bA (wpAny_updateSeq W2.to rfl (bA (wpAny_letGo (pO ⟨rfl,j+1,us.setIfInBounds j v,_,rfl,jl,rfl,?_,fun i hi=>?_⟩))) (by rw[W.ts];exact hs) (by rw[Array.size_setIfInBounds,W.ts];lia))))
    ·have k3:∀(c:Nat) o,c≠B+zs.length+1->h2.get? c=sO o->(h2.update (B+zs.length+1) (Obj.mapSeq (·.setIfInBounds j v))).get? c=sO o:=fun c o n e=>(Ui _ _ (Ne.symm n)).trans e
     exact⟨k3 _ _ (by lia) W2.z,k3 _ _ (by lia) W2.ti,by rw[Array.size_setIfInBounds,W.ts],by(show(h2.update _ _).get? _=_);rw[UB _ W2.to rfl];simp[Obj.mapSeq],fun i k' l' hi=>(W2.it i k' l' hi).at fun o e=>k3 _ o (by have:=(ud.mp hi).1;lia) e,fun c o hc e=>k3 _ _ (by lia) (W2.kp c o hc e),by rw[tH];exact W2.sz⟩
    ·rw[Array.getElem?_setIfInBounds]
     by_cases c:j=i
     ·rw[iP c,iP (by rw[W.ts];lia),<- c,e1]
     ·rw[iN c]
      exact hva i (by lia)
   ·obtain⟨oe,he,ce⟩:=he
    have z2:=k2 _ _ (show B+zs.length+2≠B+j by lia) W.z;have ne:e≠B+zs.length+2:=fun x=>by
     rw[x,z2]at he;cases he;simp at ce
    exact wpAny_setField_rec z2 (by simp) fun h3 z3 u3=>qe h3 e j jl e1 (fun c o hc x=>(u3.2 c (show(c:Nat)≠B+zs.length+2 by lia)).trans (k2 c o (show(c:Nat)≠B+j by lia) (W.kp c o hc x))) ⟨oe,(u3.2 e ne).trans he,ce⟩
  case done =>
   rintro b s' ⟨rfl,j,us,h,hr,hj,rfl,W,hva⟩;have je:j=zs.length:=by
    have:=congrArg tU hr
    simp at this
    lia
   subst je;refine bA (wpAny_seqItems W.to rfl (bA (wpAny_newTuple (hsz:=by simp[W.ts];exact hs) ?_)));have lt5:B+zs.length+2 < h.objs.size:=uC W.z;refine bA (m:=tL (.ref (B+zs.length+2)) (.ref h.objs.size)) ?_;unfold tL;refine bA (wpAny_setField_rec (ue { cls:=.type "tuple",data:=.seq us } W.z) (by simp) fun h8 z8 u8=>?_);refine wpAny_setField_rec z8 (by simp) fun h9 z9 u9=>pO ⟨.ref h.objs.size,rfl,?_⟩;have k9:∀(c:Nat) o,c≠B+zs.length+2->h.get? c=sO o->h9.get? c=sO o:=fun c o n e=>(u9.2 c n).trans ((u8.2 c n).trans (ue _ e));have p9:h9.get? h.objs.size=sO { cls:=.type "tuple",data:=.seq us }:=(u9.2 _ (Nat.ne_of_gt lt5)).trans ((u8.2 _ (Nat.ne_of_gt lt5)).trans (uu _ rfl));have s9:h9.objs.size=h.objs.size+1:=by rw[u9.1,u8.1,Uf]
   have Z9:=W.done (j:=0) k9 z9;rw[W.sz]at p9 s9 Z9 ⊢;exact q h9 us _ fO W.ts hva Z9 (.inl ⟨rfl,rfl,rfl⟩) p9 s9 fun c o hc e=>k9 _ _ (by lia) (W.kp c o hc e)
 ·have held:∀{Q':Bool->Shared->Prop},(∀h1,ZW zs s.heap h1 B n 0 (rawInt T) (.bool tV) us0->Q' fO { s with heap:=h1 })->wpAny (model P w) A (Ur (.ref (B+zs.length+2))) Q' E s:=by
   intro Q' qq;unfold Ur;refine bA (wpAny_field Z.z rfl (x:=rawInt T) rfl ?_);refine bA (m:=loadIfAlive ((T:Int).toNat)) (VM (o:=ot) (by rw[UR];exact hT) ?_);rw[iN (by simp)];refine bA (wpAny_field Z.z rfl (x:=.bool c) rfl ?_);cases c with
   |true =>
    rw[iN (by decide)];exact pO (qq _ (W0 Z.z rfl fun d o _ e=>e))
   |false =>
    rw[iP (by decide)];exact bA (wpAny_setField_rec Z.z (by simp) fun h1 z1 u1=>pO (qq h1 (W0 z1 u1.1 fun d o n e=>(u1.2 d n).trans e)))
  refine bA (m:=Ur (.ref (B+zs.length+2))) (held fun h1 W1=>?_);rw[iN uE];refine bA ?_;rw[<- Array.forIn_toList];refine wpAny_forIn_list _ (fun rest b s'=>b.1=nO/\∃j h,rest=((((uM zs.length).map fun j=>Value.ref (B+j)).toArray).toList).drop j/\j<=zs.length/\s'={ s with heap:=h }/\ZW zs s.heap h B n j (rawInt T) (.bool tV) us0/\b.2.size=j/\∀i,i < j->b.2[i]?=va i) _ ?step ?done _ _ ⟨rfl,0,h1,rfl,uK _,rfl,W1,rfl,fun i hi=>absurd hi (tQ _)⟩
  case step =>
   rintro x rest ⟨b,items⟩ s' ⟨hb,j,h,hr,hj,rfl,W,bs,hva⟩;obtain⟨jl,rfl,rfl⟩:=VL hr;have jl:j < zs.length:=by simpa using jl
   simp only[List.getElem_map,List.getElem_range]
   refine bA (wpAny_holding (bA (m:=Uh (.ref (B+j))) (draw W jl (fun v h2 e1 W2=>pO ?_) (fun h2 e e1 k2 he=>qe h2 e j jl e1 (fun c o hc x=>k2 c o (show(c:Nat)≠B+j by lia) (W.kp c o hc x)) he) _ hA)));refine pO ⟨rfl,j+1,_,rfl,jl,rfl,W2,?_,fun i hi=>?_⟩
   ·show(items.push v).size=_
    rw[Array.size_push,bs]
   ·show(items.push v)[i]?=_
    rw[Array.getElem?_push];by_cases c:i=items.size
    ·rw[iP c,c,bs,e1]
    ·rw[iN c]
     exact hva i (by have:items.size=j:=bs;lia)
  case done =>
   rintro⟨b,items⟩ s' ⟨hb,j,h,hr,hj,rfl,W,bs,hva⟩;have je:j=zs.length:=by
    have:=congrArg tU hr
    simp at this
    lia
   subst je;cases hb;have bs:items.size=zs.length:=bs;refine bA (wpAny_newTuple (hsz:=by simp[bs];exact hs) (pO ⟨.ref h.objs.size,rfl,?_⟩));have p5:(h.push { cls:=.type "tuple",data:=.seq items }).get? h.objs.size=sO { cls:=.type "tuple",data:=.seq items }:=uu _ rfl;have s5:(h.push { cls:=.type "tuple",data:=.seq items }).objs.size=h.objs.size+1:=Uf ..;have k5:∀(c:Nat) o,h.get? c=sO o->(h.push { cls:=.type "tuple",data:=.seq items }).get? c=sO o:=fun c o e=>ue _ e;rw[W.sz]at p5 s5 ⊢;exact q _ items T tV bs hva (W.done (j:=0) (fun c o _ e=>k5 c o e) (k5 _ _ W.z)) (.inr ⟨rfl,lT,ot,hT⟩) p5 s5 fun c o hc e=>k5 _ _ (W.kp c o hc e)
theorem vt(hA:A.handled=nO)(Z:ZN zs s.heap B n f g)(hf:ZF B zs.length s.heap f g)(hz:0 < zs.length)(hs:zs.length<=sizeLine)(hq:AtN zs s.heap B n va)
  (q:∀h' us (T:Nat) (c:Bool),us.size=zs.length->(∀i,i < zs.length->us[i]?=va i)->ZN zs h' B (n+1) (rawInt T) (.bool c)->(T=s.heap.objs.size/\f=.none/\c=fO\/f=rawInt T/\B+zs.length+3 < T/\∃o,s.heap.get? T=sO o)->h'.get? s.heap.objs.size=sO { cls:=.type "tuple",data:=.seq us }->h'.objs.size=s.heap.objs.size+1->KeptN B zs.length s.heap h'->Q (sO (.ref s.heap.objs.size)) { s with heap:=h' })
  (qe:∀h' j,j < zs.length->va j=nO->KeptN B zs.length s.heap h'->Q nO { s with heap:=h' }):wpAny (model P w) A (pyNext (.ref (B+zs.length+2))) Q E s:=by
 have ty:s.TypeIs (.ref (B+zs.length+2)) "zip":=⟨_,Z.z,rfl⟩;unfold pyNext;refine bA (wpAny_attempt (wpAny_callSpecial?_slot ty F.slot_zip_next (wpAny_call_entry F.slot_zip_next ty F.entry_zip_next ?_ (F.args_zip_next_1 (.ref (B+zs.length+2))))));refine zipN hA Z hf hz hs hq (fun h' us T c h1 h2 h3 h4 h5 h6 h7=>pO (q h' us T c h1 h2 h3 h4 h5 h6 h7)) fun h' e j jl hv kz hq_=>?_;obtain⟨o,ho,hc⟩:=hq_;exact bA (wpAny_isInstance (T:="StopIteration") (b:=tV) ⟨o,ho,hc⟩ isSubtype_stop (pO (qe _ j jl hv kz)))
end
abbrev ZS(k m:Bool)(h:Heap)(B l r:Nat)(n:Nat)(f g:aA):Prop:=ZN [(k,l),(m,r)] h B n f g
abbrev zbf(B:Nat)(h h':Heap):Prop:=KeptN B 2 h h'
theorem ZS.at{k:Bool}{l:Nat}{f:aA}(x:ZS k m h B l r n f g)(e:∀(b:Nat) o,B<=b->b<=B+4->h.get? b=sO o->h'.get? b=sO o):ZS k m h' B l r n f g:=ZN.at x e
def va2(n:Nat)(xs ys:Array aA)(j:Nat):Option aA:=if j=0 then xs[n]? else ys[n]?
section
variable{k:Bool}{l:Nat}{ys:Array aA}{y f:aA}
theorem at2(hl:Sq k h l xs)(hr:Sq m h r ys)(ll:l < B)(rl:r < B):AtN [(k,l),(m,r)] h B n (va2 n xs ys):=fun j k' l' hj=>by
 match j,hj with
 |0,hj=>cases hj;exact⟨ll,xs,hl,rfl⟩
 |1,hj=>cases hj;exact⟨rl,ys,hr,rfl⟩
theorem Yb{Q:VSP}(hl:Sq k s.heap l xs)(hr:Sq m s.heap r ys)
  (q:∀h',ZS k m h' s.heap.objs.size l r 0 .none (.bool fO)->h'.objs.size=s.heap.objs.size+5->(∀c o,s.heap.get? c=sO o->h'.get? c=sO o)->Q (.ref (s.heap.objs.size+4)) { s with heap:=h' }) :
  wpAny (model P w) A (call (.type "zip") [.ref l,.ref r]) Q E s:=by
 apply callType_new F.called_zip (by decide) (F.typeCall_zip_2 _ _) (F.newCall_zip_2 _ _) (fun obj=>F.args_object_init_3 obj _ _) F.entry_zip_new (VJ k m l r xs ys)
 refine⟨hl,hr,?_⟩;have s1:(za k s.heap l).objs.size=s.heap.objs.size+1:=Uf ..;have s2:(zb k m s.heap l r).objs.size=s.heap.objs.size+2:=by rw[Uf,s1]
 have s3:(zc k m s.heap l r).objs.size=s.heap.objs.size+3:=by rw[Uf,s2]
 have s4:(zd k m s.heap l r).objs.size=s.heap.objs.size+4:=by rw[Uf,s3]
 have s5:(ze k m s.heap l r).objs.size=s.heap.objs.size+5:=by rw[Uf,s4]
 have up:∀{c o},(zd k m s.heap l r).get? c=sO o->(ze k m s.heap l r).get? c=sO o:=fun e=>ue _ e;have p5:(ze k m s.heap l r).get? (zd k m s.heap l r).objs.size=sO _:=uu _ rfl;have p4:(ze k m s.heap l r).get? (zc k m s.heap l r).objs.size=sO _:=up (uu _ rfl);have p3:(ze k m s.heap l r).get? (zb k m s.heap l r).objs.size=sO _:=up (ue _ (uu _ rfl));have p2:(ze k m s.heap l r).get? (za k s.heap l).objs.size=sO _:=up (ue _ (ue _ (uu _ rfl)));have p1:(ze k m s.heap l r).get? s.heap.objs.size=sO _:=up (ue _ (ue _ (ue _ (uu _ rfl))));rw[s4,s2,s3]at p5;rw[s3]at p4;rw[s2,s1]at p3;rw[s1]at p2;show _/\_;rw[s4];exact⟨⟨_,p5,rfl⟩,q _ ⟨p5,p3,⟨_,rfl,p4⟩,fun j k' l' hj=>by
  match j,hj with
  |0,hj=>cases hj;exact .of ⟨_,p1,rfl,rfl⟩
  |1,hj=>cases hj;exact .of ⟨_,p2,rfl,rfl⟩⟩ s5 fun c o e=>up (ue _ (ue _ (ue _ (ue _ e))))⟩
theorem VN(hA:A.handled=nO)(Z:ZS k m s.heap B l r n f g)(hf:ZF B 2 s.heap f g)(hl:Sq k s.heap l xs)(hr:Sq m s.heap r ys)(ll:l < B)(rl:r < B)(hx:xs[n]?=sO x)(hy:ys[n]?=sO y)
  (q:∀h' (T:Nat) (c:Bool),ZS k m h' B l r (n+1) (rawInt T) (.bool c)->(T=s.heap.objs.size/\f=.none/\c=fO\/f=rawInt T/\B+5 < T/\∃o,s.heap.get? T=sO o)->IsPair h' s.heap.objs.size x y->h'.objs.size=s.heap.objs.size+1->zbf B s.heap h'->Q (sO (.ref s.heap.objs.size)) { s with heap:=h' }) :
  wpAny (model P w) A (pyNext (.ref (B+4))) Q E s:=by
 refine vt hA Z hf (by show 0 < 2;decide) sN2 (at2 hl hr ll rl) (fun h' us T c h1 h2 h3 h4 h5 h6 h7=>q h' T c h3 h4 ?_ h6 h7) fun h' j jl hv _=>?_
 ·have e:us=#[x,y]:=by
   apply Array.ext_getElem?
   intro i
   match i with
   |0=>exact(h2 0 (by show 0 < 2;decide)).trans hx
   |1=>exact(h2 1 (by show 1 < 2;decide)).trans hy
   |i+2=>rw[Array.getElem?_eq_none (by rw[h1];show 2<=_;lia),Array.getElem?_eq_none (by show 2<=_;lia)]
  rw[e]at h5;exact h5
 ·unfold va2 at hv
  split at hv
  ·rw[hx]at hv;cases hv
  ·rw[hy]at hv;cases hv
theorem VO(hA:A.handled=nO)(Z:ZS k m s.heap B l r n f g)(hf:ZF B 2 s.heap f g)(hl:Sq k s.heap l xs)(hr:Sq m s.heap r ys)(ll:l < B)(rl:r < B)(hx:xs[n]?=nO\/ys[n]?=nO)
  (q:∀h',zbf B s.heap h'->Q nO { s with heap:=h' }):wpAny (model P w) A (pyNext (.ref (B+4))) Q E s:=by
 refine vt hA Z hf (by show 0 < 2;decide) sN2 (at2 hl hr ll rl) (fun h' us T c h1 h2 h3 h4 h5 h6 h7=>?_) fun h' j jl hv kz=>q h' kz;rcases hx with e|e
 ·have:=(h2 0 (by show 0 < 2;decide)).trans e
  rw[Array.getElem?_eq_none_iff,h1]at this;exact absurd this (by show ¬ 2<=0;decide)
 ·have:=(h2 1 (by show 1 < 2;decide)).trans e
  rw[Array.getElem?_eq_none_iff,h1]at this;exact absurd this (by show ¬ 2<=1;decide)
end
structure ZL(k m:Bool)(h0 h:Heap)(B l r n:Nat)(xs ys acc:Array aA)(c:Nat)(f g:aA):Prop where
 zs:ZS k m h B l r n f g
 zf:ZF B 2 h f g
 hl:Sq k h l xs
 hr:Sq m h r ys
 sz:h.objs.size=B+6+n
 lst:h.get? (B+5)=sO { cls:=.type "list",data:=.seq acc c }
 asz:acc.size=n
 par:∀i x y,i < n->xs[i]?=sO x->ys[i]?=sO y->acc[i]?=sO (.ref (B+6+i))/\IsPair h (B+6+i) x y
 old:∀(b:Nat) o,b < B->h0.get? b=sO o->h.get? b=sO o
section
variable{R:Result->Shared->Prop}{k:Bool}{l:Nat}{ys:Array aA}{res:aA}
theorem Yc(hA:A.handled=nO)(ll:l < B)(rl:r < B)(hN:N<=sizeLine)(hx:N<=xs.size)(hy:N<=ys.size)(he:xs.size<=N\/ys.size<=N):∀(d n:Nat)(s:Shared)(acc:Array aA)(c:Nat)(f g:aA),n+d=N->ZL k m h0 s.heap B l r n xs ys acc c f g ->
  (∀h' acc' c',h'.get? (B+5)=sO { cls:=.type "list",data:=.seq acc' c' }->acc'.size=N->(∀i x y,i < N->xs[i]?=sO x->ys[i]?=sO y->acc'[i]?=sO (.ref (B+6+i))/\IsPair h' (B+6+i) x y)->(∀(b:Nat) o,b < B->h0.get? b=sO o->h'.get? b=sO o)->R (.ok (.ret res)) { s with heap:=h' }) ->
  codeAny (model P w) A (.builtin "list.extend.loop" ⟨[.ref (B+5),.ref (B+4),res],[]⟩) R s
 |0,n,s,acc,c,f,g,hd,Z,q=>by
  have e:n=N:=by lia
  subst e;refine codeAny_builtin F.entry_extend_loop ?_;rw[Around.under_plainId F.plain_extend_loop _];refine bA (m:=pyNext (.ref (B+4))) (VO (A:=A.in1) hA Z.zs Z.zf Z.hl Z.hr ll rl ?_ fun h' kz=>pO (q h' acc c (kz _ _ (by lia) Z.lst) Z.asz ?_ fun b o hb x=>kz _ _ (by lia) (Z.old b o hb x)))
  ·rcases he with he|he
   ·exact .inl (Array.getElem?_eq_none (by lia))
   ·exact .inr (Array.getElem?_eq_none (by lia))
  ·intro i x y hi h1 h2
   obtain⟨p1,p2⟩:=Z.par i x y hi h1 h2;exact⟨p1,kz _ _ (by lia) p2⟩
 |d+1,n,s,acc,c,f,g,hd,Z,q=>by
  refine codeAny_builtin F.entry_extend_loop ?_;rw[Around.under_plainId F.plain_extend_loop _];have hx':n < xs.size:=by lia
  have hy':n < ys.size:=by lia
  refine bA (m:=pyNext (.ref (B+4))) (VN (A:=A.in1) hA Z.zs Z.zf Z.hl Z.hr ll rl (Array.getElem?_eq_getElem hx') (Array.getElem?_eq_getElem hy') fun h' T ct z hT p sz kz=>?_);have s0:=Z.sz;rw[s0]at p sz;have l1:h'.get? (B+5)=sO { cls:=.type "list",data:=.seq acc c }:=kz _ _ (by lia) Z.lst;have as:=Z.asz;have up:∀(b:Nat) o,b≠B+5->h'.get? b=sO o->(h'.update (B+5) (Obj.mapSeq (·.push (.ref (B+6+n))))).get? b=sO o:=fun b o nb e=>(Ui _ _ (Ne.symm nb)).trans e;rw[s0];refine bA (m:=updateSeq (B+5) (·.push (.ref (B+6+n)))) (wpAny_updateSeq l1 rfl (pO ⟨plainId_quiet F.plain_extend_loop _,Yc hA ll rl hN hx hy he d (n+1) _ (acc.push (.ref (B+6+n))) _ (rawInt T) (.bool ct) (by lia) ⟨?_,?_,?_,?_,?_,UB _ l1 rfl,?_,?_,?_⟩ q⟩) (by lia) (by show(acc.push _).size<=sizeLine+1;rw[Array.size_push];lia))
  ·exact z.at fun b o h1 h2 e=>up b o (by lia) e
  ·rcases hT with⟨e,_,_⟩|⟨_,lT,o,hT⟩
   ·rw[s0]at e
    subst e;exact .inr ⟨_,ct,_,rfl,rfl,up _ _ (by lia) p,by lia⟩
   ·exact .inr ⟨T,ct,o,rfl,rfl,up _ _ (by lia) (kz _ _ (by lia) hT),lT⟩
  ·exact Z.hl.at fun o e=>up _ o (by lia) (kz _ o (by lia) e)
  ·exact Z.hr.at fun o e=>up _ o (by lia) (kz _ o (by lia) e)
  ·show(h'.update _ _).objs.size=_
   rw[tH,sz];lia
  ·rw[Array.size_push,as]
  ·intro i x y hi h1 h2
   by_cases c1:i=n
   ·subst c1
    rw[Array.getElem?_eq_getElem hx']at h1;rw[Array.getElem?_eq_getElem hy']at h2;cases h1;cases h2;refine⟨?_,up _ _ (by lia) p⟩;rw[Array.getElem?_push,iP as.symm]
   ·obtain⟨p1,p2⟩:=Z.par i x y (by lia) h1 h2
    refine⟨?_,up _ _ (by lia) (kz _ _ (by lia) p2)⟩;rw[Array.getElem?_push,iN (by lia)];exact p1
  ·exact fun b o hb x=>up _ _ (by lia) (kz _ _ (by lia) (Z.old b o hb x))
end
theorem QZ:typeLookup (.type "zip") "__len__"=pure nO:=by rw[typeLookup_type,builtinLookup_eq_fast];kernel_rfl
theorem VP:typeLookup (.type "zip") "__length_hint__"=pure nO:=by rw[typeLookup_type,builtinLookup_eq_fast];kernel_rfl
section
variable{k:Bool}{l:Nat}{ys:Array aA}
theorem VQ{Q:VSP}(hA:A.handled=nO)(Z:ZS k m s.heap B l r 0 .none (.bool fO))(hl:Sq k s.heap l xs)(hr:Sq m s.heap r ys)(ll:l < B)(rl:r < B)(sz:s.heap.objs.size=B+5)
  (hN:N<=sizeLine) (hx:N<=xs.size) (hy:N<=ys.size) (he:xs.size<=N\/ys.size<=N)
  (q:∀h' acc' c',h'.get? (B+5)=sO { cls:=.type "list",data:=.seq acc' c' }->acc'.size=N->(∀i x y,i < N->xs[i]?=sO x->ys[i]?=sO y->acc'[i]?=sO (.ref (B+6+i))/\IsPair h' (B+6+i) x y)->(∀(b:Nat) o,b < B->s.heap.get? b=sO o->h'.get? b=sO o)->Q (.ref (B+5)) { s with heap:=h' }) :
  wpAny (model P w) A (call (.type "list") [.ref (B+4)]) Q E s:=by
 refine callType_codes (Q₁:=fun obj s₁=>obj=.ref (B+5)/\s₁={ s with heap:=s.heap.push { cls:=.type "list",data:=.seq #[] } }) F.called_list (F.typeCall_list_1 _) F.entry_list_init (code_list_new _ ⟨by rw[sz],rfl⟩) ?_;rintro obj s1 ⟨rfl,rfl⟩;have l0:(s.heap.push { cls:=.type "list",data:=.seq #[] }).get? (B+5)=sO { cls:=.type "list",data:=.seq #[] }:=by
  rw[<- sz];exact uu _ rfl
 have z0:(s.heap.push { cls:=.type "list",data:=.seq #[] }).objs.size=B+6:=by rw[Uf,sz]
 have up:∀(b:Nat) o,s.heap.get? b=sO o->(s.heap.push { cls:=.type "list",data:=.seq #[] }).get? b=sO o:=fun b o e=>ue _ e;generalize s.heap.push { cls:=.type "list",data:=.seq #[] }=h at l0 z0 up;refine⟨⟨_,l0,rfl⟩,F.args_list_init_2 _ _,?_⟩;refine bA (m:=Builtin.List.listItems (.ref (B+5))) ?_;unfold Builtin.List.listItems;refine bA (wpAny_seqItems l0 rfl (pO ?_));refine bA (m:=updateSeq (B+5) (fun _=>#[])) (wpAny_updateSeq l0 rfl ?_);have l1:=UB (Obj.mapSeq (fun _=>(#[]:Array aA))) l0 rfl;have u1:∀(b:Nat) o,b≠B+5->h.get? b=sO o->(h.update (B+5) (Obj.mapSeq (fun _=>(#[]:Array aA)))).get? b=sO o:=fun b o n e=>(Ui _ _ (Ne.symm n)).trans e;have z1:(h.update (B+5) (Obj.mapSeq (fun _=>(#[]:Array aA)))).objs.size=B+6:=by rw[tH,z0]
 refine bA (wpAny_letGo ?_);show wpAny _ _ (Builtin.List.listExtendWith (.ref (B+5)) (.ref (B+4)) .none) _ _ _;generalize h.update (B+5) (Obj.mapSeq (fun _=>(#[]:Array aA)))=h1 at l1 u1 z1 ⊢
 replace up:∀(b:Nat) o,b < B+5->s.heap.get? b=sO o->h1.get? b=sO o:=fun b o n e=>u1 b o (by lia) (up b o e)
 have Z1:ZS k m h1 B l r 0 .none (.bool fO):=Z.at fun b o h1 h2 e=>up b o (by lia) e;unfold Builtin.List.listExtendWith;refine bA (wpAny_typeOf (T:="zip") ⟨_,Z1.z,rfl⟩ ?_);have n1:Builtin.List.listSameRef (.ref (B+5)) (.ref (B+4))=fO:=by simp[Builtin.List.listSameRef]
 have n2:(Value.type "zip" == Value.type "list" || Value.type "zip" == Value.type "tuple")=fO:=by decide
 rw[n1,tP,n2,iN uE];refine bA (wpAny_pyIter_zip Z1.z (bA (wpAny_holding ?_)));unfold Builtin.List.listLengthHint;refine bA (wpAny_specialOf (T:="zip") ⟨_,Z1.z,rfl⟩ QZ ?_);refine bA (m:=specialOf (Value.ref (B+4)) (Str.ofString "__length_hint__")) (wpAny_specialOf (T:="zip") ⟨_,Z1.z,rfl⟩ VP (pO ?_));refine bA (m:=rule "list.extend.makes-room") (wpAny_rule (bA ?_));refine bA (m:=updateSeq (B+5) (·.push .none)) (wpAny_updateSeq l1 rfl ?_);have l2:=UB (Obj.mapSeq (·.push Value.none)) l1 rfl;refine wpAny_updateSeq (a:=B+5) (f:=(·.pop)) (hz:=by seq_fits) l2 rfl ?_;have l3:=UB (Obj.mapSeq (·.pop)) l2 rfl;have u3:∀(b:Nat) o,b≠B+5->h1.get? b=sO o->((h1.update (B+5) (Obj.mapSeq (·.push Value.none))).update (B+5) (Obj.mapSeq (·.pop))).get? b=sO o:=fun b o n e=>(Ui _ _ (Ne.symm n)).trans ((Ui _ _ (Ne.symm n)).trans e);refine pO ⟨plainId_quiet F.plain_extend_loop _,Yc (h0:=s.heap) (A:=A.in1) (acc:=#[]) hA ll rl hN hx hy he N 0 _ _ .none (.bool fO) (by lia) ⟨Z1.at fun b o h1 h2 e=>u3 b o (by lia) e,.inl rfl,?_,?_,?_,l3,rfl,?_,?_⟩ ?_⟩
 ·exact hl.at fun o e=>u3 _ o (by lia) (up _ o (by lia) e)
 ·exact hr.at fun o e=>u3 _ o (by lia) (up _ o (by lia) e)
 ·show(Heap.update (Heap.update _ _ _) _ _).objs.size=_
  rw[tH,tH,z1]
 ·intro i x y hi
  lia
 ·exact fun b o hb e=>u3 _ _ (by lia) (up _ _ (by lia) e)
 ·exact fun h' acc' c' h1 h2 h3 h4=>⟨rfl,q h' acc' c' h1 h2 h3 h4⟩
end
theorem jJ(g:Nat->Nat):∀l:List Nat,Vals (l.map fun i=>V.ref (g i)) (l.map fun i=>Value.ref (g i))
 |[]=>.nil
 |i::l=>.cons rfl (jJ g l)
def hpZ(H:Hp)(B N:Nat)(f:Nat->List V):Hp:=fun(b:Nat)=>if b=B+5 then sO (.lst ((uM N).map fun i=>V.ref (B+6+i)))else if B+6<=b/\b < B+6+N then sO (.tup (f (b-(B+6))))else H b
theorem xv{b:Nat}(h:b < B+5):hpZ H B N f b=H b:=by
 unfold hpZ;rw[iN (by lia),iN (by lia)]
theorem XU:hpZ H B N f (B+5)=sO (.lst ((uM N).map fun i=>V.ref (B+6+i))):=iP rfl
theorem XV(h:i < N):hpZ H B N f (B+6+i)=sO (.tup (f i)):=by
 unfold hpZ;rw[iN (by lia),iP (by lia)];rw[show B+6+i-(B+6)=i by lia]
theorem Inv.zipped{us:Nat->Array aA}{acc:Array aA}{c:Nat}(I:Inv X pins σ H s)(hB:s.heap.objs.size=B)(k:∀(b:Nat) o,b < B->s.heap.get? b=sO o->h'.get? b=sO o)
  (hl:h'.get? (B+5)=sO { cls:=.type "list",data:=.seq acc c }) (hN:N<=sizeLine) (hs:acc.size=N) (ha:∀i,i < N->acc[i]?=sO (.ref (B+6+i))) (ht:∀i,i < N->(f i).length<=sizeLine/\Vals (f i) (us i).toList/\h'.get? (B+6+i)=sO { cls:=.type "tuple",data:=.seq (us i) }) :
  Inv X pins σ (hpZ H B N f) { s with heap:=h' }:=by
 have lt:∀{b:Nat}{u},H b=sO u->b < B:=fun e=>by rw[<- hB];exact I.hok.lt e
 have lt':∀{b:Nat}{o},s.heap.get? b=sO o->b < B:=fun e=>by rw[<- hB];exact uC e
 refine I.un (t':=s.toks) ⟨fun b o e _ _ _=>k b o (lt' e) e,fun b o e _ _ _=>⟨o.slots,k b o (lt' e) e⟩,fun b o e n _=>by rw[xv (by have:=lt' e;lia)];exact n,fun b o e _=>⟨o,k b o (lt' e) e⟩,
  fun b xs e=>by rw[xv (by have:=lt e;lia)];exact e,fun b u xs e=>by rw[xv (by have:=lt e;lia)];exact e,fun b ps e=>⟨#[],by rw[xv (by have:=lt e;lia),e];simp⟩⟩ fun(b:Nat) u e=>?_
 by_cases c1:b=B+5
 ·subst c1
  rw[XU]at e;cases e;refine⟨by simpa using hN,acc.toList,c,?_,by simpa using hl⟩;have e2:acc.toList=(uM N).map fun i=>Value.ref (B+6+i):=by
   apply List.ext_getElem?
   intro i;by_cases hi:i < N
   ·have:=ha i hi
    simp[hi]
    simpa using this
   ·simp[hi]
    lia
  rw[e2];exact jJ _ _
 ·by_cases c2:B+6<=b/\b < B+6+N
  ·obtain⟨i,rfl⟩:∃i,b=B+6+i:=⟨b-(B+6),by lia⟩
   have hi:i < N:=by lia
   rw[XV hi]at e;cases e;obtain⟨t1,t2,t3⟩:=ht i hi;exact⟨t1,(us i).toList,t2,⟨_,t3,rfl,rfl,0,rfl⟩⟩
  ·have e':H b=sO u:=by
    unfold hpZ at e;rw[iN c1,iN c2]at e;exact e
   exact(I.hok b u e').stay (fun d v _ q=>k d v (lt' q) q) (fun d q=>by rw[xv (by have:=lt q;lia)];exact q) fun d xs q=>by rw[xv (by have:=lt q;lia)];exact q
def zdK(K:uc):List V->Hp->VK->Prop:=fun vs H Q=>∃a b xs ys,vs=[.ref a,.ref b]/\(SqL K H a xs\/SqT K H a xs)/\(SqL K H b ys\/SqT K H b ys) /\
 ∀(H':Hp)(p:aO)(ps:List aO),Same H H'->H p=nO->H' p=sO (.lst (ps.map V.ref))->ps.length=min xs.length ys.length->(∀t∈ps,H t=nO/\t≠p)->ps.Nodup->(∀(i:Nat) x y,xs[i]?=sO x->ys[i]?=sO y->∃t,ps[i]?=sO t/\H' t=sO (.tup [x,y]))->Q (.ref p) H'
def zbg(K:uc)(ta:TA):TE:=fun σ H Q=>ta σ H fun vs H1=>zdK K vs H1 Q
theorem Inv.sq{xs:List V}(I:Inv X pins σ H s)(h:SqL X.K H a xs\/SqT X.K H a xs):∃(k:Bool)(its:List aA),Vals xs its/\Sq k s.heap a its.toArray/\xs.length<=sizeLine/\(a:Nat) < s.heap.objs.size:=by
 rcases h with h|h
 ·obtain⟨its,r,p,z⟩:=I.list h
  have⟨o,n,e,_⟩:=p;exact⟨tV,its,r,p.isList,z,uC e⟩
 ·obtain⟨its,r,p,z⟩:=I.tuple h
  have⟨o,e,_⟩:=p;exact⟨fO,its,r,p,z,uC e⟩
section
variable{a b:Expr}{ta:TA}{p1 pos1 pos2:Pos}
theorem Q0(hc:X.calm=tV)(hgL:Gl X "list")(hmL:X.mg "list"=nO)(hgZ:Gl X "zip")(hmZ:X.mg "zip"=nO)(ha:PA X [a,b] ta)
  (h1:starEach [a,b] X.env=[(fO,eval a X.env),(fO,eval b X.env)]:=by rfl) (h2:starEach [b] X.env=[(fO,eval b X.env)]:=by rfl):PE X (.Call (.Name "list" p1) [.Call (.Name "zip" p2) [a,b] [] pos2] [] pos1) (zbg X.K ta):=by
 intro pins s σ H Q I h;refine Call_ (xp I hgL hmL UU (Um (Calls.spliced_cons (Call_ (xp I hgZ hmZ boot_zip (Um (thn (ha pos2 pins s σ H _ I h) fun us s1 g=>?_) (by rw[h1,h2]) (by rw[h2];rfl))))) rfl rfl));obtain⟨vs,H1,I1,r1,a1,b1,xs,ys,rfl,hq1,hq2,q⟩:=g;obtain⟨u,u',rfl,e1,e2⟩:=Vl r1;cases e1;cases e2;obtain⟨k1,i1,v1,q1,z1,l1⟩:=I1.sq hq1;obtain⟨k2,i2,v2,q2,z2,l2⟩:=I1.sq hq2;refine Yb q1 q2 fun h' Z sz kp=>Calls.spliced_nil ?_;have hh:X.A.handled=nO:=I1.ok.hd hc;have n1:=v1.length;have n2:=v2.length;refine VQ (s:={ s1 with heap:=h' }) (N:=min xs.length ys.length) hh Z (q1.at fun o=>kp _ o) (q2.at fun o=>kp _ o) l1 l2 sz (by lia) (by rw[uA];lia) (by rw[uA];lia) (by rw[uA,uA];lia) fun h'' acc c hl hs hp ho=>?_;have pairs:∀i,i < min xs.length ys.length->∃x y u v,xs[i]?=sO x/\ys[i]?=sO y/\i1[i]?=sO u/\i2[i]?=sO v/\RelV x u/\RelV y v:=fun i hi=>by
  have c1:i < xs.length:=by lia
  have c2:i < ys.length:=by lia
  obtain⟨u,e1,r1⟩:=v1.get (ui c1);obtain⟨v,e2,r2⟩:=v2.get (ui c2);exact⟨_,_,u,v,ui c1,ui c2,e1,e2,r1,r2⟩
 have I2:Inv X pins σ (hpZ H1 s1.heap.objs.size (min xs.length ys.length) fun i=>[xs.getD i .non,ys.getD i .non]) { s1 with heap:=h'' }:=by
  refine I1.zipped (us:=fun i=>#[i1.getD i .none,i2.getD i .none]) (acc:=acc) (c:=c) rfl (fun b o hb e=>ho b o hb (kp _ _ e)) hl (by lia) hs (fun i hi=>?_) fun i hi=>?_
  ·obtain⟨x,y,u,v,_,_,e1,e2,_⟩:=pairs i hi
   exact(hp i u v hi (by simpa using e1) (by simpa using e2)).1
  ·obtain⟨x,y,u,v,f1,f2,e1,e2,r1,r2⟩:=pairs i hi
   refine⟨sN2,?_,?_⟩
   ·rw[u6,u6,f1,f2]
    rw[u6,u6,e1,e2];exact .cons r1 (.cons r2 .nil)
   ·rw[u6,u6,e1,e2]
    exact(hp i u v hi (by simpa using e1) (by simpa using e2)).2
 have old:∀{c:Nat}{o},H1 c=sO o->c < s1.heap.objs.size:=fun e=>I1.hok.lt e;refine⟨.ref (s1.heap.objs.size+5),_,I2,rfl,q _ _ ((uM (min xs.length ys.length)).map fun i=>s1.heap.objs.size+6+i) (fun c o e=>?_) (I1.hok.fresh (UX _ _)) ?_ (by simp) ?_ ?_ ?_⟩
 ·rw[xv (by have:=old e;lia)]
  exact e
 ·rw[XU,UD]
  rfl
 ·intro t ht
  obtain⟨i,_,rfl⟩:=uq.mp ht;refine⟨I1.hok.fresh ?_,?_⟩
  ·show s1.heap.objs.size<=s1.heap.objs.size+6+i
   lia
  ·show s1.heap.objs.size+6+i≠s1.heap.objs.size+5
   lia
 ·refine List.Pairwise.map _ (fun i j (ne:i≠j) e=>ne ?_) List.nodup_range
  have e':s1.heap.objs.size+6+i=s1.heap.objs.size+6+j:=e;exact Nat.add_left_cancel e'
 ·intro i x y hx hy
  have c1:i < xs.length:=(ud.mp hx).1;have c2:i < ys.length:=(ud.mp hy).1;refine⟨s1.heap.objs.size+6+i,?_,?_⟩
  ·rw[uh,tM (by lia)]
   rfl
  ·rw[XV (by lia),u6,u6,hx,hy]
   rfl
theorem XW(hc:X.calm=tV)(hgL:Gl X "list")(hmL:X.mg "list"=nO)(hgZ:Gl X "zip")(hmZ:X.mg "zip"=nO)(ha:jA X [a,b] ta)(h1:zy a=fO:=by rfl)(h2:zy b=fO:=by rfl):
  jE X (.Call (.Name "list" p1) [.Call (.Name "zip" p2) [a,b] [] pos2] [] pos1) (zbg X.K ta):=⟨Q0 hc hgL hmL hgZ hmZ ha.out (by rw[zE h1,zE h2];rfl) (by rw[zE h2];rfl)⟩
end
def SqK(k:Bool)(K:uc)(H:Hp)(a:aO)(xs:List V):Prop:=match k with
 |true=>SqL K H a xs
 |false=>SqT K H a xs
theorem Inv.sqk{k:Bool}{xs:List V}(I:Inv X pins σ H s)(h:SqK k X.K H a xs):∃its:List aA,Vals xs its/\Sq k s.heap a its.toArray/\xs.length<=sizeLine/\(a:Nat) < s.heap.objs.size:=by
 cases k with
 |true =>
  obtain⟨its,r,p,z⟩:=I.list h;have⟨o,n,e,_⟩:=p;exact⟨its,r,p.isList,z,uC e⟩
 |false =>
  obtain⟨its,r,p,z⟩:=I.tuple h;have⟨o,e,_⟩:=p;exact⟨its,r,p,z,uC e⟩
theorem Inv.sqk_inj{k:Bool}{xs ys:List V}(I:Inv X pins σ H s)(h:SqK k X.K H a xs)(h':SqK k X.K H a ys):xs=ys:=by
 cases k with
 |true=>exact I.list_inj h h'
 |false=>exact I.tuple_inj h h'
def ItN(K:uc)(zs:List (Bool×aO)):It :=
 ⟨fun i H=>∃vs:List V,vs.length=zs.length/\∀(j:Nat) k a,zs[j]?=sO (k,a)->∃xs,SqK k K H a xs/\xs[i]?=vs[j]?,
   fun i H v H'=>∃T vs,v=.ref T/\H T=nO/\H'=upd H T (.tup vs)/\vs.length=zs.length/\∀(j:Nat) k a xs,zs[j]?=sO (k,a)->SqK k K H a xs->xs[i]?=vs[j]?,
   fun i H=>(∀(j:Nat) k a,zs[j]?=sO (k,a)->∃xs,SqK k K H a xs)/\∃(j:Nat)(k:Bool)(a:aO)(xs:List V),zs[j]?=sO (k,a)/\SqK k K H a xs/\xs.length<=i⟩
def fpN(B N:Nat):List Nat:=(uM (N+3)).map (B + ·)
theorem fpN_iff{c:Nat}:c∈fpN B N↔B<=c/\c<=B+N+2:=by
 unfold fpN;rw[uq];exact⟨fun⟨i,hi,e⟩=>by have:=Uu.mp hi;lia,fun h=>⟨c-B,Uu.mpr (by lia),by lia⟩⟩
theorem KeptN.of(z:KeptN B N h h'):∀(b:Nat) o,b∉fpN B N->h.get? b=sO o->h'.get? b=sO o:=fun b o n e=>z b o (by rw[fpN_iff]at n;lia) e
theorem XX{f:aA}(Z:ZN zs h B n f g):∀b∈fpN B zs.length,∃o,h.get? b=sO o/\∀v,o.data≠.cell v:=by
 intro b hb;rw[fpN_iff]at hb;obtain⟨us,_,e2⟩:=Z.to;rcases(show b < B+zs.length\/b=B+zs.length\/b=B+zs.length+1\/b=B+zs.length+2 by lia)with c|rfl|rfl|rfl
 ·obtain⟨o,e,_,d⟩:=(Z.it (b-B) _ _ (ui (by lia))).ex
  exact⟨o,by rw[show b=B+(b-B) by lia];exact e,fun v z=>by rw[d]at z;cases z⟩
 ·exact⟨_,Z.ti,fun v z=>by cases z⟩
 ·exact⟨_,e2,fun v z=>by cases z⟩
 ·exact⟨_,Z.z,fun v z=>by cases z⟩
theorem VR{α β:Type}{R:α->β->Prop}:∀l:List α,(∀(j:Nat) a,l[j]?=sO a->∃b,R a b)->∃m:List β,∀(j:Nat) a,l[j]?=sO a->∃b,m[j]?=sO b/\R a b
 |[],_=>⟨[],fun j a h=>by simp at h⟩
 |a::l,h=>by
  obtain⟨b,hb⟩:=h 0 a rfl;obtain⟨m,hm⟩:=VR l fun j a h'=>h (j+1) a (by simpa using h');refine⟨b::m,fun j a' h'=>?_⟩;cases j with
  |zero=>cases h';exact⟨b,rfl,hb⟩
  |succ j=>exact hm j a' (by simpa using h')
theorem XY:∀{xs:List V}{us:List aA},xs.length=us.length->(∀(j:Nat) x u,xs[j]?=sO x->us[j]?=sO u->RelV x u)->Vals xs us
 |[],[],_,_=>.nil
 |[],_::_,h,_=>by simp at h
 |_::_,[],h,_=>by simp at h
 |x::xs,u::us,h,g=>.cons (g 0 x u rfl rfl) (XY (by simpa using h) fun j a b h1 h2=>g (j+1) a b (by simpa using h1) (by simpa using h2))
theorem Yd{K:uc}{zs:List (Bool×aO)}(hz:0 < zs.length)(hs:zs.length<=sizeLine)(la:∀(j:Nat) k a,zs[j]?=sO (k,a)->(a:Nat) < B):
  Turn P w K (.Tuple elts n pos) (ItN K zs) (fpN B zs.length) (B+zs.length+2) (fun i h=>ZN zs h B i .none (.bool fO)) where
 mem:=fpN_iff.mpr ⟨by lia,by lia⟩
 obj:=fun i h st=>XX st
 keep:=fun i h h' st kp=>st.at fun c o h1 h2 e=>kp c (fpN_iff.mpr ⟨h1,h2⟩) o e
 item:=by
  intro X hP hw hK hc i pins s σ H E I hf st hg;subst hP hw hK;obtain⟨vs,vl,hv⟩:=hg;obtain⟨m,hm⟩:=VR (R:=fun p (q:List V×List aA)=>SqK p.1 X.K H p.2 q.1/\Vals q.1 q.2/\Sq p.1 s.heap p.2 q.2.toArray) zs fun j p hj=>by
   obtain⟨xs,h1,_⟩:=hv j p.1 p.2 hj;obtain⟨its,v1,q1,_⟩:=I.sqk h1;exact⟨(xs,its),h1,v1,q1⟩
  have at_:AtN zs s.heap B i fun j=>(m[j]?).bind fun q=>q.2[i]?:=fun j k a hj=>by
   obtain⟨q,e1,_,_,e2⟩:=hm j (k,a) hj;exact⟨la j k a hj,_,e2,by(show _=(m[j]?).bind _);rw[e1];simp⟩
  refine vt (I.ok.hd hc) st (.inl rfl) hz hs at_ (fun h' us T c h1 h2 h3 h4 h5 h6 h7=>⟨_,rfl,?_⟩) fun h' j jl hn _=>?_
  ·rcases h4 with⟨rfl,_,rfl⟩|⟨z,_⟩
   ·have new:ObjOk X.prog X.w (upd H s.heap.objs.size (.tup vs)) h' s.heap.objs.size (.tup vs):=by
     refine⟨by rw[vl];exact hs,us.toList,XY (vl.trans (h1.symm.trans Array.length_toList.symm)) fun j x u e1 e2=>?_,⟨_,h5,rfl,rfl,_,rfl⟩⟩;have jl:j < zs.length:=by rw[<- vl];exact(ud.mp e1).1
     obtain⟨xs,g1,g2⟩:=hv j _ _ (ui jl);obtain⟨q,f1,f2,f3,_⟩:=hm j _ (ui jl);rw[I.sqk_inj g1 f2,e1]at g2;obtain⟨u',f4,f5⟩:=f3.get g2;rw[Array.getElem?_toList,h2 j jl,f1,Option.bind_some,f4]at e2;cases e2;exact f5
    have I1:Inv X pins σ (upd H s.heap.objs.size (.tup vs)) { s with heap:=h' }:=I.turnsLaid (t':=s.toks) (ch:=fpN B zs.length) h7.of hf (uj _) new;have hn:∀c∈fpN B zs.length,upd H s.heap.objs.size (.tup vs) c=nO:=fun c hc=>by
     obtain⟨o,e,_⟩:=XX st c hc;rw[zj (uT (uC e))];exact(hf c hc).1
    refine wpAny_letOwnedTupleGo_zip h3.z fun h8 z2 u2=>?_;have I2:Inv X pins σ (upd H s.heap.objs.size (.tup vs)) { s with heap:=h8 }:=Inv.turns (s:={ s with heap:=h' }) (t':=s.toks) (ch:=fpN B zs.length) I1 (fun c o hc e=>(u2.2 c fun z=>hc (by rw[z];exact fpN_iff.mpr ⟨by lia,by lia⟩)).trans e) fun c hc=>⟨hn c hc,(hf c hc).2⟩;have up:∀(c:Nat) o,c≠B+zs.length+2->h'.get? c=sO o->h8.get? c=sO o:=fun c o n e=>(u2.2 c n).trans e;refine⟨.ref s.heap.objs.size,_,I2,rfl,⟨_,vs,rfl,I.fresh,rfl,vl,fun j k a xs hj hx=>?_⟩,⟨z2,up _ _ (by lia) h3.ti,let ⟨us,c,e⟩:=h3.to;⟨us,c,up _ _ (by lia) e⟩,fun j k a hj=>(h3.it j k a hj).at fun o e=>up _ _ (by have:=(ud.mp hj).1;lia) e⟩,hn⟩;obtain⟨xs',g1,g2⟩:=hv j k a hj;rw[I.sqk_inj hx g1];exact g2
   ·unfold rawInt at z
    cases z
  ·obtain⟨xs,g1,g2⟩:=hv j _ _ (ui jl)
   obtain⟨q,f1,f2,f3,_⟩:=hm j _ (ui jl);obtain⟨v,hw⟩:∃v,vs[j]?=sO v:=⟨_,ui (by lia)⟩;rw[I.sqk_inj g1 f2,hw]at g2;obtain⟨u',f4,f5⟩:=f3.get g2;rw[f1,Option.bind_some,f4]at hn;cases hn
 done:=by
  intro X hP hw hK hc i pins s σ H E I hf st hg;subst hP hw hK;obtain⟨hv,j0,k0,a0,x0,hj0,hx0,hl0⟩:=hg;obtain⟨m,hm⟩:=VR (R:=fun p (q:List V×List aA)=>SqK p.1 X.K H p.2 q.1/\Vals q.1 q.2/\Sq p.1 s.heap p.2 q.2.toArray) zs fun j p hj=>by
   obtain⟨xs,h1⟩:=hv j p.1 p.2 hj;obtain⟨its,v1,q1,_⟩:=I.sqk h1;exact⟨(xs,its),h1,v1,q1⟩
  have at_:AtN zs s.heap B i fun j=>(m[j]?).bind fun q=>q.2[i]?:=fun j k a hj=>by
   obtain⟨q,e1,_,_,e2⟩:=hm j (k,a) hj;exact⟨la j k a hj,_,e2,by(show _=(m[j]?).bind _);rw[e1];simp⟩
  refine vt (I.ok.hd hc) st (.inl rfl) hz hs at_ (fun h' us T c h1 h2 h3 h4 h5 h6 h7=>?_) fun h' j jl hn kz=>⟨rfl,I.turns (t':=s.toks) (ch:=fpN B zs.length) kz.of hf⟩;have jl:=(ud.mp hj0).1;obtain⟨q,f1,f2,f3,_⟩:=hm j0 _ hj0;have f4:=f3.length;have e:=h2 j0 jl;rw[<- I.sqk_inj hx0 f2]at f4;rw[f1,Option.bind_some,U8 (by lia),Array.getElem?_eq_none_iff]at e;lia
 self:=fun _ _ _ _ _ st h=>by
  have ty:Shared.TypeIs _ (.ref (B+zs.length+2)) "zip":=⟨_,st.z,rfl⟩;exact wpAny_pyIter_slot ty F.slot_zip_iter (wpAny_call_entry F.slot_zip_iter ty F.entry_zip_iter (pO ⟨_,rfl,"zip",_,ty,F.slot_zip_next.lookup,h⟩) (F.args_zip_iter_1 (.ref (B+zs.length+2))))
abbrev Itz(K:uc)(k m:Bool)(a b:aO):It:=ItN K [(k,a),(m,b)]
section
variable{K:uc}{k e:Bool}{xs ys zs:List V}{x y z v:V}
theorem go2(q1:SqK k K H a xs)(q2:SqK m K H b ys)(hx:xs[i]?=sO x)(hy:ys[i]?=sO y):(Itz K k m a b).go i H:=⟨[x,y],rfl,fun j k' a' hj=>by
 match j,hj with
 |0,hj=>cases hj;exact⟨xs,q1,hx⟩
 |1,hj=>cases hj;exact⟨ys,q2,hy⟩⟩
theorem zbh(q1:SqK k K H a xs)(q2:SqK m K H b ys)(h:xs.length<=i):(Itz K k m a b).stop i H:=⟨fun j k' a' hj=>by
 match j,hj with
 |0,hj=>cases hj;exact⟨xs,q1⟩
 |1,hj=>cases hj;exact⟨ys,q2⟩,0,k,a,xs,rfl,q1,h⟩
theorem yld2(h:(Itz K k m a b).yld i H v H')(q1:SqK k K H a xs)(q2:SqK m K H b ys):∃T x y,v=.ref T/\H T=nO/\H'=upd H T (.tup [x,y])/\xs[i]?=sO x/\ys[i]?=sO y:=by
 obtain⟨T,vs,h1,h2,h3,h4,h5⟩:=h;obtain⟨x,vs,rfl⟩:=Uo h4;obtain⟨y,vs,rfl⟩:=Uo (Nat.succ.inj h4);rw[Ug.mp (Nat.succ.inj (Nat.succ.inj h4))]at h3 h5;exact⟨T,x,y,h1,h2,h3,h5 0 k a xs rfl q1,h5 1 m b ys rfl q2⟩
end
def iZip(K:uc)(ta:TA):TI:=fun σ H R=>ta σ H fun vs H1=>∃a b k m xs ys,vs=[.ref a,.ref b]/\SqK k K H1 a xs/\SqK m K H1 b ys/\R (Itz K k m a b) H1
theorem zcw{a b:Expr}{ta:TA}(hg:Gl X "zip")(hm:X.mg "zip"=nO)(ha:PA X [a,b] ta)(h1:starEach [a,b] X.env=[(fO,eval a X.env),(fO,eval b X.env)]:=by rfl)(h2:starEach [b] X.env=[(fO,eval b X.env)]:=by rfl):
  PI X (.Tuple elts n tpos) (.Call (.Name "zip" p) [a,b] [] pos) (iZip X.K ta):=by
 intro pins s σ H R I h;refine Call_ (xp I hg hm boot_zip (Um (thn (ha pos pins s σ H _ I h) fun us s1 g=>?_) (by rw[h1,h2]) (by rw[h2];rfl)));obtain⟨vs,H1,I1,r1,a1,b1,k,m,xs,ys,rfl,g1,g2,q⟩:=g;obtain⟨u,u',rfl,e1,e2⟩:=Vl r1;cases e1;cases e2;obtain⟨i1,v1,q1,z1,l1⟩:=I1.sqk g1;obtain⟨i2,v2,q2,z2,l2⟩:=I1.sqk g2;refine Yb q1 q2 fun h' Z sz kp=>?_;have tz:=Yd (P:=X.prog) (w:=X.w) (K:=X.K) (elts:=elts) (n:=n) (pos:=tpos) (zs:=[(k,a1),(m,b1)]) (B:=s1.heap.objs.size) (by show 0 < 2;decide) sN2 fun j k' a' hj=>by
  match j,hj with
  |0,hj=>cases hj;exact l1
  |1,hj=>cases hj;exact l2
 refine tz.self X.A 0 { s1 with heap:=h' } _ _ Z ⟨s1.heap.objs.size+4,_,_,_,H1,rfl,I1.kept (t':=s1.toks) kp,tz,Z,fun c hc=>?_,q⟩;have le:s1.heap.objs.size<=c:=(fpN_iff.mp hc).1;exact I1.fpOk le (I1.hok.fresh le)
theorem zcx{a b:Expr}{t:TA}(hg:Gl X "zip")(hm:X.mg "zip"=nO)(ha:jA X [a,b] t)(h1:zy a=fO:=by rfl)(h2:zy b=fO:=by rfl):jI X (.Tuple elts n tpos) (.Call (.Name "zip" p) [a,b] [] pos) (iZip X.K t) :=
 ⟨zcw hg hm ha.out (by rw[zE h1,zE h2];rfl) (by rw[zE h2];rfl)⟩
structure Ca(P:Program)(w:World)(K:uc)(mg:Str->Option aA)(base:Heap)(CX:CXT)(k:Nat)(x:Str)(ps:lS)(sp:Sp):Prop where
 ex:∃f fd,FnOk P w K mg base CX k f fd ps sp/\Binds K fd ps []/\u5 K (.ref f)=tV/\mg x=sO (.ref f)
structure Me(P:Program)(w:World)(K:uc)(mg:Str->Option aA)(base:Heap)(CX:CXT)(k:Nat)(C:aO)(m:Str)(ps:lS)(sp:Sp):Prop where
 ex:∃f fd,FnOk P w K mg base CX k f fd ps sp/\Binds K fd ps []/\Meth K C m f
structure Ma(P:Program)(w:World)(K:uc)(mg:Str->Option aA)(base:Heap)(CX:CXT)(k:Nat)(x:Str)(C:aO)(ps:lS)(sp:Sp):Prop where
 ex:∃f fd,Mk K C f/\FnOk P w K mg base CX k f fd ps sp/\Binds K fd ps []/\mg x=sO (.ref C)
section
variable{k:Nat}{E:XK}{x m n f:Str}{np epos hpos:Pos}{a:Expr}{as:List Expr}{tv:TE}{t:TA}
theorem zbi(F:Ca X.prog X.w X.K X.mg X.base CX k x ps sp)(hr:Room k X.A)(hg:Gl X x)(hx:yS CX X E)(ha:jA X (e::es) t)(hdb:(x == ("__debug__":Str))=fO:=by decide)(h1:zy e=fO:=by rfl)(h2:es.all (fun e=>!zy e)=tV:=by rfl):
  jE X (.Call (.Name x p) (e::es) [] pos) (Z2 sp [] E t):=let ⟨_,_,G,b,kp,mg⟩:=F.ex;zdH G hr hg mg kp b .nil hx ha hdb h1 h2
theorem vN{pl:Sem Bool}(he:jE X o ta)(c:Cls X.K C)(F:Me X.prog X.w X.K X.mg X.base CX k C m ps sp)(hr:Room k X.A)(hx:yS CX X E)(ha:jA X (e::es) t)(h1:zy e=fO:=by rfl)(h2:es.all (fun e=>!zy e)=tV:=by rfl)
  (ht:eval (.Call (.Attribute o m apos) (e::es) [] pos) X.env=(do
   let ov <- eval o X.env
   standAt apos.atName
   let (f,first) <- holding [ov] (getMethod ov m pl)
   callWith pos f first (backTo pos (starEach (e::es) X.env)) (backToKw pos (keywordEach [] X.env))):=by rfl) :
  jE X (.Call (.Attribute o m apos) (e::es) [] pos) (za5 C m sp [] E ta t):=let ⟨_,_,G,b,mt⟩:=F.ex;⟨QE he.out c mt G hr b .nil hx ha.out (zE h1) (yB h2) ht⟩
theorem vm(F:Ma X.prog X.w X.K X.mg X.base CX k x C ps sp)(hr:Room (k+1) X.A)(hg:Gl X x)(hx:yS CX X E)(ha:jA X (e::es) t)(hdb:(x == ("__debug__":Str))=fO:=by decide)(h1:zy e=fO:=by rfl)(h2:es.all (fun e=>!zy e)=tV:=by rfl):
  jE X (.Call (.Name x p) (e::es) [] pos) (za6 C sp [] E t):=let ⟨_,_,M,G,b,mg⟩:=F.ex;⟨QF M G hr hg mg b .nil hx ha.out hdb (zE h1) (yB h2)⟩
theorem zcy(he:jE X e ta)(hb:attributeBase e f X.env (eval e X.env)=eval e X.env:=by rfl):jE X (.Attribute e f pos) (tFld X.K ta f):=⟨zca he.out hb⟩
theorem xj(ha:jE X o ta)(hv:jE X value tv)(hs:swapsWith value (sO (.Attribute o f pos')) pos.line X.env=pure fO:=by rfl):jS X (.Assign [.Attribute o f pos'] value pos) (sFld X.K ta tv f):=⟨zcb ha.out hv.out hs⟩
end
end L2
namespace L2
open PySem
section
variable{p q:Pos}
theorem jA1(h1:jE X e1 t1)(s1:zy e1=fO:=by rfl):jA X [e1] (z5 t1 tNil):=(ja_c h1 zL s1)
theorem jA2(h1:jE X e1 t1)(h2:jE X e2 t2)(s1:zy e1=fO:=by rfl)(s2:zy e2=fO:=by rfl):jA X [e1,e2] (z5 t1 (z5 t2 tNil)):=(ja_c h1 (ja_c h2 zL s2) s1)
theorem jA3(h1:jE X e1 t1)(h2:jE X e2 t2)(h3:jE X e3 t3)(s1:zy e1=fO:=by rfl)(s2:zy e2=fO:=by rfl)(s3:zy e3=fO:=by rfl):jA X [e1,e2,e3] (z5 t1 (z5 t2 (z5 t3 tNil))):=(ja_c h1 (ja_c h2 (ja_c h3 zL s3) s2) s1)
theorem jA4(h1:jE X e1 t1)(h2:jE X e2 t2)(h3:jE X e3 t3)(h4:jE X e4 t4)(s1:zy e1=fO:=by rfl)(s2:zy e2=fO:=by rfl)(s3:zy e3=fO:=by rfl)(s4:zy e4=fO:=by rfl):jA X [e1,e2,e3,e4] (z5 t1 (z5 t2 (z5 t3 (z5 t4 tNil)))):=(ja_c h1 (ja_c h2 (ja_c h3 (ja_c h4 zL s4) s3) s2) s1)
theorem jA5{t5:TE}(h1:jE X e1 t1)(h2:jE X e2 t2)(h3:jE X e3 t3)(h4:jE X e4 t4)(h5:jE X e5 t5)(s1:zy e1=fO:=by rfl)(s2:zy e2=fO:=by rfl)(s3:zy e3=fO:=by rfl)(s4:zy e4=fO:=by rfl)(s5:zy e5=fO:=by rfl):jA X [e1,e2,e3,e4,e5] (z5 t1 (z5 t2 (z5 t3 (z5 t4 (z5 t5 tNil))))):=(ja_c h1 (ja_c h2 (ja_c h3 (ja_c h4 (ja_c h5 zL s5) s4) s3) s2) s1)
theorem jA6{t5:TE}{e6:Expr}{t6:TE}(h1:jE X e1 t1)(h2:jE X e2 t2)(h3:jE X e3 t3)(h4:jE X e4 t4)(h5:jE X e5 t5)(h6:jE X e6 t6)(s1:zy e1=fO:=by rfl)(s2:zy e2=fO:=by rfl)(s3:zy e3=fO:=by rfl)(s4:zy e4=fO:=by rfl)(s5:zy e5=fO:=by rfl)(s6:zy e6=fO:=by rfl):jA X [e1,e2,e3,e4,e5,e6] (z5 t1 (z5 t2 (z5 t3 (z5 t4 (z5 t5 (z5 t6 tNil)))))):=(ja_c h1 (ja_c h2 (ja_c h3 (ja_c h4 (ja_c h5 (ja_c h6 zL s6) s5) s4) s3) s2) s1)
theorem jA7{t5:TE}{e6:Expr}{t6:TE}{e7:Expr}{t7:TE}(h1:jE X e1 t1)(h2:jE X e2 t2)(h3:jE X e3 t3)(h4:jE X e4 t4)(h5:jE X e5 t5)(h6:jE X e6 t6)(h7:jE X e7 t7)(s1:zy e1=fO:=by rfl)(s2:zy e2=fO:=by rfl)(s3:zy e3=fO:=by rfl)(s4:zy e4=fO:=by rfl)(s5:zy e5=fO:=by rfl)(s6:zy e6=fO:=by rfl)(s7:zy e7=fO:=by rfl):jA X [e1,e2,e3,e4,e5,e6,e7] (z5 t1 (z5 t2 (z5 t3 (z5 t4 (z5 t5 (z5 t6 (z5 t7 tNil))))))):=(ja_c h1 (ja_c h2 (ja_c h3 (ja_c h4 (ja_c h5 (ja_c h6 (ja_c h7 zL s7) s6) s5) s4) s3) s2) s1)
theorem cA{k:Nat}{t:TA}(F:Ca X.prog X.w X.K X.mg X.base CX0 k x ps sp)(hr:Room k X.A)(ha:jA X (e::es) t)(hg:Gl X x:=by rfl)(hdb:(x == ("__debug__":Str))=fO:=by decide)(h1:zy e=fO:=by rfl)(h2:es.all (fun e=>!zy e)=tV:=by rfl):jE X (.Call (.Name x p) (e::es) [] pos) (Z2 sp [] E0 t):=zbi F hr hg yI ha hdb h1 h2
theorem xX{r:R2}{a b:Expr}(hr:jIx X r)(ha:jE X a ta)(hb:jE X b tb)(hs:j9 b:=by exact fun _ _=>rfl):jE X (.Subscript a b pos) (tOp r ta tb):=Z5 hr ha hb hs
theorem xT(i:Nat){n j}(hN:X.N[i]?=sO x:=by rfl)(hv:Vis X.env.scope x:=by first|exact Or.inl rfl|exact Or.inr (Or.inl rfl)|exact Or.inr (Or.inr rfl))(hd:(x == ("__debug__":Str))=fO:=by decide)(hcd:(x == ("__classdict__":Str))=fO:=by decide):jE X (.Subscript (.Name x p) (.Constant (.int n) j q) pos) (tOp (rIxT X.K) (tVar i) (tC (.int n))):=Z5 VF (jv i hN hv hd hcd) zo (fun _ _=>rfl)
theorem xL(i:Nat){n j}(hN:X.N[i]?=sO x:=by rfl)(hv:Vis X.env.scope x:=by first|exact Or.inl rfl|exact Or.inr (Or.inl rfl)|exact Or.inr (Or.inr rfl))(hd:(x == ("__debug__":Str))=fO:=by decide)(hcd:(x == ("__classdict__":Str))=fO:=by decide):jE X (.Subscript (.Name x p) (.Constant (.int n) j q) pos) (tOp (rIxL X.K) (tVar i) (tC (.int n))):=Z5 XT (jv i hN hv hd hcd) zo (fun _ _=>rfl)
theorem sE(i:Nat)(hN:X.N.Nodup)(he:jE X e te)(hi:X.N[i]?=sO x:=by rfl)(hx:Loc X.env.scope x:=by first|exact Or.inl rfl|exact Or.inr rfl)(hs:swapsWith e (sO (.Name x q)) pos.line X.env=pure fO:=by rfl)(hf:X.fn x=tV\/X.env.scope.names.lookup x=sO .local:=by first|exact .inl rfl|exact .inr rfl|assumption):jS X (.Assign [.Name x q] e pos) (tAsg te (xZ i)):=VC hN hi hx he hs hf
theorem gN(i:Nat)(hN:X.N.Nodup)(hi:X.N[i]?=sO x:=by rfl)(hx:Loc X.env.scope x:=by first|exact Or.inl rfl|exact Or.inr rfl)(hf:X.fn x=tV\/X.env.scope.names.lookup x=sO .local:=by first|exact .inl rfl|exact .inr rfl|assumption):jG X (.Name x pos) (xZ i):=QS hN hi hx hf
theorem tN{r:R2}{a c:Expr}(ho:jOp X (compareOp op) r)(ha:jE X a ta)(hb:jE X c tb)(hm:behindInMarks op c=fO:=by exact wX _):jT X (.Compare a [op] [c] pos) (vH (tOp r ta tb)):=Zf ho ha hb hm
theorem aB{p q:Prop}[Decidable p](h:¬ p:=by decide):p->q:=fun c=>absurd c h
end
end L2
namespace L2
open PySem PySem.Spec PyProof.Rows
variable{xs:Array aA}
theorem zbj{j l:aO}{xs:Array aA}(ne:l≠j):∀(k i:Nat)(s:Shared)(Q:List aA->Shared->Prop),s.heap.IsListIter j l i->s.heap.IsList l xs->i+k<=xs.size ->
  (∀h',h'.IsListIter j l (i+k)->Heap.SameBut j s.heap h'->Q ((xs.toList.drop i).take k) { s with heap:=h' })->wpAny (model P w) A (draw (.ref j) k) Q E s
 |0,i,s,Q,hj,_,_,q=>pO (by simpa using q s.heap hj (Heap.SameBut.refl ..))
 |k+1,i,s,Q,hj,hl,le,q=>by
  have lt:i < xs.size:=by lia
  refine bA (m:=pyNext (.ref j)) (wpAny_pyNext_list_item hj hl (Array.getElem?_eq_getElem lt) fun h1 j1 u1=>?_);refine bA (wpAny_holding (zbj ne k (i+1) _ _ j1 (hl.extBut u1.extBut ne) (by lia) fun h2 j2 u2=>pO ?_));have e:xs.toList.drop i=xs[i]::xs.toList.drop (i+1):=by simp[UG,lt]
  have r:=q h2 (by rw[show i+(k+1)=i+1+k by lia];exact j2) (u1.trans u2);rw[e,List.take_succ_cons]at r;exact r
theorem Q3{l:aO}{ts:List (Bool×(aA->Sem Unit))}(hA:A.handled=nO)(hl:s.heap.IsList l xs)(hn:ts.length=xs.size)(hs:ts.findIdx? (·.1)=nO)
  (q:∀h',Heap.ExtBut s.heap.objs.size s.heap h'->wpAny (model P w) A (assignInOrder (ts.map (·.2)) xs.toList) Q E { s with heap:=h' }):wpAny (model P w) A (unpack (.ref l) ts) Q E s:=by
 have ne:l≠s.heap.objs.size:=by
  obtain⟨o,ho,_⟩:=hl;exact uT (uC ho)
 unfold unpack;rw[hn,hs];refine bA (wpAny_holding ?_);unfold unpackItems;refine bA ?_;unfold notIterableAtAll;refine bA (wpAny_specialOf hl.typeIs slot_list_iter.lookup (pO ?_));simp only[tR,if_false]
 refine bA (wpAny_holding (wpAny_pyIter_list hl ?_));refine bA (wpAny_holding (zbj ne xs.size 0 _ _ ⟨_,uu _ rfl,rfl,rfl⟩ (hl.push _) (by lia) fun h1 j1 u1=>?_));have all:List.take xs.size (List.drop 0 xs.toList)=xs.toList:=by rw[tD];exact uo (by simp)
 rw[all,iN (by simp)];refine bA (wpAny_holding (wpAny_pyNext_list_end hA j1 ((hl.push _).extBut u1.extBut ne) (by simp) fun h2 e2=>?_));simp only[Option.isSome_none,tR,if_false]
 exact pO (q h2 fun b o hb e=>e2 b o hb (u1.extBut b o hb (ue _ e)))
def gLst(K:uc)(n:Nat)(t:TGs):TG:=fun v σ H Q=>∃a xs,v=.ref a/\SqL K H a xs/\xs.length=n/\t xs σ H Q
theorem zcz{k:Nat}{t:TGs}(hc:X.calm=tV)(h:PGs X es t)
  (hn:(assignEach es X.env).length=n:=by rfl) (hst:(assignEach es X.env).findIdx? (·.1)=nO:=by rfl):PG X (.Tuple es k pos) (gLst X.K n t):=by
 intro pins s σ H v u Q I r g;obtain⟨a,xs,rfl,hq,hl,g⟩:=g;cases r;obtain⟨its,rv,p,hz⟩:=I.list hq;rw[assign_Tuple];refine bA (wpAny_standAt (Q3 (I.ok.hd hc) p.isList (by simp[hn,<- hl,rv.length]) hst fun h' hx=>?_));have I1:Inv X pins σ H { s with heap:=h' }:=I.kept (t':=s.toks) fun b o e=>hx b o (uT (uC e)) e;exact h pins _ σ H xs _ Q I1 (by simpa using rv) g
theorem zcA{k:Nat}(hc:X.calm=tV)(h:jGs X es gs)(hn:(assignEach es X.env).length=n:=by rfl)(hst:(assignEach es X.env).findIdx? (·.1)=nO:=by rfl):jG X (.Tuple es k pos) (gLst X.K n gs):=⟨zcz hc h.out hn hst⟩
end L2
namespace L2
open PySem
variable{p:List aA->Prop}
theorem zN:sizeLine=16777216:=by decide
def FnIn(K:uc)(x qual:Str)(st:Stmt)(f:aO):Prop:=∃(oc:aA)(od:Option aO)(kV doc pm:aA)(an:Option aO)(cdv ct:aA)(osl:Array (Option aA)),K.lookup f=sO ⟨oc,od,.func (Ul x qual (yf st) (zO st) (zt st) .none kV doc pm an cdv ct),osl⟩/\UN K cdv qual=tV/\u5 K (.ref f)=tV
theorem FnIn.fn{K:uc}(h:FnIn K x qual st f):∃fd,Fun K x qual st f fd/\u5 K (.ref f)=tV:=by
 obtain⟨_,_,_,_,_,_,_,_,_,l,c,k⟩:=h;exact⟨_,Vw l c k,k⟩
def DfIn(K:uc)(x:Str)(st:Stmt):Prop:=∃f,UK K mainGlobals x=sO (sO (.ref f))/\FnIn K x x st f
def MeIn(K:uc)(C:aO)(x qual:Str)(st:Stmt):Prop:=∃f,uZ K (.ref C) x=sO (sO (.ref f))/\PySem.W.isFn K (.ref f)=tV/\FnIn K x qual st f
theorem MeIn.me{K:uc}{k:Nat}(h:MeIn K C x qual st)(hb:∀(kV doc pm:aA)(an:Option aO)(cdv ct:aA)(us:List aA),us.length=ps.length->bindArgs (Ul x qual (yf st) (zO st) (zt st) .none kV doc pm an cdv ct) ⟨us,[]⟩=pure (ps.zip us))
  (ok:∀f fd,Fun K x qual st f fd->FnOk P w K mg base CX k f fd ps sp):Me P w K mg base CX k C x ps sp:=by
 obtain⟨f,a,n,g⟩:=h;obtain⟨fd,F,kp⟩:=g.fn;exact⟨f,fd,ok f fd F,F.binds hb,a,n,kp⟩
theorem MeIn.ma{K:uc}{k:Nat}(h:MeIn K C "__init__" qual st)(hb:∀(kV doc pm:aA)(an:Option aO)(cdv ct:aA)(us:List aA),us.length=ps.length->bindArgs (Ul "__init__" qual (yf st) (zO st) (zt st) .none kV doc pm an cdv ct) ⟨us,[]⟩=pure (ps.zip us))
  (mk:PySem.W.makesIn K C=tV) (kp:u5 K (.ref C)=tV) (hm:mg x=sO (.ref C)) (ok:∀f fd,Fun K "__init__" qual st f fd->FnOk P w K mg base CX k f fd ps sp):Ma P w K mg base CX k x C ps sp:=by
 obtain⟨f,a,n,g⟩:=h;obtain⟨fd,F,_⟩:=g.fn;exact⟨f,fd,⟨mk,a,n,kp⟩,ok f fd F,F.binds hb,hm⟩
theorem DfIn.ca{K:uc}{k:Nat}(X:K.In h)(G:h.Ns mainGlobals mg)(d:DfIn K x st)(hb:∀(kV doc pm:aA)(an:Option aO)(cdv ct:aA)(us:List aA),us.length=ps.length->bindArgs (Ul x x (yf st) (zO st) (zt st) .none kV doc pm an cdv ct) ⟨us,[]⟩=pure (ps.zip us))
  (ok:∀f fd,Fun K x x st f fd->FnOk P w K mg base CX k f fd ps sp):Ca P w K mg base CX k x ps sp:=by
 obtain⟨f,a,g⟩:=d;obtain⟨fd,F,kp⟩:=g.fn;exact⟨f,fd,ok f fd F,F.binds hb,kp,U7 X G a⟩
theorem DfIn.mk{K:uc}{kV:aA}(a:UK K mainGlobals x=sO (sO (.ref f)))(l:K.lookup f=sO ⟨oc,od,.func (Ul x x (yf st) (zO st) (zt st) .none kV doc pm an cdv ct),osl⟩)(c:UN K cdv x=tV)(k:u5 K (.ref f)=tV):DfIn K x st:=⟨f,a,oc,od,kV,doc,pm,an,cdv,ct,osl,l,c,k⟩
theorem MeIn.mk{K:uc}{kV:aA}(a:uZ K (.ref C) x=sO (sO (.ref f)))(l:K.lookup f=sO ⟨oc,od,.func (Ul x qual (yf st) (zO st) (zt st) .none kV doc pm an cdv ct),osl⟩)(c:UN K cdv qual=tV)(k:u5 K (.ref f)=tV)(n:PySem.W.isFn K (.ref f)=tV):MeIn K C x qual st:=⟨f,a,n,oc,od,kV,doc,pm,an,cdv,ct,osl,l,c,k⟩
structure OwnIn(K:uc)(x:Str)(C:aO):Prop where
 n:UK K mainGlobals x=sO (sO (.ref C))
 pg:tF K C Str.empty=tV
 hd:PySem.W.hasDictIn K C=tV
 po:PySem.W.plainOver K C=tV
 sa:uZ K (.ref C) "__setattr__"=sO (sO (.builtin "object.__setattr__"))
 mks:PySem.W.makesIn K C=tV
 kp:u5 K (.ref C)=tV
theorem OwnIn.cls{K:uc}(o:OwnIn K x C):Cls K C:=⟨o.pg,o.hd,o.po,o.sa⟩
theorem usS(h:∀a us,us.length=n->p (a::us)):∀us:List aA,us.length=n+1->p us:=fun us=>by
 cases us with
 |nil=>exact fun e=>by cases e
 |cons a r=>exact fun e=>h a r (Nat.succ.inj e)
theorem us1(h:∀a,p [a]):∀us:List aA,us.length=1->p us:=usS fun a us e=>by rw[Ug.mp e];exact h a
theorem us2(h:∀a b,p [a,b]):∀us:List aA,us.length=2->p us:=usS fun a=>us1 (p:=fun l=>p (a::l)) (h a)
theorem us3(h:∀a b c,p [a,b,c]):∀us:List aA,us.length=3->p us:=usS fun a=>us2 (p:=fun l=>p (a::l)) (h a)
theorem us4(h:∀a b c d,p [a,b,c,d]):∀us:List aA,us.length=4->p us:=usS fun a=>us3 (p:=fun l=>p (a::l)) (h a)
theorem us5(h:∀a b c d e,p [a,b,c,d,e]):∀us:List aA,us.length=5->p us:=usS fun a=>us4 (p:=fun l=>p (a::l)) (h a)
theorem us6(h:∀a b c d e f,p [a,b,c,d,e,f]):∀us:List aA,us.length=6->p us:=usS fun a=>us5 (p:=fun l=>p (a::l)) (h a)
section
variable{a b c d e u:TS}{σ:List (Option V)}
theorem cut1(h:∀v:TS,u=v->(tSeq a v:TS) D σ H):(tSeq a u:TS) D σ H:=h u rfl
theorem cut2(h:∀v:TS,u=v->(tSeq a (tSeq b v):TS) D σ H):(tSeq a (tSeq b u):TS) D σ H:=h u rfl
theorem cut4(h:∀v:TS,u=v->(tSeq a (tSeq b (tSeq c (tSeq d v))):TS) D σ H):(tSeq a (tSeq b (tSeq c (tSeq d u))):TS) D σ H:=h u rfl
theorem cut5(h:∀v:TS,u=v->(tSeq a (tSeq b (tSeq c (tSeq d (tSeq e v)))):TS) D σ H):(tSeq a (tSeq b (tSeq c (tSeq d (tSeq e u)))):TS) D σ H:=h u rfl
theorem ixT{K:uc}{Q:VK}{p:aO}{i:Int}{v:V}(h:H p=sO (.tup xs))(a:atI xs i=sO v)(q:Q v H):tC (.int i) σ H fun y H2=>rIxT K (.ref p) y H2 Q:=⟨p,xs,i,v,rfl,rfl,SqT.of h,a,q⟩
theorem ixL{K:uc}{Q:VK}{p:aO}{i:Int}{v:V}(h:H p=sO (.lst xs))(a:atI xs i=sO v)(q:Q v H):tC (.int i) σ H fun y H2=>rIxL K (.ref p) y H2 Q:=⟨p,xs,i,v,rfl,rfl,SqL.of h,a,q⟩
theorem nxtC{E:Ends}(h:E.nx σ H):xA E σ H:=h
end
end L2
namespace L2
open PySem PySem.Spec PyProof.Rows
variable{o:HO}
def BMn(mg:Str->Option aA)(h:Heap):Prop:=∃bm ob,mg "__builtins__"=sO (.ref bm)/\bm≠builtinsNs/\h.get? bm=sO ob/\ob.cls=.type "module"/\ob.dict=sO builtinsNs/\ob.data=.plain
theorem BMn.at{P:aO}{ps:Array aA}(B:BMn mg h)(g:h.Ns mainGlobals mg)(hP:h.get? P=sO { cls:=.none,data:=.fields ps }):h.BuiltinsAt mg P/\mainGlobals≠P:=by
 obtain⟨bm,ob,b1,b2,b3,b4,b5,b6⟩:=B;refine⟨⟨bm,ob,b1,b2,fun q=>?_,fun q=>?_,b3,b4,b5,b6⟩,fun q=>?_⟩
 ·obtain⟨o,es,ep,e,hd,_⟩:=g
  rw[q,e]at b3;cases b3;rw[hd]at b6;cases b6
 ·rw[q,hP]at b3;cases b3;cases b4
 ·obtain⟨o,es,ep,e,hd,_⟩:=g
  rw[q,hP]at e;cases e;cases hd
theorem BMn.keeps(B:BMn mg h)(k:∀b o,h.get? b=sO o->h'.get? b=sO o):BMn mg h' :=
 let ⟨bm,ob,b1,b2,b3,r⟩:=B;⟨bm,ob,b1,b2,k _ _ b3,r⟩
def FunO(f:aO)(fd:FuncData):HO:=.ext fun h=>h.get? f=sO { cls:=.type "function",data:=.func fd }
def CodO(c:aO)(qual:Str):HO:=.ext fun h=>h.CodeRec (.ref c) qual
theorem VS(e:h.get? f=sO { cls:=.type "function",data:=.func fd }):ObjOk P w H h f (FunO f fd) :=
 ⟨e,⟨_,e⟩,fun _ _ p k=>k _ p⟩
theorem zcB(e:h.CodeRec (.ref c) qual):ObjOk P w H h c (CodO c qual) :=
 ⟨e,(let ⟨_,oc,_,_,q,e,_⟩:=e;by cases q;exact⟨oc,e⟩),fun _ _ ⟨d,oc,vs,t,q,e,r⟩ k=>by cases q;exact⟨c,oc,vs,t,rfl,k _ e,r⟩⟩
structure CaD(P:Program)(w:World)(K:uc)(mg:Str->Option aA)(base:Heap)(CX:CXT)(k:Nat)(x:Str)(ps:lS)(dvs:List V)(sp:Sp):Prop where
 ex:∃f fd,FnOk P w K mg base CX k f fd ps sp/\Binds K fd ps []/\(∃ds,Binds K fd ps ds/\Vals dvs ds)/\u5 K (.ref f)=tV/\mg x=sO (.ref f)
def Itv(K:uc)(a:aO)(n:Nat):It :=
 ⟨fun i H=>i < n/\∃xs x,SqL K H a xs/\xs[n-1-i]?=sO x,fun i H x H'=>H'=H/\∀xs,SqL K H a xs->xs[n-1-i]?=sO x,fun i _=>n<=i⟩
theorem VT{K:uc}(a it:aO)(n:Nat):Turn P w K tg (Itv K a n) [it] it (fun i h=>i<=n/\h.IsRevIter it a ((n:Int)-1-(i:Nat))) where
 mem:=by simp
 obj:=fun i h st b hb=>by
  have e:b=it:=by simpa using hb
  subst e;obtain⟨_,o,e,c,d⟩:=st;exact⟨o,e,fun v z=>by rw[d]at z;cases z⟩
 keep:=fun i h h' st k=>⟨st.1,st.2.at fun o e=>k it (by simp) o e⟩
 item:=by
  intro X hP hw hK hc i pins s σ H E I hf st hg;subst hP hw hK;obtain⟨hi,xs,x,hq,hx⟩:=hg;obtain⟨its,rv,p,hz⟩:=I.list hq;obtain⟨u,hu,ru⟩:=rv.get hx;obtain⟨f0,f1,f2,f3,f4,f5⟩:=hf it (by simp);obtain⟨_,st2⟩:=st;have e1:(n:Int)-1-(i:Nat)=((n-1-i:Nat):Int):=by lia
  rw[e1]at st2;refine wpAny_pyNext_rev_item st2 p.isList (x:=u) (by simpa using hu) fun h' st' sb=>?_;have I1:Inv X pins σ H { s with heap:=h' }:=I.turned (t':=s.toks) (fun b o hb e=>(sb.2 b hb).trans e) f0 f1 f3 f4 f5;obtain⟨o,e,c,d⟩:=id st';refine⟨u,rfl,Z0 (s:={ s with heap:=h' }) e c d (by decide) ⟨x,H,I1,ru,⟨rfl,fun ys hy=>by rw[I.list_inj hy hq];exact hx⟩,⟨hi,?_⟩,fun b hb=>(hf b hb).1⟩⟩;have e2:(n:Int)-1-((i+1:Nat):Int)=((n-1-i:Nat):Int)-1:=by lia
  rw[e2];exact st'
 done:=by
  intro X hP hw hK hc i pins s σ H E I hf st hg;subst hP hw hK;obtain⟨f0,f1,f2,f3,f4,f5⟩:=hf it (by simp);obtain⟨h1,st2⟩:=st;have h2:n<=i:=hg;have e1:(n:Int)-1-(i:Nat)=-1:=by lia
  rw[e1]at st2;exact wpAny_pyNext_rev_end (I.ok.hd hc) st2 fun h' eb=>⟨rfl,I.turned (t':=s.toks) (fun b o hb e=>eb b o hb e) f0 f1 f3 f4 f5⟩
 self:=fun _ _ _ _ _ st h=>wpAny_pyIter_revIter st.2 h
def iRev(K:uc)(ta:TA):TI:=fun σ H R=>ta σ H fun vs H1=>∃a xs,vs=[.ref a]/\SqL K H1 a xs/\R (Itv K a xs.length) H1
theorem zcC{a:Expr}{ta:TA}{p:Pos}(hg:Gl X "reversed")(hm:X.mg "reversed"=nO)(ha:PA X [a] ta)(hs:starEach [a] X.env=[(fO,eval a X.env)]:=by rfl):PI X tg (.Call (.Name "reversed" p) [a] [] pos) (iRev X.K ta):=by
 intro pins s σ H R I h;refine Call_ (xp I hg hm boot_reversed (Um (thn (ha pos pins s σ H _ I h) fun us s1 ⟨vs,H1,I1,r1,q1⟩=>?_) hs rfl));obtain⟨l,xs,e,hq,q⟩:=q1;subst e;obtain⟨u,rfl,rx⟩:=jt r1;cases rx;obtain⟨its,rv,pl,hz⟩:=I1.list hq;have hl:=rv.length;refine call_reversed_list pl.isList ?_;have hr:(s1.heap.push (revObj l ((its.toArray.size:Int)-1))).IsRevIter s1.heap.objs.size l ((its.toArray.size:Int)-1):=⟨_,uu _ rfl,rfl,rfl⟩;refine wpAny_pyIter_revIter (s:={ s1 with heap:=s1.heap.push (revObj l ((its.toArray.size:Int)-1)) }) hr ?_;refine⟨s1.heap.objs.size,[s1.heap.objs.size],_,_,H1,rfl,I1.kept (t':=s1.toks) fun b o e=>ue _ e,VT l _ xs.length,⟨uK _,?_⟩,fun b hb=>?_,q⟩
 ·have e:(xs.length:Int)-1-((0:Nat):Int)=(its.toArray.size:Int)-1:=by simp[hl]
  rw[e];exact hr
 have e:b=s1.heap.objs.size:=by simpa using hb
 subst e;exact I1.fpOk (uj _) (I1.hok.fresh (uj _))
theorem Xi{a:Expr}{t:TA}{p:Pos}(hg:Gl X "reversed")(hm:X.mg "reversed"=nO)(ha:jA X [a] t)(h:zy a=fO:=by rfl):jI X tg (.Call (.Name "reversed" p) [a] [] pos) (iRev X.K t):=⟨zcC hg hm ha.out (zE h)⟩
theorem Zh{K:uc}{tb:TS}(Pv:Nat->St->Hp->Prop)(h0:Pv 0 σ H)(hl:∀i σ H,i<=xs.length->Pv i σ H->SqL K H a xs)
  (hs:∀i x σ H,xs.reverse[i]?=sO x->Pv i σ H->g x σ H fun σ2 H2=>tb { D with nx:=Pv (i+1),ct:=Pv (i+1),bk:=D.nx } σ2 H2) (hd:∀σ H,Pv xs.length σ H->D.nx σ H) :
  ∃W:Nat->Nat->St->Hp->Prop,(∃m,W 0 m σ H)/\∀i m σ H,W i m σ H ->
   ((Itv K a xs.length).stop i H/\D.nx σ H)\/((Itv K a xs.length).go i H/\∃N:St->Hp->Prop,(∀σ' H',N σ' H'->∃m',m' < m/\W (i+1) m' σ' H')/\∀x H',(Itv K a xs.length).yld i H x H'->g x σ H' fun σ2 H2=>tb { D with nx:=N,ct:=N,bk:=D.nx } σ2 H2):=by
 refine⟨fun i m σ H=>m=xs.length-i/\i<=xs.length/\Pv i σ H,⟨xs.length,by simp,uK _,h0⟩,?_⟩;rintro i m σ H ⟨rfl,hi,p⟩;have q:=hl i σ H hi p;by_cases hlt:i < xs.length
 ·refine .inr ⟨⟨hlt,xs,xs[xs.length-1-i],q,by rw[ui]⟩,Pv (i+1),fun σ' H' p'=>⟨xs.length-(i+1),by lia,rfl,hlt,p'⟩,fun x H' y=>?_⟩
  obtain⟨e,y⟩:=y;subst e;refine hs i x σ _ ?_ p;rw[List.getElem?_reverse hlt];exact y xs q
 ·have e:i=xs.length:=by lia
  subst e;exact .inl ⟨uj _,hd σ H p⟩
section
variable{Q:VK}
theorem vO{K:uc}(Pv:Nat->St->List V->Hp->Prop)(h0:Pv 0 σ [] H)(hl:∀i τ ys H,i<=xs.length->Pv i τ ys H->SqT K H a xs)
  (hs:∀i x τ ys H,xs[i]?=sO x->Pv i τ ys H->g x τ H fun τ2 H2=>tt τ2 H2 fun b H3=>if b=tV then te τ2 H3 fun y H4=>ys.length < sizeLine/\Pv (i+1) τ2 (ys++[y]) H4 else Pv (i+1) τ2 ys H3)
  (hd:∀τ ys H,Pv xs.length τ ys H->∀p,H p=nO->Q (.ref p) (upd H p (.lst ys))):∃W,(∃m,W 0 m σ [] H)/\lcBy (Itt K a) g tt te Q W:=by
 refine⟨fun i m τ ys H=>m=xs.length-i/\i<=xs.length/\Pv i τ ys H,⟨xs.length,by simp,uK _,h0⟩,?_⟩;rintro i m τ ys H ⟨rfl,hi,p⟩;have q:=hl i τ ys H hi p;by_cases hlt:i < xs.length
 ·refine .inr ⟨⟨xs,xs[i],q,by simp[hlt]⟩,Pv (i+1),fun τ' ys' H' p'=>⟨xs.length-(i+1),by lia,rfl,hlt,p'⟩,fun x H' y=>?_⟩
  obtain⟨e,y⟩:=y;subst e;exact hs i x τ ys _ (y xs q) p
 ·have e:i=xs.length:=by lia
  subst e;exact .inl ⟨⟨xs,q,uj _⟩,hd τ ys H p⟩
end
theorem old{q:aO}{u:HO}(hp:H p=nO)(h:H q=sO u):upd H p o q=sO u:=by rw[zj (zi h hp)];exact h
theorem Same.new(s:Same H H1)(hp:H1 p=nO):Same H (upd H1 p o):=fun b u q=>old hp (s b u q)
theorem Same.put(s:Same H H1)(hp:H p=nO):Same H (upd H1 p o):=fun b u q=>by rw[zj (zi q hp)];exact s b u q
theorem wx(K:uc)(h:X.K=K:=by rfl):jIx X (rIxT K):=h ▸ VF
theorem zV(K:uc)(h:X.K=K:=by rfl):jIx X (rIxL K):=h ▸ XT
theorem xF(K:uc)(h:X.K=K:=by rfl):jSl X (rSlL K):=h ▸ QU
theorem Xj(K:uc)(h:X.K=K:=by rfl):jOp X (compareOp .In) (rIn K fO):=h ▸ WA
theorem WB(K:uc)(h:X.K=K:=by rfl):jOp X (compareOp .NotIn) (rIn K tV):=h ▸ Zg
theorem zK(K:uc){k:Nat}(hc:X.calm=tV)(g:jGs X es gs)(h:X.K=K:=by rfl)(hn:(assignEach es X.env).length=n:=by rfl)(hst:(assignEach es X.env).findIdx? (·.1)=nO:=by rfl):jG X (.Tuple es k pos) (gTup K n gs):=h ▸ zcr hc g hn hst
theorem zD(K:uc)(h:X.K=K:=by rfl):jCa X (.builtin "len") (fun xs H Q=>∃p ys,xs=[.ref p]/\(SqL K H p ys\/SqT K H p ys)/\Q (.int ys.length) H):=h ▸ Xf
theorem zF(K:uc)(h:X.K=K:=by rfl):jCa X (.type "tuple") (fun xs H Q=>∃p ys,xs=[.ref p]/\((SqL K H p ys/\∀l,H l=nO->Q (.ref l) (upd H l (.tup ys)))\/(SqT K H p ys/\Q (.ref p) H))):=h ▸ Z8
theorem xG(K:uc)(h:X.K=K:=by rfl):jCa X (.type "list") (fun xs H Q=>∃p ys,xs=[.ref p]/\(SqL K H p ys\/SqT K H p ys)/\∀l,H l=nO->Q (.ref l) (upd H l (.lst ys))):=h ▸ Xg
theorem zI(K:uc){f:Str}(he:jE X e ta)(h:X.K=K:=by rfl)(hb:attributeBase e f X.env (eval e X.env)=eval e X.env:=by rfl):jE X (.Attribute e f pos) (tFld K ta f):=h ▸ zcy he hb
def CelO(c:aO)(v:V):HO:=.ext fun h=>∃u,RelV v u/\h.IsCell c (sO u)
def Cel(H:Hp)(c:aO)(v:V):Prop:=∃o,H c=sO (.frz o (CelO c v))
theorem VU{v:V}{o:Obj}(e:h.get? c=sO o)(d:o.data=.cell (sO u))(r:RelV v u):ObjOk P w H h c (.frz o (CelO c v)) :=
 ⟨e,⟨u,r,o,e,d⟩,⟨o,e⟩,fun _ _ ⟨u,r,o,e,d⟩ k=>⟨u,r,o,k _ e,d⟩⟩
def zZ(H:Hp)(as:List aO):Hp:=fun b=>if b∈as then nO else H b
def xm(H' H:Hp)(as:List aO):Hp:=fun b=>if b∈as then H b else H' b
theorem wz(h:b∈as):zZ H as b=nO:=iP h
theorem zX(h:b∉as):zZ H as b=H b:=iN h
theorem wA(h:b∈as):xm H' H as b=H b:=iP h
theorem yJ(h:b∉as):xm H' H as b=H' b:=iN h
abbrev lamC(mg:Str->Option aA)(qual:Str)(params:Arguments)(body:Expr)(scope:Scope)(cl:List (Str×aO))(c:aO)(ctv:aA):FuncData:=PySem.W.kla_fn "<lambda>" qual params body scope cl ((mg "__name__").getD .none) (.ref c) ctv
def VV(mg:Str->Option aA)(T:aO)(qual:Str)(params:Arguments)(body:Expr)(scope:Scope)(pos:Pos)(cl:List (Str×aO)):TE:=fun _ H Q=>∃ps,H T=sO (.tbl ps)/\TriplesOk ps.toList /\
 ((codeAmong pos ps.toList=nO/\∀(c f:aO)(ctv:aA),H c=nO->H f=nO->f≠c->Q (.ref f) (upd (upd (upd H T (.tbl (ps ++ #[rawInt pos.line,rawInt pos.col,.ref c]))) c (CodO c qual)) f (FunO f (lamC mg qual params body scope cl c ctv)))) \/
   (∃c,codeAmong pos ps.toList=sO (.ref c)/\∀(f:aO)(ctv:aA),H f=nO->Q (.ref f) (upd H f (FunO f (lamC mg qual params body scope cl c ctv)))))
theorem Q4{cl:List (Str×aO)}{body:Expr}(hB:BMn X.mg X.base)(hcode:X.env.code=.ref c)(hc:Ua X.K c T=tV)(hq:X.env.qual ++ "<lambda>"=qual)
  (hdef:defaultsOf params X.env=([],[])) (hcl:closureFor scope X.env=pure cl):PE X (.Lambda params body scope pos) (VV X.mg T qual params body scope pos cl):=by
 intro pins s σ H Q I h;refine PySem.W.kla_eval hdef ?_;rw[hq];obtain⟨ps,hT,tr,h⟩:=h;have gT:s.heap.get? T=sO { cls:=.none,data:=.fields ps }:=I.hok T _ hT;have hg:=I.mod.glob.keeps I.bk;obtain⟨bAt,hgP⟩:=(hB.keeps I.bk).at hg gT;rcases h with⟨nf,h⟩|⟨c',hit,h⟩
 ·refine PySem.W.kla_makeFunction (mg:=X.mg) hcl I.ok.glob hg hcode (PySem.W.codeHd_of_K I.kIn hc) gT tr nf hgP bAt fun c' ctv h' tk ext ge lt rec tab=>?_
  have hc0:H c'=nO:=I.hok.fresh ge;have hf0:H h'.objs.size=nO:=I.hok.fresh (uH ge (Nat.le_of_lt lt));have nfc:h'.objs.size≠c':=Nat.ne_of_gt lt;have ncT:T≠c':=zi hT hc0;have nfT:T≠h'.objs.size:=zi hT hf0;have elsewhere:∀b,b≠T->b≠c'->b≠h'.objs.size->upd (upd (upd H T (.tbl (ps ++ #[rawInt pos.line,rawInt pos.col,.ref c']))) c' (CodO c' qual)) h'.objs.size (FunO h'.objs.size (lamC X.mg qual params body scope cl c' ctv)) b=H b:=fun b h1 h2 h3=>by rw[zj h3,zj h2,zj h1]
  have hU:∀b u,H b=sO u->b≠T->upd (upd (upd H T (.tbl (ps ++ #[rawInt pos.line,rawInt pos.col,.ref c']))) c' (CodO c' qual)) h'.objs.size (FunO h'.objs.size (lamC X.mg qual params body scope cl c' ctv)) b=sO u:=fun b u e n=>by
   rw[elsewhere b n (zi e hc0) (zi e hf0)];exact e
  have hTb:upd (upd (upd H T (.tbl (ps ++ #[rawInt pos.line,rawInt pos.col,.ref c']))) c' (CodO c' qual)) h'.objs.size (FunO h'.objs.size (lamC X.mg qual params body scope cl c' ctv)) T=sO (.tbl (ps ++ #[rawInt pos.line,rawInt pos.col,.ref c'])):=by
   rw[zj nfT,zj ncT];exact uX9
  have keep:∀b o,b≠T->s.heap.get? b=sO o->(h'.push (PySem.W.kla_obj "<lambda>" qual params body scope cl ((X.mg "__name__").getD .none) c' ctv)).get? b=sO o:=fun b o n e=>ue _ (ext b o n e);have neT:∀b,H b=nO->b≠T:=fun b e n=>by rw[n,hT]at e;cases e
  refine⟨.ref h'.objs.size,_,I.un (t':=tk) (H':=upd (upd (upd H T (.tbl (ps ++ #[rawInt pos.line,rawInt pos.col,.ref c']))) c' (CodO c' qual)) h'.objs.size (FunO h'.objs.size (lamC X.mg qual params body scope cl c' ctv))) ⟨fun b o e n _ _=>keep b o (neT b n) e,fun b o e n _ _=>⟨o.slots,keep b o (neT b n) e⟩,fun b o e n _=>?_,fun b o e _=>?_,fun b xs e=>hU b _ e (fun z=>by rw[z,hT]at e;cases e),fun b o xs e=>hU b _ e (fun z=>by rw[z,hT]at e;cases e),fun b qs e=>?_⟩ ?_,rfl,h c' _ ctv hc0 hf0 nfc⟩
  ·have l:=uC e
   rw[elsewhere b (neT b n) (uT (uJ l ge)) (uT (Nat.lt_trans (uJ l ge) lt))];exact n
  ·by_cases z:b=T
   ·rw[z];exact⟨_,ue _ tab⟩
   ·exact⟨o,keep b o z e⟩
  ·by_cases z:b=T
   ·subst z
    rw[hT]at e;cases e;exact⟨_,hTb⟩
   ·exact⟨#[],by rw[hU b _ e z];simp⟩
  ·intro b u e
   by_cases z1:b=h'.objs.size
   ·subst z1
    rw[uX9]at e;cases e;exact VS (uu _ rfl)
   rw[zj z1]at e;by_cases z2:b=c'
   ·subst z2
    rw[uX9]at e;cases e;obtain⟨d,oc,vs,t,q,e,r⟩:=rec;exact zcB ⟨d,oc,vs,t,q,ue _ e,r⟩
   rw[zj z2]at e;by_cases z3:b=T
   ·subst z3
    rw[uX9]at e;cases e;exact ue _ tab
   rw[zj z3]at e;refine(I.hok b u e).stay (fun d v hd q=>keep d v ?_ q) (fun d q=>hU d _ q fun z=>by rw[z,hT]at q;cases q) fun d xs q=>hU d _ q fun z=>by rw[z,hT]at q;cases q
   rcases hd with rfl|hd
   ·exact z3
   ·intro z
    rw[z,hT]at hd;cases hd
 ·refine PySem.W.kla_makeFunctionHit (mg:=X.mg) hcl I.ok.glob hg hcode (PySem.W.codeHd_of_K I.kIn hc) gT tr hit bAt fun ctv h' tk kp sz=>?_
  have hf0:H h'.objs.size=nO:=I.hok.fresh sz;exact⟨.ref h'.objs.size,_,I.laid (t':=tk) (o:=FunO h'.objs.size (lamC X.mg qual params body scope cl c' ctv)) (fun b u e=>ue _ (kp b u e)) sz (VS (uu _ rfl)),rfl,h _ ctv hf0⟩
theorem xh{cl:List (Str×aO)}{body:Expr}(hB:BMn X.mg X.base)(hcode:X.env.code=.ref c)(hc:Ua X.K c T=tV)(hq:X.env.qual ++ "<lambda>"=qual)
  (hdef:defaultsOf params X.env=([],[]):=by rfl) (hcl:closureFor scope X.env=pure cl:=by with_unfolding_all rfl):jE X (.Lambda params body scope pos) (VV X.mg T qual params body scope pos cl):=⟨Q4 hB hcode hc hq hdef hcl⟩
structure LamScope(N ps fs:lS)(sc:Scope):Prop where
 kind:sc.kind=.function
 co:sc.isCoroutine=fO
 gen:sc.isGenerator=fO
 nd:N.Nodup
 cat:N=ps++fs
 par:∀x∈ps,sc.names.lookup x=sO .local
 fre:∀x∈fs,sc.names.lookup x=sO .free
 nocell:∀y∈sc.names,y.2≠.cell
 has:∀y∈sc.names,y.2=.free->y.1∈fs
structure Clo(H:Hp)(cl:List (Str×aO))(fs:lS)(fvs:List V):Prop where
 len:fvs.length=fs.length
 all:∀p∈cl,∃v,Cel H p.2 v
 get:∀(i:Nat)(x:Str)(v:V),fs[i]?=sO x->fvs[i]?=sO v->∃a,cl.lookup x=sO a/\Cel H a v
 has:∀x∈fs,∃a,cl.lookup x=sO a
 inj:∀x y a,cl.lookup x=sO a->cl.lookup y=sO a->x=y
def XZ(CX:CXT)(P:Program)(w:World)(K:uc)(mg:Str->Option aA)(base:Heap)(N:lS)(qual:Str)(scope:Scope)(f:aO)(cd:aA)(cl:List (Str×aO))(A:Around)(outer:List Env)(s:Shared)(H:Hp)(E:XK):Cx where
 prog:=P
 w:=w
 K:=K
 mg:=mg
 base:=base
 A:=A.deeper (tI qual scope s.heap.objs.size f cd cl)
 N:=N
 s₀:=s
 H₀:=zZ H (cl.map (·.2))
 env:=tI qual scope s.heap.objs.size f cd cl
 outer:=outer
 stack:=tI qual scope s.heap.objs.size f cd cl::outer
 ex:=[]
 calm:=tV
 fn:=fun _=>fO
 pn:=[]
 xe:=fun e s'=>wpAny (model P w) (A.deeper (tI qual scope s.heap.objs.size f cd cl)) (leaving (tI qual scope s.heap.objs.size f cd cl) e) (fun _ s''=>CX outer H s E e s'') (fun e' s''=>CX outer H s E e' s'') s'
theorem vP{x:Str}{v:aA}:∀{P:lS}{vs:List aA}{i:Nat},P.Nodup->P[i]?=sO x->vs[i]?=sO v->(P.zip vs).reverse.lookup x=sO v
 |[],_,_,_,h,_=>by simp at h
 |_::_,[],_,_,_,h=>by simp at h
 |p::P,w::vs,0,nd,h1,h2=>by
  simp at h1 h2;subst h1;subst h2
  have hn:∀y∈(P.zip vs).reverse,y.1≠p:=fun y hy z=>(uP.mp nd).1 (z ▸ (Uv (List.mem_reverse.mp hy)).1);rw[List.zip_cons_cons,tj,List.lookup_append]
  have:(P.zip vs).reverse.lookup p=nO:=List.lookup_eq_none_iff.mpr fun y hy=>by simpa using fun z=>hn y hy z.symm
  rw[this];simp
 |p::P,w::vs,i+1,nd,h1,h2=>by
  rw[List.zip_cons_cons,tj,List.lookup_append,vP (i:=i) (uP.mp nd).2 (by simpa using h1) (by simpa using h2)]
  rfl
theorem zG(hc:∀a∈as,∃v,Cel H a v){u:HO}(e:H b=sO u)(n:∀o c v,u≠.frz o (CelO c v)):zZ H as b=sO u:=by
 rw[zX]
 ·exact e
 ·intro z
  obtain⟨v,o,q⟩:=hc b z;rw[e]at q;exact n _ _ _ (uX.inj q)
theorem X0(hc:∀a∈as,∃v,Cel H a v)(x:HOk P w H h):HOk P w (zZ H as) h:=fun b u e=>by
 have nb:b∉as:=fun z=>by rw[wz z]at e;cases e
 rw[zX nb]at e;exact(x b u e).stay (fun _ _ _ q=>q) (fun d q=>zG hc q (by intro _ _ _ z;cases z)) fun d xs q=>zG hc q (by intro _ _ _ z;cases z)
theorem Q5(hn:∀a∈as,H' a=nO)(hk:∀a∈as,∀u,H a=sO u->∃v o,u=.frz o (CelO a v)/\h.get? a=sO o/\h'.get? a=sO o)(x:HOk P w H h)(x':HOk P w H' h'):HOk P w (xm H' H as) h':=fun b u e=>by
 have up:∀d z,H' d=sO z->xm H' H as d=sO z:=fun d z q=>by
  rw[yJ]
  ·exact q
  ·intro y;rw[hn d y]at q;cases q
 by_cases nb:b∈as
 ·rw[wA nb]at e
  obtain⟨v,o,rfl,e1,e2⟩:=hk b nb u e;obtain⟨_,⟨u',r,o',e3,d⟩,_⟩:=x b _ e;rw[e1]at e3;cases e3;exact VU e2 d r
 ·rw[yJ nb]at e
  exact(x' b u e).stay (fun _ _ _ q=>q) (fun d q=>up d _ q) fun d xs q=>up d _ q
theorem Q6{fs:List aO}(hc:∀a∈as,∃v,Cel H a v)(u:Un fs [] (zZ H as) H' h h')(hn:∀a∈as,H' a=nO):Un fs [] H (xm H' H as) h h':=by
 have no:∀b,H b=nO->b∉as:=fun b n z=>by
  obtain⟨v,o,q⟩:=hc b z;rw[n]at q;cases q
 have mk:∀b,H b=nO->zZ H as b=nO:=fun b n=>by rw[zX (no b n)];exact n
 have up:∀d z,H' d=sO z->xm H' H as d=sO z:=fun d z q=>by
  rw[yJ]
  ·exact q
  ·intro y;rw[hn d y]at q;cases q
 refine⟨fun b o e n hb hx=>u.keep b o e (mk b n) hb hx,fun b o e n hb hx=>u.slot b o e (mk b n) hb hx,fun b o e n hx=>?_,u.there,fun b xs e=>up _ _ (u.tups b xs (zG hc e (by intro _ _ _ z;cases z))),fun b o x e=>?_,fun b ps e=>?_⟩
 ·rw[yJ (no b n)]
  exact u.free b o e (mk b n) hx
 ·by_cases z:b∈as
  ·rw[wA z];exact e
  ·rw[yJ z]
   exact u.frzs b o x (by rw[zX z];exact e)
 ·obtain⟨more,q⟩:=u.tbls b ps (zG hc e (by intro _ _ _ z;cases z))
  exact⟨more,up _ _ q⟩
theorem Zi{K:uc}{k:Nat}{body:Expr}{cl:List (Str×aO)}
  {fs:lS} (S:LamScope N ps fs scope) (len:∀vs H Q E,sp vs H Q E->vs.length=ps.length)
  (hbody:∀(A:Around)(outer:List Env)(s:Shared)(H:Hp)(vs:List V)(Q:VK)(E:XK),Room k (A.deeper (tI qual scope s.heap.objs.size f (.ref c) cl))->sp vs H Q E ->
   H f=sO (FunO f (PySem.W.kla_fn name qual params body scope cl pm (.ref c) ct))/\H c=sO (CodO c qual)/\∃fvs,Clo H cl fs fvs /\
   ∃t,jE (XZ CX P w K mg base N qual scope f (.ref c) cl A outer s H E) body t/\t (vs.map sO++fvs.map sO) (zZ H (cl.map (·.2))) fun v H'=>(∀a∈cl.map (·.2),H' a=nO)->Q v (xm H' H (cl.map (·.2)))) :
  FnOk P w K mg base CX (k+1) f (PySem.W.kla_fn name qual params body scope cl pm (.ref c) ct) ps sp:=by
 refine⟨len,fun A outer s H args us vs Q E hr e0 hb r hsp=>?_⟩;have hl:=len _ _ _ _ hsp;have lim:s.heap.NoLimit:=e0.mod.nolimit.keeps fun b o e=>(e0.bs b o e).1;obtain⟨hf,hc,fvs,C,t,ht,hq⟩:=hbody A outer s H vs Q E (hr.deeper _) hsp;have of:=(e0.hok f _ hf).1;have oc:=(e0.hok c _ hc).1;have hcA:∀a∈cl.map (·.2),∃v,Cel H a v:=fun a ha=>by
  obtain⟨p,hp,rfl⟩:=uq.mp ha;exact C.all p hp
 have hcl:∀x a,cl.lookup x=sO a->a∈cl.map (·.2):=fun x a e=>uq.mpr ⟨(x,a),u4 e,rfl⟩;refine PySem.W.kla_callFunE hr.depth of rfl S.co S.gen rfl oc (hb _ _ _ _ ?_);refine wpAny_newFunctionEnv S.nocell (fun y hy=>S.par _ (Uv hy).1) (fun h₁ hns hsb=>?_) S.kind;have hk₁:∀b o,s.heap.get? b=sO o->h₁.get? b=sO o:=fun b o e=>hsb.extBut b o (uT (uC e)) (ue _ e);refine⟨lim.keeps hk₁,PySem.W.kla_codeExpr ?_⟩;have isc:∀x a,cl.lookup x=sO a->∃v,Cel H a v:=fun x a e=>hcA a (hcl x a e);have cget:∀a v,Cel H a v->∃u,RelV v u/\s.heap.IsCell a (sO u):=fun a v ⟨o,q⟩=>(e0.hok a _ q).2.1;have I:Inv (XZ CX P w K mg base N qual scope f (.ref c) cl A outer s H E) [] (vs.map sO++fvs.map sO) (zZ H (cl.map (·.2))) { s with heap:=h₁,toks:=s.toks+(ps.zip us).length }:=by
  have noA:∀b:aO,b∉(XZ CX P w K mg base N qual scope f (.ref c) cl A outer s H E).ex:=fun b z=>absurd (show b∈([]:List aO)from z) (by simp);have mnone:∀b,H b=nO->zZ H (cl.map (·.2)) b=nO:=fun b e=>by
   unfold zZ;split
   ·rfl
   ·exact e
  refine⟨⟨e0.mod,S.kind,rfl,rfl,uj _,fun y z a h1 h2=>C.inj y z a h1 h2,fun y hy=>?_,fun y a z=>absurd (show fO=tV from z) (by decide),fun _=>hr.hd,Around.frames_deeper e0.frames,.inr ⟨rfl,rfl⟩,fun b z=>absurd z (noA b),fun b o e=>⟨(e0.bs b o e).1,mnone _ (e0.bs b o e).2⟩,e0.bsz,fun b _ _=>noA b,fun b z=>absurd z (noA b),e0.funs,fun b hb=>mnone _ (e0.frf b hb)⟩,
   rfl,e0.bare,Un.kept hk₁,⟨_,hns,fun i y v h1 h2 h3=>?_⟩,fun y a h=>?_,mnone _ (e0.hok.fresh (uj _)),fun y a h=>wz (hcl y a h),fun p hp=>absurd (show p∈([]:List (aO×Obj))from hp) (by simp),X0 hcA (e0.hok.kept hk₁),?_⟩
  ·have hy:scope.names.lookup y=sO .cell\/scope.names.lookup y=sO .free:=hy
   rcases hy with hy|hy
   ·exact absurd rfl (S.nocell _ (u4 hy))
   ·exact C.has y (S.has _ (u4 hy) rfl)
  ·have h1:(ps++fs)[i]?=sO y:=by rw[<- S.cat];exact h1
   have ndP:ps.Nodup:=by have:=S.nd;rw[S.cat]at this;exact(List.nodup_append.mp this).1
   by_cases hi:i < vs.length
   ·rw[Ut (by simpa using hi),uh]at h2
    rw[Ut (by lia)]at h1;cases e:vs[i]? with
    |none=>rw[e]at h2;cases h2
    |some a =>
     rw[e]at h2;cases h2;obtain⟨u,hu,rv⟩:=r.get e;exact⟨u,rv,.inl ⟨S.par y (uw h1),vP ndP h1 hu⟩⟩
   ·rw[UE (by simpa using hi),uh]at h2
    rw[UE (by lia)]at h1;rw[ub,hl]at h2;cases e:fvs[i-ps.length]? with
    |none=>rw[e]at h2;cases h2
    |some a =>
     rw[e]at h2;cases h2;obtain⟨ca,g1,g2⟩:=C.get _ _ _ h1 e;obtain⟨u,rv,q⟩:=cget _ _ g2;exact⟨u,rv,.inr ⟨.inr (S.fre y (uw h1)),ca,g1,q.keeps hk₁⟩⟩
  ·obtain⟨v,q⟩:=isc y a h
   obtain⟨u,_,q⟩:=cget _ _ q;exact⟨_,q.keeps hk₁⟩
  ·show _=N.length
   rw[S.cat,uf,uf,ub,ub,C.len,hl]
 refine wpAny_mono (ht.out [] _ _ _ _ I hq) (fun u s' hs=>?_) fun e s' hs=>hs;obtain⟨v,H',J,rv,q⟩:=hs;have hn:∀a∈cl.map (·.2),H' a=nO:=fun a ha=>by
  obtain⟨v,o,q⟩:=hcA a ha;obtain⟨e1,_⟩:=e0.hok a _ q;exact J.base.free a o e1 (wz ha) (by exact fun z=>absurd (show a∈([]:List aO)from z) (by simp))
 refine⟨v,_,J.os,J.bare,Q6 hcA J.base hn,Q5 hn (fun a ha u e=>?_) e0.hok J.hok,rv,q hn⟩;obtain⟨v',o,q'⟩:=hcA a ha;rw[q']at e;cases e;obtain⟨e1,_⟩:=e0.hok a _ q';refine⟨v',o,rfl,e1,J.base.keep a o e1 (wz ha) (fun z=>?_) (fun z=>absurd (show a∈([]:List aO)from z) (by simp))⟩;rw[e0.frf a z]at q';cases q'
structure EndsR where
 nx:St->Hp->Prop
 rt:St->V->Hp->Prop
abbrev TR:=EndsR->St->Hp->Prop
def SPR(X:Cx)(D:EndsR)(f:Flow)(s':Shared):Prop :=
 match f with
 |.next=>∃σ' H',Inv X [] σ' H' s'/\D.nx σ' H'
 |.ret u=>∃v σ' H',Inv X [] σ' H' s'/\RelV v u/\D.rt σ' v H'
 |_=>False
structure jR(X:Cx)(st:List Stmt)(t:TR):Prop where
 out:∀(s:Shared)(σ:St)(H:Hp)(D:EndsR),Inv X [] σ H s->t D σ H->wpAny (model X.prog X.w) X.A (execs st X.env) (SPR X D) X.xe s
section
variable{rest A:List Stmt}{t:TS}{u tA:TR}{c:Expr}{tc:TT}
def xn(t:TS)(u:TR):TR:=fun D σ H=>t { nx:=u D,rt:=fun _ _=>False } σ H
theorem zT(h1:jS X st t)(h2:jR X rest u):jR X (st::rest) (xn t u):=⟨by
 intro s σ H D I h;refine wpAny_execs_cons (thn (h1.out [] s σ H { nx:=u D,rt:=fun _ _=>False } I h) fun f s1 q=>?_);cases f with
 |next =>
  obtain⟨σ',H',I',q⟩:=q;exact h2.out s1 σ' H' D I' q
 |ret v =>
  obtain⟨_,_,_,_,_,q⟩:=q;exact False.elim q
 |brk =>
  obtain⟨_,_,_,q⟩:=q;exact False.elim q
 |cont =>
  obtain⟨_,_,_,q⟩:=q;exact False.elim q⟩
theorem xH(he:jE X e te):jR X [.Return (sO e) pos] (fun D σ H=>te σ H (D.rt σ)):=⟨by
 intro s σ H D I h;refine wpAny_execs_cons (wpAny_Return_some (thn (he.out [] s σ H _ I h) fun v s1 hq_=>?_));obtain⟨x,H1,I1,r1,q1⟩:=hq_;exact⟨x,σ,H1,I1,r1,q1⟩⟩
def tIfR(tc:TT)(tA u:TR):TR:=fun D σ H=>tc σ H fun b H1=>if b=tV then tA { D with nx:=u D } σ H1 else u D σ H1
theorem VW(hc:jT X c tc)(hA:jR X A tA)(hR:jR X rest u):jR X (.If c A [] pos::rest) (tIfR tc tA u):=⟨by
 intro s σ H D I h;refine wpAny_execs_cons (wpAny_If (thn (hc.out [] s σ H _ I h) fun b s1 hq_=>?_));obtain⟨H1,I1,q1⟩:=hq_;cases b with
 |true =>
  rw[iP rfl]at q1;refine thn (hA.out s1 σ H1 { D with nx:=u D } I1 q1) fun f s2 q=>?_;cases f with
  |next =>
   obtain⟨σ',H',I',q⟩:=q;exact hR.out s2 σ' H' D I' q
  |ret v=>exact q
  |brk=>exact q
  |cont=>exact q
 |false =>
  rw[iN (by decide)]at q1;exact wpAny_execs_nil (hR.out s1 σ H1 D I1 q1)⟩
end
structure Pub(H H3:Hp)(cvs:List (aO×V)):Prop where
 old:∀b,b∉cvs.map (·.1)->H3 b=H b
 non:∀p∈cvs,H p.1=nO
 cel:∀p∈cvs,Cel H3 p.1 p.2
def CellsAt(X:Cx)(σ:St)(cvs:List (aO×V)):Prop:=∀p∈cvs,∃(i:Nat)(x:Str),X.N[i]?=sO x/\σ[i]?=sO (sO p.2)/\X.env.cells.lookup x=sO p.1/\(X.env.scope.names.lookup x=sO .cell\/X.env.scope.names.lookup x=sO .free)
theorem CellsAt.cell(I:Inv X pins σ H s)(h:CellsAt X σ cvs):∀p∈cvs,∃o u,s.heap.get? p.1=sO o/\o.data=.cell (sO u)/\RelV p.2 u:=fun p hp=>by
 obtain⟨i,x,e1,e2,e3,e4⟩:=h p hp;obtain⟨m,_,l⟩:=I.loc;obtain⟨u,r,l⟩:=l i x _ e1 e2 (.inr e4);rcases l with⟨k,_⟩|⟨_,c,q,o,e,d⟩
 ·have k:X.env.scope.names.lookup x=sO .local:=k
  rcases e4 with e4|e4<;>rw[e4]at k<;>cases k
 ·rw[e3]at q;cases q
  exact⟨o,u,e,d,r⟩
def pubH(h:Heap)(H:Hp)(cvs:List (aO×V)):Hp:=fun b=>match cvs.find? (fun p=>p.1 == b)with
 |some p=>sO (.frz ((h.get? b).getD { cls:=.none,data:=.plain }) (CelO b p.2))
 |none=>H b
theorem Xk(hb:b∈cvs.map (·.1)):∃v,(b,v)∈cvs/\pubH h H cvs b=sO (.frz ((h.get? b).getD { cls:=.none,data:=.plain }) (CelO b v)):=by
 obtain⟨p,hp,rfl⟩:=uq.mp hb;cases e:cvs.find? (fun q=>q.1 == p.1)with
 |none=>exact absurd (List.find?_eq_none.mp e p hp) (by simp)
 |some q =>
  have h1:=List.find?_some e;have h2:=List.mem_of_find?_eq_some e;have h3:q.1=p.1:=by simpa using h1
  refine⟨q.2,by rw[<- h3];exact h2,?_⟩;unfold pubH;rw[e]
theorem yV(hb:b∉cvs.map (·.1)):pubH h H cvs b=H b:=by
 unfold pubH;rw[List.find?_eq_none.mpr fun p hp=>by simpa using fun z:p.1=b=>hb (uq.mpr ⟨p,hp,z⟩)]
theorem Q7(I:Inv X pins σ H s)(h:CellsAt X σ cvs)(hN:X.N.Nodup){v v':V}(h1:(b,v)∈cvs)(h2:(b,v')∈cvs):v=v':=by
 obtain⟨i,x,e1,e2,e3,_⟩:=h _ h1;obtain⟨j,y,g1,g2,g3,_⟩:=h _ h2
 have:=I.ok.inj x y b e3 g3
 subst this
 have:i=j:=(List.getElem?_inj (ud.mp e1).1 hN).mp (e1.trans g1.symm)
 subst this;rw[e2]at g2;cases g2
 rfl
theorem VX(I:Inv X pins σ H s)(h:CellsAt X σ cvs)(hN:X.N.Nodup):Pub H (pubH s.heap H cvs) cvs :=
 ⟨fun b hb=>yV hb,fun p hp=>let ⟨_,x,_,_,e3,_⟩:=h p hp;I.freeC x _ e3,fun p hp=>by
  obtain⟨v,hv,e⟩:=Xk (h:=s.heap) (H:=H) (uq.mpr ⟨p,hp,rfl⟩)
  have:=Q7 I h hN (b:=p.1) (v:=v) (v':=p.2) hv hp
  subst this;exact⟨_,e⟩⟩
theorem VY(I:Inv X pins σ H s)(h:CellsAt X σ cvs):HOk X.prog X.w (pubH s.heap H cvs) s.heap:=fun b u e=>by
 have up:∀d z,H d=sO z->pubH s.heap H cvs d=sO z:=fun d z q=>by
  rw[yV]
  ·exact q
  ·intro y
   obtain⟨p,hp,rfl⟩:=uq.mp y;obtain⟨_,x,_,_,e3,_⟩:=h p hp;rw[I.freeC x _ e3]at q;cases q
 by_cases hb:b∈cvs.map (·.1)
 ·obtain⟨v,hv,e'⟩:=Xk (h:=s.heap) (H:=H) hb
  rw[e']at e;cases e;obtain⟨o,u,e1,e2,r⟩:=h.cell I _ hv;have e1:s.heap.get? b=sO o:=e1;rw[e1];exact VU e1 e2 r
 ·rw[yV hb]at e
  exact(I.hok b u e).stay (fun _ _ _ q=>q) (fun d q=>up d _ q) fun d xs q=>up d _ q
theorem zcD{K:uc}{k:Nat}{dV kV:aA} (lk:K.lookup f=sO ⟨oc,od,.func (Ul name qual params body scope dV kV doc pm an cdv ct),osl⟩) (hcd:UN K cdv qual=tV) (S:FnScope N ps scope)
  (len:∀vs H Q E,sp vs H Q E->vs.length=ps.length)
  (hbody:∀(A:Around)(outer:List Env)(s:Shared)(H:Hp)(vs:List V)(Q:VK)(E:XK),Room k (A.deeper (envOfC qual scope s.heap.objs.size f cdv))->sp vs H Q E->(∀b,s.heap.objs.size<=b->H b=nO) ->
   ∃t,jR (cxOf CX P w K mg base N qual scope f cdv A outer s H E) body t/\t { nx:=fun _ H'=>Q .non H',rt:=fun σ v H'=>∃cvs,CellsAt (cxOf CX P w K mg base N qual scope f cdv A outer s H E) σ cvs/\∀H3,Pub H' H3 cvs->Q v H3 } (start N vs) H) :
  FnOk P w K mg base CX (k+1) f (Ul name qual params body scope dV kV doc pm an cdv ct) ps sp:=by
 refine⟨len,fun A outer s H args us vs Q E hr e0 hb r hsp=>?_⟩;have hl:=len _ _ _ _ hsp;have KX:K.In s.heap:=e0.mod.kin.keeps fun b o e=>(e0.bs b o e).1;have lim:s.heap.NoLimit:=e0.mod.nolimit.keeps fun b o e=>(e0.bs b o e).1;have hkind:∀y∈ps.zip us,scope.names.lookup y.1=sO .local\/(scope.names.lookup y.1=sO .cell/\((cellsFrom (s.heap.objs.size+1) scope.names []).lookup y.1).isSome=tV):=fun⟨n,v⟩ hy=>by
  rcases S.par n (Uv hy).1 with q|q
  ·exact .inl q
  ·exact .inr ⟨q,PySem.W.cellsFrom_some _ _ _ (.inl q)⟩
 refine codeAny_call_function hr.depth (KX _ _ lk) rfl S.co S.gen rfl (PySem.W.codeRec_of KX hcd) (hb _ _ _ _ ?_);refine wpAny_newFunctionEnv_cells S.kind hkind fun env he s1 x=>?_;subst he;refine⟨lim.keeps x.toInCall.keep,codeAny_func ?_⟩;obtain⟨t,ht,hq⟩:=hbody A outer s H vs Q E (hr.deeper _) hsp fun b hb=>e0.hok.fresh hb;have I:Inv (cxOf CX P w K mg base N qual scope f cdv A outer s H E) [] (start N vs) H s1:=jz S hr.hd e0 hl r x;refine wpAny_mono (ht.out s1 (start N vs) H _ I hq) (fun fl s' hs=>?_) fun e s' hs=>hs;cases fl with
 |ret u =>
  obtain⟨v,σ',H',J,rv,cvs,hc,q⟩:=hs;have pb:=VX J hc S.nd;have q:=q _ pb;have ab:∀b,b∈cvs.map (·.1)->s.heap.objs.size<=b:=fun b hb=>by
   obtain⟨p,hp,rfl⟩:=uq.mp hb;obtain⟨_,x,_,_,e3,_⟩:=hc p hp;exact J.ok.cab x _ rfl e3
  have no:∀b o,H' b=sO o->b∉cvs.map (·.1):=fun b o e hb=>by
   obtain⟨p,hp,rfl⟩:=uq.mp hb;rw[pb.non p hp]at e;cases e
  have un:Un (frs outer) [] H H' s.heap s'.heap:=J.base;refine⟨v,_,J.os,J.bare,⟨un.keep,un.slot,fun b o e n hx=>?_,un.there,fun b xs e=>?_,fun b o xs e=>?_,fun b p e=>?_⟩,VY J hc,rv,q⟩
  ·rw[pb.old b fun z=>absurd (uJ (uC e) (ab b z)) (Uw _)]
   exact un.free b o e n hx
  ·have e':=un.tups b xs e
   rw[pb.old b (no b _ e')];exact e'
  ·have e':=un.frzs b o xs e
   rw[pb.old b (no b _ e')];exact e'
  ·obtain⟨more,e'⟩:=un.tbls b p e
   exact⟨more,by rw[pb.old b (no b _ e')];exact e'⟩
 |next =>
  obtain⟨σ',H',J,q⟩:=hs;exact⟨.non,H',J.os,J.bare,J.base,J.hok,rfl,q⟩
 |brk=>exact False.elim hs
 |cont=>exact False.elim hs
def zcE(X:Cx)(sp:Sp)(E:XK)(t:TA):TE:=fun σ H Q=>t σ H fun vs H1=>∃cvs,CellsAt X σ cvs/\∀H3,Pub H1 H3 cvs->sp vs H3 (fun r H4=>(∀p∈cvs,Cel H4 p.1 p.2)->Q r (zZ H4 (cvs.map (·.1)))) E
theorem VZ{k:Nat}{E:XK}{p:Pos}{t:TA}(F:Ca X.prog X.w X.K X.mg X.base CX0 k x ps sp)(hr:Room k X.A)(hN:X.N.Nodup)(hg:Gl X x)(hfn:∀x,X.fn x=tV)(ha:jA X (e::es) t)
  (hdb:(x == ("__debug__":Str))=fO:=by decide) (h1:zy e=fO:=by rfl) (h2:es.all (fun e=>!zy e)=tV:=by rfl) :
  jE X (.Call (.Name x p) (e::es) [] pos) (zcE X sp E t):=⟨by
 obtain⟨f,fd,F,hb,hk,hm⟩:=F.ex;intro pins s σ H Q I h;refine wpAny_Call_Name_kw (vq I hg hm ?_ hdb);refine U5 (h₀:=X.base) I.ok.mod.kin hk (thn (ha.out pos pins s σ H _ I h) fun us s1 ⟨vs,H1,I1,r,cvs,hc,q⟩=>⟨I1.kIn,?_⟩) (zE h1) (yB h2);have pb:=VX I1 hc hN;have ok3:=VY I1 hc;have q:=q _ pb;have hl:us.length=ps.length:=by rw[<- r.length];exact F.len _ _ _ _ q
 have nas:∀b o,H1 b=sO o->b∉cvs.map (·.1):=fun b o e hb=>by
  obtain⟨p,hp,rfl⟩:=uq.mp hb;rw[pb.non p hp]at e;cases e
 have e0:Env0 X.prog X.w X.K X.mg X.base X.A X.stack s1 (pubH s1.heap H1 cvs):=by
  have z:=I1.env0;refine⟨z.frames,z.mod,fun b o e=>⟨(z.bs b o e).1,?_⟩,z.bsz,z.funs,fun b hb=>?_,ok3,z.bare⟩
  ·rw[yV]
   ·exact(z.bs b o e).2
   ·intro hb
    obtain⟨p,hp,rfl⟩:=uq.mp hb;obtain⟨_,y,_,_,e3,_⟩:=hc p hp;exact absurd (uJ (uC e) (uH I1.ok.bsz (I1.ok.cab y _ (hfn y) e3))) (Uw _)
  ·rw[yV]
   ·exact z.frf b hb
   ·intro hb'
    obtain⟨p,hp,rfl⟩:=uq.mp hb';obtain⟨_,y,_,_,e3,_⟩:=hc p hp;rcases uy.mp (I1.stkSub _ hb)with q|q
    ·exact I1.cne y _ e3 q
    ·obtain⟨_,o,ho,_⟩:=I1.ok.funs.mem q
     exact absurd (uJ (uC ho) (I1.ok.cab y _ (hfn y) e3)) (Uw _)
 refine wpAny_call (codeAny_mono (F.run X.A X.stack s1 _ ⟨us,[]⟩ us vs _ E hr e0 (by have:=hb s1 us I1.kIn (by simpa using hl);simpa using this) r q) fun r s' hq=>?_);cases r with
 |error e=>exact False.elim hq
 |ok fl =>
  cases fl with
  |next=>exact False.elim hq
  |brk=>exact False.elim hq
  |cont=>exact False.elim hq
  |ret u =>
   refine I1.after ?_;obtain⟨v,H4,os,bare,un,hok,rv,q⟩:=hq;have cel4:∀b,b∈cvs.map (·.1)->∃o v,s1.heap.get? b=sO o/\s'.heap.get? b=sO o/\H4 b=sO (.frz o (CelO b v)):=fun b hb=>by
    obtain⟨v,hv,e⟩:=Xk (h:=s1.heap) (H:=H1) hb;have e4:=un.frzs b _ _ e;exact⟨_,v,(ok3 b _ e).1,(hok b _ e4).1,e4⟩
   have hcA:∀a∈cvs.map (·.1),∃v,Cel H4 a v:=fun a ha=>let ⟨o,v,_,_,e⟩:=cel4 a ha;⟨v,o,e⟩
   have up:∀b o,H1 b=sO o->pubH s1.heap H1 cvs b=sO o:=fun b o e=>by rw[yV (nas b o e)];exact e
   refine⟨v,_,os,bare,⟨fun b o e n hb hx=>?_,fun b o e n hb hx=>?_,fun b o e n hx=>?_,un.there,fun b xs e=>?_,fun b o xs e=>?_,fun b p e=>?_⟩,X0 hcA hok,rv,q fun p hp=>let ⟨o,e⟩:=pb.cel p hp;⟨o,un.frzs _ _ _ e⟩⟩
   ·by_cases hb':b∈cvs.map (·.1)
    ·obtain⟨o',_,e1,e2,_⟩:=cel4 b hb'
     rw[e]at e1;cases e1;exact e2
    ·exact un.keep b o e (by rw[yV hb'];exact n) hb hx
   ·by_cases hb':b∈cvs.map (·.1)
    ·obtain⟨o',_,e1,e2,_⟩:=cel4 b hb'
     rw[e]at e1;cases e1;exact⟨o.slots,e2⟩
    ·exact un.slot b o e (by rw[yV hb'];exact n) hb hx
   ·by_cases hb':b∈cvs.map (·.1)
    ·exact wz hb'
    ·rw[zX hb']
     exact un.free b o e (by rw[yV hb'];exact n) hx
   ·rw[zX (nas b _ e)]
    exact un.tups b xs (up _ _ e)
   ·rw[zX (nas b _ e)]
    exact un.frzs b o xs (up _ _ e)
   ·obtain⟨more,e'⟩:=un.tbls b p (up _ _ e)
    exact⟨more,by rw[zX (nas b _ e)];exact e'⟩⟩
def V0(P:Program)(w:World)(K:uc)(mg:Str->Option aA)(base:Heap)(k:Nat)(E:XK)(i:Nat)(t:TA):TE:=fun σ H Q=>∃f,σ[i]?=sO (sO (.ref f)) /\
 (((∃fd,H f=sO (FunO f fd))/\t σ H fun vs H1=>∃fd ps sp,FnOk P w K mg base CX0 k f fd ps sp/\Binds K fd ps []/\H1 f=sO (FunO f fd)/\sp vs H1 Q E) \/
   (u5 K (.ref f)=tV/\t σ H fun vs H1=>∃fd ps sp,FnOk P w K mg base CX0 k f fd ps sp/\Binds K fd ps []/\sp vs H1 Q E))
theorem vQ{k:Nat}{E:XK}{p:Pos}{t:TA}(hr:Room k X.A)(hn:jE X (.Name x p) (tVar i))(hx:yS CX0 X E)(ha:jA X (e::es) t)(h1:zy e=fO:=by rfl)(h2:es.all (fun e=>!zy e)=tV:=by rfl):
  jE X (.Call (.Name x p) (e::es) [] pos) (V0 X.prog X.w X.K X.mg X.base k E i t):=⟨by
 intro pins s σ H Q I h;obtain⟨f,hf,h⟩:=h;refine wpAny_Call_Name_kw (thn (hn.out pins s σ H (fun v H1=>v=.ref f/\H1=H) I ⟨_,hf,rfl,rfl⟩) fun u s0 hq_=>?_);obtain⟨v,H0,I0,r0,e1,e2⟩:=hq_;subst e1;subst e2;cases r0;rcases h with⟨⟨fd,hF⟩,h⟩|⟨hk,h⟩
 ·refine PySem.W.callWith_F ⟨_,_,_,_,(I0.hok f _ hF).1⟩ (thn (ha.out pos pins s0 σ H0 _ I0 h) fun us s1 ⟨vs,H1,I1,r,fd,ps,sp,F,hb,hF1,q⟩=>⟨⟨_,_,_,_,(I1.hok f _ hF1).1⟩,?_⟩) (zE h1) (yB h2)
  exact j7 F hr hb .nil hx I1 r (by rw[uU];exact q)
 ·refine U5 (h₀:=X.base) I0.ok.mod.kin hk (thn (ha.out pos pins s0 σ H0 _ I0 h) fun us s1 ⟨vs,H1,I1,r,fd,ps,sp,F,hb,q⟩=>⟨I1.kIn,?_⟩) (zE h1) (yB h2)
  exact j7 F hr hb .nil hx I1 r (by rw[uU];exact q)⟩
structure FunC(K:uc)(x:Str)(st:Stmt)(c f:aO)(fd:FuncData):Prop where
 ex:∃(oc:aA)(od:Option aO)(kV doc pm:aA)(an:Option aO)(ct:aA)(osl:Array (Option aA)),fd=Ul x x (yf st) (zO st) (zt st) .none kV doc pm an (.ref c) ct/\K.lookup f=sO ⟨oc,od,.func fd,osl⟩/\UN K (.ref c) x=tV
section
variable{K:uc}{k:Nat}
theorem FunC.by(F:FunC K x st c f fd)(S:FnScope N ps (zt st))(len:∀vs H Q E,sp vs H Q E->vs.length=ps.length)
  (hbody:∀(A:Around)(outer:List Env)(s:Shared)(H:Hp)(vs:List V)(Q:VK)(E:XK),Room k (A.deeper (envOfC x (zt st) s.heap.objs.size f (.ref c)))->sp vs H Q E ->
   ∃t,jSs (cxOf CX0 P w K mg base N x (zt st) f (.ref c) A outer s H E).nox (zO st) t/\t { nx:=fun _ H'=>Q .non H',rt:=Q } (start N vs) H):FnOk P w K mg base CX0 (k+1) f fd ps sp:=by
 obtain⟨oc,od,kV,doc,pm,an,ct,osl,rfl,lk,hcd⟩:=F.ex;refine za7 lk hcd S len fun A outer s H vs Q E hr hsp=>?_;obtain⟨t,h,q⟩:=hbody A outer s H vs Q E hr hsp;exact⟨t,h.out.nox,q⟩
theorem FunC.byR(F:FunC K x st c f fd)(S:FnScope N ps (zt st))(len:∀vs H Q E,sp vs H Q E->vs.length=ps.length)
  (hbody:∀(A:Around)(outer:List Env)(s:Shared)(H:Hp)(vs:List V)(Q:VK)(E:XK),Room k (A.deeper (envOfC x (zt st) s.heap.objs.size f (.ref c)))->sp vs H Q E->(∀b,s.heap.objs.size<=b->H b=nO) ->
   ∃t,jR (cxOf CX0 P w K mg base N x (zt st) f (.ref c) A outer s H E) (zO st) t/\t { nx:=fun _ H'=>Q .non H',rt:=fun σ v H'=>∃cvs,CellsAt (cxOf CX0 P w K mg base N x (zt st) f (.ref c) A outer s H E) σ cvs/\∀H3,Pub H' H3 cvs->Q v H3 } (start N vs) H) :
  FnOk P w K mg base CX0 (k+1) f fd ps sp:=by
 obtain⟨oc,od,kV,doc,pm,an,ct,osl,rfl,lk,hcd⟩:=F.ex;exact zcD lk hcd S len hbody
def DcIn(K:uc)(x:Str)(st:Stmt)(c:aO):Prop:=∃f,UK K mainGlobals x=sO (sO (.ref f))/\∃(oc:aA)(od:Option aO)(kV doc pm:aA)(an:Option aO)(ct:aA)(osl:Array (Option aA)),K.lookup f=sO ⟨oc,od,.func (Ul x x (yf st) (zO st) (zt st) .none kV doc pm an (.ref c) ct),osl⟩/\UN K (.ref c) x=tV/\u5 K (.ref f)=tV
theorem DcIn.mk{kV:aA}(a:UK K mainGlobals x=sO (sO (.ref f)))(l:K.lookup f=sO ⟨oc,od,.func (Ul x x (yf st) (zO st) (zt st) .none kV doc pm an (.ref c) ct),osl⟩)(cc:UN K (.ref c) x=tV)(k:u5 K (.ref f)=tV):DcIn K x st c:=⟨f,a,oc,od,kV,doc,pm,an,ct,osl,l,cc,k⟩
theorem DcIn.ca(X:K.In h)(G:h.Ns mainGlobals mg)(d:DcIn K x st c)(hb:∀(kV doc pm:aA)(an:Option aO)(ct:aA)(us:List aA),us.length=ps.length->bindArgs (Ul x x (yf st) (zO st) (zt st) .none kV doc pm an (.ref c) ct) ⟨us,[]⟩=pure (ps.zip us))
  (ok:∀f fd,FunC K x st c f fd->FnOk P w K mg base CX0 k f fd ps sp):Ca P w K mg base CX0 k x ps sp:=by
 obtain⟨f,a,oc,od,kV,doc,pm,an,ct,osl,l,cc,kp⟩:=d;exact⟨f,_,ok f _ ⟨oc,od,kV,doc,pm,an,ct,osl,rfl,l,cc⟩,.all fun us hl=>hb kV doc pm an ct us hl,kp,U7 X G a⟩
end
def TbG(T:aO)(ls:List (Pos×Str))(H:Hp):Prop:=∃ps,H T=sO (.tbl ps)/\TriplesOk ps.toList/\∀p∈ls,codeAmong p.1 ps.toList=nO\/∃c,codeAmong p.1 ps.toList=sO (.ref c)/\H c=sO (CodO c p.2)
theorem WC{a b:Int}{c:aA}(l:List aA)(h:TriplesOk l):TriplesOk (l++[rawInt a,rawInt b,c]):=by
 fun_induction TriplesOk l with
 |case1=>trivial
 |case2 i t j u v rest ih=>exact ih h
 |case3=>exact False.elim h
theorem Ye{p':Pos}{c:aA}(l:List aA)(h:TriplesOk l)(n:¬ (p'.line=pos.line/\p'.col=pos.col)):codeAmong pos (l++[rawInt p'.line,rawInt p'.col,c])=codeAmong pos l:=by
 fun_induction TriplesOk l with
 |case1 =>
  show(if((p'.line:Nat):Int) == (pos.line:Nat) && ((p'.col:Nat):Int) == (pos.col:Nat)then sO c else codeAmong pos [])=_;rw[iN];simp
  intro e e';exact n ⟨by lia,by lia⟩
 |case2 i t j u v rest ih =>
  show(if i == (pos.line:Nat) && j == (pos.col:Nat)then sO v else codeAmong pos (rest++_))=if i == (pos.line:Nat) && j == (pos.col:Nat)then sO v else codeAmong pos rest
  rw[ih h]
 |case3=>exact False.elim h
theorem WD{p':Pos}(l:List aA)(n:p'.line=pos.line/\p'.col=pos.col):codeAmong pos l=codeAmong p' l:=by
 fun_induction codeAmong pos l with
 |case1 line _ col _ c rest h=>rw[codeAmong,n.1,n.2,iP h]
 |case2 line _ col _ c rest h ih=>rw[codeAmong,n.1,n.2,iN h];exact ih
 |case3 l h =>
  unfold codeAmong;split
  ·exact absurd rfl (h _ _ _ _ _ _)
  ·rfl
theorem TbG.keep{ls:List (Pos×Str)}(h:TbG T ls H)(kt:∀ps,H T=sO (.tbl ps)->H' T=sO (.tbl ps))(kc:∀c q,H c=sO (CodO c q)->H' c=sO (CodO c q)):TbG T ls H':=by
 obtain⟨ps,e,t,h⟩:=h;exact⟨ps,kt _ e,t,fun p hp=>(h p hp).imp_right fun⟨c,a,b⟩=>⟨c,a,kc _ _ b⟩⟩
theorem TbG.empty{ls:List (Pos×Str)}(h:H T=sO (.tbl #[])):TbG T ls H:=⟨#[],h,trivial,fun p _=>.inl rfl⟩
theorem yP{ls:List (Pos×Str)}{body:Expr}{cl:List (Str×aO)}{Q:VK}(h:TbG T ls H)(hm:(pos,qual)∈ls)(hu:∀p∈ls,(pos.line=p.1.line/\pos.col=p.1.col)->p.2=qual)
  (q:∀H' f c ct,(∀b u,b≠T->H b=sO u->H' b=sO u)->TbG T ls H'->H f=nO->f≠T->c≠T->H' f=sO (FunO f (lamC mg qual params body scope cl c ct))->H' c=sO (CodO c qual)->Q (.ref f) H'):VV mg T qual params body scope pos cl σ H Q:=by
 obtain⟨ps,hT,tr,ha⟩:=h;refine⟨ps,hT,tr,?_⟩;rcases ha _ hm with hn|⟨c,hs,hc⟩
 ·refine .inl ⟨hn,fun c f ct h1 h2 h3=>?_⟩
  have n1:T≠c:=zi hT h1;have n2:T≠f:=zi hT h2;have kp:∀b u,b≠T->H b=sO u->upd (upd (upd H T (.tbl (ps ++ #[rawInt pos.line,rawInt pos.col,.ref c]))) c (CodO c qual)) f (FunO f (lamC mg qual params body scope cl c ct)) b=sO u:=fun b u n e=>by rw[zj (zi e h2),zj (zi e h1),zj n];exact e
  have e2:upd (upd (upd H T (.tbl (ps ++ #[rawInt pos.line,rawInt pos.col,.ref c]))) c (CodO c qual)) f (FunO f (lamC mg qual params body scope cl c ct)) c=sO (CodO c qual):=by rw[zj h3.symm];exact uX9
  refine q _ f c ct kp ⟨_,by rw[zj n2,zj n1];exact uX9,?_,fun p hp=>?_⟩ h2 n2.symm n1.symm uX9 e2
  ·rw[Array.toList_append]
   exact WC _ tr
  ·rw[Array.toList_append]
   by_cases z:pos.line=p.1.line/\pos.col=p.1.col
   ·refine .inr ⟨c,?_,by rw[e2,hu p hp z]⟩
    rw[WD _ z];exact codeAmong_snoc _ tr hn
   ·rw[show(#[rawInt pos.line,rawInt pos.col,Value.ref c]:Array aA).toList=[rawInt pos.line,rawInt pos.col,.ref c]from rfl,Ye _ tr z]
    refine(ha p hp).imp_right fun⟨d,a,b⟩=>⟨d,a,kp _ _ (fun w=>?_) b⟩;rw[w,hT]at b;cases b
 ·refine .inr ⟨c,hs,fun f ct h2=>?_⟩
  have kp:∀b u,H b=sO u->upd H f (FunO f (lamC mg qual params body scope cl c ct)) b=sO u:=fun b u e=>by rw[zj (zi e h2)];exact e
  refine q _ f c ct (fun b u _ e=>kp b u e) ⟨ps,kp _ _ hT,tr,fun p hp=>(ha p hp).imp_right fun⟨d,a,b⟩=>⟨d,a,kp _ _ b⟩⟩ h2 (zi hT h2).symm (fun w=>?_) uX9 (kp _ _ hc);rw[w,hT]at hc;cases hc
end L2
namespace L2
open PySem
variable{a b:Expr}
section
variable{a b c d:TS}{u:TR}{D:EndsR}{σ:List (Option V)}
theorem cutE(h:∀E:EndsR,D=E->u E σ H):u D σ H:=h D rfl
theorem Yf(h:∀v:TR,u=v->xn a v D σ H):xn a u D σ H:=h u rfl
theorem zdL(h:∀v:TR,u=v->xn a (xn b v) D σ H):xn a (xn b u) D σ H:=h u rfl
theorem zbk(h:∀v:TR,u=v->xn a (xn b (xn c v)) D σ H):xn a (xn b (xn c u)) D σ H:=h u rfl
theorem cutF{t:TS}{v:V}{D:Ends}(h:∀k:St->Hp->Prop,(∀σ H,t D σ H->k σ H)->g v σ H k):g v σ H fun σ2 H2=>t D σ2 H2:=h _ fun _ _ z=>z
theorem zbl{t:TS}{D:Ends}(h:∀E:Ends,D=E->t E σ H):t D σ H:=h D rfl
theorem zq{α β:Type}{a:α->Prop}{b c:α->β->Prop}{w:α}{v:β}(h:a w)(i:b w v)(k:c w v):∃x,a x/\∃y,b x y/\c x y:=⟨w,h,v,i,k⟩
end
theorem zp(K:uc){i:Int}{j}{p:Pos}(ha:jE X a ta)(h:X.K=K:=by rfl):jE X (.Subscript a (.Constant (.int i) j p) pos) (tOp (rIxT K) ta (tC (.int i))):=Z5 (wx K h) ha zo (fun _ _=>rfl)
theorem zU(K:uc){i:Int}{j}{p:Pos}(ha:jE X a ta)(h:X.K=K:=by rfl):jE X (.Subscript a (.Constant (.int i) j p) pos) (tOp (rIxL K) ta (tC (.int i))):=Z5 (zV K h) ha zo (fun _ _=>rfl)
theorem vv(K:uc)(ha:jE X a ta)(hb:jE X b tb)(hm:behindInMarks .NotIn b=fO:=by with_unfolding_all rfl)(h:X.K=K:=by rfl):jT X (.Compare a [.NotIn] [b] pos) (vH (tOp (rIn K tV) ta tb)):=Zf (WB K h) ha hb hm
theorem Xl(K:uc)(ha:jE X a ta)(hb:jE X b tb)(hm:behindInMarks .In b=fO:=by with_unfolding_all rfl)(h:X.K=K:=by rfl):jT X (.Compare a [.In] [b] pos) (vH (tOp (rIn K fO) ta tb)):=Zf (Xj K h) ha hb hm
theorem wB{K:uc}{A B:TS}{w1:Str}{rest:List V}(h0:σ[0]?=sO (sO (.ref p)))(hp:H p=sO (.tup (.str w0::rest)))(k:A D σ H)(e:decide (V.str w0=V.str w1)=tV:=by rfl):tIfS (vH (tOp rEq (tOp (rIxT K) (tVar 0) (tC (.int 0))) (tC (.str w1)))) A B D σ H:=⟨_,h0,ixT hp aI0 ⟨rfl,_,rfl,by rw[e];exact k⟩⟩
theorem yD{K:uc}{A:TS}{w1:Str}{rest:List V}(h0:σ[0]?=sO (sO (.ref p)))(hp:H p=sO (.tup (.str w0::rest)))(k:D.nx σ H)(e:decide (V.str w0=V.str w1)=fO:=by rfl):tIfS (vH (tOp rEq (tOp (rIxT K) (tVar 0) (tC (.int 0))) (tC (.str w1)))) A xA D σ H:=⟨_,h0,ixT hp aI0 ⟨rfl,_,rfl,by rw[e];exact k⟩⟩
theorem yF(K:uc){l:Expr}(hl:jE X l tl)(h:X.K=K:=by rfl):jI X tg l (iTup K tl):=h ▸ zcs hl
theorem zP(K:uc){l:Expr}(hl:jE X l tl)(h:X.K=K:=by rfl):jI X tg l (Vi K tl):=h ▸ QT hl
theorem yG(K:uc){t:TA}{p:Pos}(hg:Gl X "zip")(hm:X.mg "zip"=nO)(ha:jA X [a,b] t)(h1:zy a=fO:=by rfl)(h2:zy b=fO:=by rfl)(h:X.K=K:=by rfl):jI X (.Tuple elts n tpos) (.Call (.Name "zip" p) [a,b] [] pos) (iZip K t):=h ▸ zcx hg hm ha h1 h2
theorem zg{α:Type}{a b:α->Prop}{w:α}(h:a w)(k:b w):∃x,a x/\b x:=⟨w,h,k⟩
end L2
namespace L2
theorem zw{α β:Type}{a:α->Prop}{b:β->Prop}{c:α->β->Prop}{w:α}{v:β}(h:a w)(i:b v)(k:c w v):∃x y,a x/\b y/\c x y:=⟨w,v,h,i,k⟩
end L2
namespace L2
open PySem
variable{P:St->Hp->Prop}
theorem cutD{t:TS}(h:∀D':Ends,(∀σ H,P σ H->D'.nx σ H)->t D' σ H)(p:∀σ H,P σ H->D.nx σ H):t D σ H:=h D p
theorem cutR{t:TS}(h:∀D':Ends,D'.rt=D.rt->(∀σ H,P σ H->D'.nx σ H)->t D' σ H)(p:∀σ H,P σ H->D.nx σ H):t D σ H:=h D rfl p
end L2
namespace L2
open PySem PySem.Spec PyProof.Rows
variable{o:Option V}{y:V}{kvs:List (List Key×V)}{xs:List (List Key×aO×aA)}
section
variable{κ:Type}[DecidableEq κ]
def valV(kvs:List (κ×V))(k:κ):Option V:=(kvs.find? fun kv=>decide (kv.1=k)).map (·.2)
def putK(kvs:List (κ×V))(k:κ)(v:V):List (κ×V) :=
 if(kvs.any fun kv=>decide (kv.1=k))=tV then kvs.map (fun kv=>if kv.1=k then(kv.1,v)else kv)else kvs++[(k,v)]
theorem V1{k:κ}:valV ([]:List (κ×V)) k=nO:=rfl
theorem yk{p:κ×V}{r:List (κ×V)}{k:κ}(e:p.1=k):valV (p::r) k=sO p.2:=by simp[valV,U6,e]
theorem ym{p:κ×V}{r:List (κ×V)}{k:κ}(e:¬ p.1=k):valV (p::r) k=valV r k:=by simp[valV,U6,e]
theorem xb(k:κ):∀kvs:List (κ×V),(kvs.any fun kv=>decide (kv.1=k))=(valV kvs k).isSome
 |[]=>rfl
 |p::r=>by
  rw[List.any_cons];by_cases e:p.1=k
  ·simp only[yk e,decide_eq_true e,Bool.true_or,Option.isSome_some]
  ·rw[ym e,eO e,tP];exact xb k r
theorem Yg(k j:κ)(y:V):∀kvs:List (κ×V),valV (kvs.map fun kv=>if kv.1=k then(kv.1,y)else kv) j=(valV kvs j).map fun x=>if j=k then y else x
 |[]=>rfl
 |p::r=>by
  have ih:=Yg k j y r;rw[uF];by_cases h:p.1=k
  ·rw[iP h]
   by_cases e:p.1=j
   ·rw[yk (p:=(p.1,y)) e,yk e,UZ,iP (e.symm.trans h)]
   ·rw[ym (p:=(p.1,y)) e,ym e,ih]
  ·rw[iN h]
   by_cases e:p.1=j
   ·rw[yk (p:=p) e,yk e,UZ,iN (fun z=>h (e.trans z))]
   ·rw[ym (p:=p) e,ym e,ih]
theorem jK(k j:κ)(y:V):∀kvs:List (κ×V),valV kvs k=nO->valV (kvs++[(k,y)]) j=if j=k then sO y else valV kvs j
 |[],_=>by
  by_cases e:k=j
  ·rw[iP e.symm];exact yk (p:=(k,y)) e
  ·rw[iN (fun z=>e z.symm)];exact ym (p:=(k,y)) e
 |p::r,hn=>by
  rw[List.cons_append];have hk:¬ p.1=k:=fun z=>by rw[yk z]at hn;cases hn
  rw[ym hk]at hn;have ih:=jK k j y r hn;by_cases e:p.1=j
  ·rw[yk e,yk e,iN (fun z=>hk (e.trans z))]
  ·rw[ym e,ym e,ih]
theorem xI(kvs:List (κ×V))(k j:κ)(y:V):valV (putK kvs k y) j=if j=k then sO y else valV kvs j:=by
 unfold putK;by_cases a:(kvs.any fun kv=>decide (kv.1=k))=tV
 ·rw[iP a,Yg]
  rw[xb]at a;by_cases e:j=k
  ·obtain⟨x,hx⟩:=U2.mp a
   rw[iP e,e,hx,UZ,iP rfl]
  ·rw[iN e]
   cases valV kvs j with
   |none=>rfl
   |some x=>rw[UZ,iN e]
 ·rw[iN a]
  refine jK k j y kvs ?_;rw[xb]at a;cases q:valV kvs k with
  |none=>rfl
  |some x=>rw[q]at a;exact(a rfl).elim
theorem vo(kvs:List (κ×V))(k:κ)(v:V):(putK kvs k v).length<=kvs.length+1:=by
 unfold putK;split
 ·rw[ub];lia
 ·rw[uf,um,List.length_nil];lia
theorem RelO.isSome_eq{u:Option aA}(r:RelO o u):o.isSome=u.isSome:=by
 cases o with
 |none=>cases u with
  |none=>rfl
  |some _=>exact(show False from r).elim
 |some _=>cases u with
  |none=>exact(show False from r).elim
  |some _=>rfl
theorem RelO.getD{u:Option aA}{d:V}{d':aA}(r:RelO o u)(rd:RelV d d'):RelV (o.getD d) (u.getD d'):=by
 cases o with
 |none=>cases u with
  |none=>exact rd
  |some _=>exact(show False from r).elim
 |some _=>cases u with
  |none=>exact(show False from r).elim
  |some _=>exact r
theorem KV.val{kvs:List (κ×V)}{vs:List (κ×aA)}(r:KV kvs vs)(k:κ):RelO (valV kvs k) (valueAt vs k):=by
 unfold KV at r
 induction r with
 |nil=>exact True.intro
 |@cons p q ps qs h t ih =>
  obtain⟨h1,h2⟩:=h;by_cases e:p.1=k
  ·have e':q.1=k:=h1.symm.trans e
   have b:valueAt (q::qs) k=sO q.2:=by simp[valueAt,U6,e']
   rw[yk e,b];exact h2
  ·have e':¬ q.1=k:=fun z=>e (h1.trans z)
   have b:valueAt (q::qs) k=valueAt qs k:=by simp[valueAt,U6,e']
   rw[ym e,b];exact ih
theorem KV.any{kvs:List (κ×V)}{vs:List (κ×aA)}(r:KV kvs vs)(k:κ):(kvs.any fun kv=>decide (kv.1=k))=vs.any fun kv=>decide (kv.1=k):=by
 unfold KV at r
 induction r with
 |nil=>rfl
 |cons h t ih=>rw[List.any_cons,List.any_cons,ih,h.1]
theorem KV.repl{kvs:List (κ×V)}{vs:List (κ×aA)}(r:KV kvs vs)(k:κ)(ry:RelV y u):
  KV (kvs.map fun kv=>if kv.1=k then(kv.1,y)else kv) (vs.map fun kv=>if kv.1=k then(kv.1,u)else kv):=by
 unfold KV at r ⊢
 induction r with
 |nil=>exact .nil
 |@cons p q ps qs h t ih =>
  rw[uF,uF];refine .cons ?_ ih;obtain⟨h1,h2⟩:=h;by_cases e:p.1=k
  ·rw[iP e,iP (h1.symm.trans e)];exact⟨h1,ry⟩
  ·rw[iN e,iN (fun z=>e (h1.trans z))];exact⟨h1,h2⟩
theorem KV.put{kvs:List (κ×V)}{vs:List (κ×aA)}(r:KV kvs vs)(k:κ)(ry:RelV y u):KV (putK kvs k y) (stored vs k u):=by
 unfold putK stored;rw[r.any k];by_cases e:(vs.any fun kv=>decide (kv.1=k))=tV
 ·rw[iP e,iP e];exact r.repl k ry
 ·rw[iN e,iN e];exact Paired.snoc r ⟨rfl,ry⟩
theorem KV.length{kvs:List (κ×V)}{vs:List (κ×aA)}(r:KV kvs vs):kvs.length=vs.length:=Paired.length r
end
theorem X1{k:Key}(r:RelV (kV k) u):(zR P w).is k u=tV:=by
 cases k with
 |inl i=>obtain⟨t,e⟩:=(show ∃t,u=Value.int i t from r);subst e;exact ZV P w i t
 |inr x=>obtain⟨t,e⟩:=(show ∃t,u=Value.str x t from r);subst e;exact ZX P w x t
theorem jL{P:Program}{w:World}:∀{ks:List Key}{us:List aA},Vals (ks.map kV) us->ItemsAre (zR P w) ks us
 |[],_,r=>by rw[tG]at r;cases r;exact .nil
 |k::ks,_,r=>by
  rw[uF]at r;cases r with
  |cons h t=>exact .cons (X1 h) (jL t)
abbrev KT(H:Hp):List (List Key×V)->List (List Key×aO×aA)->Prop:=Paired fun p q=>p.1=q.1/\H q.2.1=sO (.tup (p.1.map kV))/\RelV p.2 q.2.2
theorem KT.val(r:KT H kvs xs)(k:List Key):RelO (valV kvs k) ((atKey xs k).map (·.2)):=by
 induction r with
 |nil=>exact True.intro
 |@cons p q ps qs h t ih =>
  obtain⟨h1,_,h2⟩:=h;by_cases e:p.1=k
  ·have e':q.1=k:=h1.symm.trans e
   have b:atKey (q::qs) k=sO q.2:=by simp[atKey,U6,e']
   rw[yk e,b];exact h2
  ·have e':¬ q.1=k:=fun z=>e (h1.trans z)
   have b:atKey (q::qs) k=atKey qs k:=by simp[atKey,U6,e']
   rw[ym e,b];exact ih
theorem KT.repl(r:KT H kvs xs)(k:List Key)(ry:RelV y u):
  KT H (kvs.map fun kv=>if kv.1=k then(kv.1,y)else kv) (xs.map (putAt k u)):=by
 induction r with
 |nil=>exact .nil
 |@cons p q ps qs h t ih =>
  rw[uF,uF];refine .cons ?_ ih;obtain⟨h1,h2,h3⟩:=h;unfold putAt;by_cases e:p.1=k
  ·rw[iP e,iP (h1.symm.trans e)];exact⟨h1,h2,ry⟩
  ·rw[iN e,iN (fun z=>e (h1.trans z))];exact⟨h1,h2,h3⟩
theorem KT.put(r:KT H kvs xs)(k:List Key)(hb:H b=sO (.tup (k.map kV)))(ry:RelV y u):
  KT H (putK kvs k y) (storedH xs k b u):=by
 have e:(kvs.any fun kv=>decide (kv.1=k))=(atKey xs k).isSome:=by
  rw[xb,(r.val k).isSome_eq,Option.isSome_map]
 unfold putK storedH;rw[e];by_cases q:(atKey xs k).isSome=tV
 ·rw[iP q,iP q];exact r.repl k ry
 ·rw[iN q,iN q];exact Paired.snoc r ⟨rfl,hb,ry⟩
theorem KT.keeps(r:KT H kvs xs)(ht:∀b ys,H b=sO (.tup ys)->H' b=sO (.tup ys)):KT H' kvs xs :=
 Paired.mapP r fun _ _ z=>⟨z.1,ht _ _ z.2.1,z.2.2⟩
theorem zbm{u:HO}(ok:HOk P w H h)(e:Rd H a u):ObjOk P w H h a u:=e.ok ok
theorem Yh{kvs:List (Key×V)}(ok:HOk P w H h)(e:Rd H a (.dK kvs)):kvs.length<=sizeLine/\(a == sysModules)=fO/\∃vs,KV kvs vs/\h.DictOf (zR P w) a vs :=
 show ObjOk P w H h a (.dK kvs)from zbm ok e
theorem V2{kvs:List (Key×V)}(ok:HOk P w H h)(e:H a=sO (.dK kvs)):kvs.length<=sizeLine/\(a == sysModules)=fO/\∃vs,KV kvs vs/\h.DictOf (zR P w) a vs:=Yh ok (.inl e)
theorem Zj{ks:List Key}(ok:HOk P w H h)(e:H a=sO (.tup (ks.map kV))):(tupleKind (zR P w)).is h ks a:=by
 obtain⟨_,its,r,o,h1,h2,_,n,h3⟩:=(show ObjOk P w H h a (.tup (ks.map kV))from ok a _ e);exact⟨o,its.toArray,n,h1,h2,h3,by simpa using jL r⟩
theorem Yi(ok:HOk P w H h)(e:Rd H a (.dT kvs)):kvs.length<=sizeLine/\(a == sysModules)=fO /\
  ∃xs,KT H kvs xs/\h.DictOfH (tupleKind (zR P w)) a xs:=by
 obtain⟨z,y,xs,r,o,es,ep,h1,h2,h3,h4,h5⟩:=(show ObjOk P w H h a (.dT kvs)from zbm ok e);refine⟨z,y,xs,r,o,es,ep,h1,h2,h3,h4,fun x hx=>?_,h5⟩;have all:∀{l:List (List Key×V)}{m:List (List Key×aO×aA)},KT H l m->∀x∈m,(tupleKind (zR P w)).is h x.1 x.2.1:=by
  intro l m q
  induction q with
  |nil=>intro x hx;exact nomatch hx
  |@cons p q ps qs hq t ih =>
   intro x hx;rcases uy.mp hx with e|hx
   ·subst e
    exact Zj ok (by rw[<- hq.1];exact hq.2.1)
   ·exact ih x hx
 exact all r x hx
theorem zdM(ok:HOk P w H h)(e:H a=sO (.dT kvs)):kvs.length<=sizeLine/\(a == sysModules)=fO /\
  ∃xs,KT H kvs xs/\h.DictOfH (tupleKind (zR P w)) a xs:=Yi ok (.inl e)
def DGet(H:Hp)(a:aO)(y:V)(r:Option V):Prop :=
 (∃kvs k,Rd H a (.dK kvs)/\y=kV k/\r=valV kvs k)\/∃kvs k b,Rd H a (.dT kvs)/\y=.ref b/\H b=sO (.tup (k.map kV))/\r=valV kvs k
def DPut(H:Hp)(a:aO)(y v:V)(H':Hp):Prop :=
 (∃kvs k,H a=sO (.dK kvs)/\y=kV k/\kvs.length < sizeLine/\H'=upd H a (.dK (putK kvs k v))) \/
 ∃kvs k b,H a=sO (.dT kvs)/\y=.ref b/\H b=sO (.tup (k.map kV))/\kvs.length < sizeLine/\H'=upd H a (.dT (putK kvs k v))
theorem DGet.k{kvs:List (Key×V)}{k:Key}(e:H a=sO (.dK kvs)):DGet H a (kV k) (valV kvs k):=.inl ⟨kvs,k,.inl e,rfl,rfl⟩
theorem DPut.k{kvs:List (Key×V)}{k:Key}{v:V}(e:H a=sO (.dK kvs))(hl:kvs.length < sizeLine):DPut H a (kV k) v (upd H a (.dK (putK kvs k v))):=.inl ⟨kvs,k,e,rfl,hl,rfl⟩
section
variable{v:V}{r:aA}
theorem Inv.big(I:Inv X pins σ H s):sysModules < s.heap.objs.size:=by
 have h:mainGlobals < s.heap.objs.size:=(I.mod.glob.keeps I.bk).lt;exact Nat.lt_trans (by decide) h
theorem WE{Q:VSP}(hu:A.units+1 < cLine)(I:Inv X pins σ H s)(g:DGet H a y (sO v))(ry:RelV y u)(h:∀w' s',Inv X pins σ H s'->RelV v w'->Q w' s'):
  wpAny (model X.prog X.w) A (getItem (.ref a) u) Q E s:=by
 rcases g with⟨kvs,k,e,ey,l⟩|⟨kvs,k,b,e,ey,eb,l⟩
 ·subst ey
  obtain⟨z,hd,vs,rel,dd⟩:=Yh I.hok e;obtain⟨w',hw,rw'⟩:=RelO.some_of (v:=v) (o:=valueAt vs k) (by rw[l];exact rel.val k);exact wpAny_getItem_of (X1 ry) dd.mapOf hw (h w' _ (I.tok _) rw')
 ·subst ey
  cases(show u=Value.ref b from ry);obtain⟨z,hd,xs,rel,dd⟩:=Yi I.hok e;obtain⟨w',hw,rw'⟩:=RelO.some_of (v:=v) (o:=(atKey xs k).map (·.2)) (by rw[l];exact rel.val k);obtain⟨p,hp,hp2⟩:=ug.mp hw;refine wpAny_getItem_heap (tupleKind_room_in1 hu) (Zj I.hok eb) dd hp ?_;rw[hp2];exact h w' _ (I.tok _) rw'
theorem X2{ob:HO}(I:Inv X pins σ H s)(mu:Mut (H a))(hs:Heap.SameBut a s.heap h')(he:∃q,h'.get? a=sO q)(new:ObjOk X.prog X.w (upd H a ob) h' a ob):
  Inv X pins σ (upd H a ob) { s with heap:=h',toks:=t' } :=
 I.write (x:=a) (e:=a) mu (.inl rfl) (fun b q hb z=>(hs.2 b hb).trans z) he new
theorem zcF{kvs:List (Key×V)}{vs:List (Key×aA)}(z:kvs.length<=sizeLine)(hd:(a == sysModules)=fO)(rel:KV kvs vs)(dd:h'.DictOf (zR P w) a vs):
  ObjOk P w H' h' a (.dK kvs):=⟨z,hd,vs,rel,dd⟩
theorem WF(hu:A.units+1 < cLine)(I:Inv X pins σ H s)(g:DPut H a y v H')(ry:RelV y u)(rv:RelV v r)(h:∀s',Inv X pins σ H' s'->Q () s'):
  wpAny (model X.prog X.w) A (setItem (.ref a) u r) Q E s:=by
 rcases g with⟨kvs,k,e,ey,l,eH⟩|⟨kvs,k,b,e,ey,eb,l,eH⟩
 ·subst ey eH
  obtain⟨z,hd,vs,rel,dd⟩:=V2 I.hok e;have hz:vs.length<=sizeLine:=by rw[<- rel.length];exact z
  have hl:(putK kvs k v).length<=sizeLine:=by have:=vo kvs k v;lia
  refine wpAny_setItem_pairs (hsz:=hz) (X1 ry) dd fun h' dd' hs=>h _ ?_;have he:∃q,h'.get? a=sO q:=let ⟨q,_,_,hq,_⟩:=dd';⟨q,hq⟩
  exact X2 I (by rw[e];exact True.intro) hs he (zcF hl hd (rel.put k rv) dd')
 ·subst ey eH
  cases(show u=Value.ref b from ry);obtain⟨z,hd,xs,rel,dd⟩:=zdM I.hok e;have hz:xs.length<=sizeLine:=by rw[<- Paired.length rel];exact z
  have hl:(putK kvs k v).length<=sizeLine:=by have:=vo kvs k v;lia
  refine wpAny_setItem_heap (hsz:=hz) (tupleKind_room_in1 hu) (Zj I.hok eb) dd fun h' dd' hs=>h _ ?_;obtain⟨q,es,ep,hq,h2,h3,h4,_,h5⟩:=dd';refine X2 I (by rw[e];exact True.intro) hs ⟨q,hq⟩ ⟨hl,hd,_,(rel.put k eb rv).keeps fun c ys ec=>?_,q,es,ep,hq,h2,h3,h4,h5⟩;rw[zj (yn ec e (fun z=>nomatch z))];exact ec
end
def NoSl(i:Expr):Prop:=∀ov iv,subscripted i fO ov iv=operate [ov,iv] (getItem ov iv)
theorem Q8{slice:Expr}{T:String}{Q:VSP}
  (hl:typeLookup (.type T) "__getitem__"=pure (sO (.builtin id))) (hs:NoSl slice)
  (h:wpAny (model prog w) A (eval value env) (fun o s₁=>wpAny (model prog w) A (eval slice env) (fun i s₂=>s₂.TypeIs o T/\wpAny (model prog w) A (getItem o i) Q E s₂) E s₁) E s) :
  wpAny (model prog w) A (eval (.Subscript value slice pos) env) Q E s:=by
 refine Subscript_ (wpAny_mono h (fun o s₁ h₁=>wpAny_mono h₁ (fun i s₂ h₂=>?_) fun _ _ x=>x) fun _ _ x=>x);obtain⟨hT,h₂⟩:=h₂;unfold subscriptTail;refine bA ?_;rw[getitemInPython_of_ne hT.not_modules];refine bA (wpAny_specialOf hT hl ?_);have fin:wpAny (model prog w) A (subscripted slice fO o i) (fun r s₃=>wpAny (model prog w) A (letTemporaryGo value o r >>= fun _=>pure r) Q E s₃) E s₂:=by
  rw[hs o i];exact wpAny_operating (wpAny_mono h₂ (fun r s₃ h₃=>bA (wpAny_letTemporaryGo (pO h₃))) fun _ _ x=>x)
 first
  |exact pO (bA fin)
  |exact bA (pO (bA fin))
  |exact bA fin
theorem Yj(I:Inv X pins σ H s)(g:DGet H a y o):s.TypeIs (.ref a) "dict":=by
 rcases g with⟨kvs,k,e,_,_⟩|⟨kvs,k,b,e,_,_,_⟩
 ·obtain⟨_,_,vs,_,dd⟩:=Yh I.hok e
  exact dd.typeIs
 ·obtain⟨_,_,xs,_,dd⟩:=Yi I.hok e
  exact dd.typeIs
def zbn(td ty:TE):TE:=fun σ H Q=>td σ H fun x H1=>ty σ H1 fun y H2=>∃a v,x=.ref a/\DGet H2 a y (sO v)/\Q v H2
def zbo(td ty tv:TE):TS:=fun D σ H=>tv σ H fun v H1=>td σ H1 fun x H2=>ty σ H2 fun y H3=>∃a H4,x=.ref a/\DPut H3 a y v H4/\D.nx σ H4
section
variable{o i:Expr}{tv:TE}
theorem Q9(hu:X.A.units+1 < cLine)(ho:PE X o td)(hi:PE X i ty)(hs:NoSl i):PE X (.Subscript o i pos) (zbn td ty):=by
 intro pins s σ H Q I h;refine Q8 PySem.F.slot_dict_getitem.lookup hs (thn (ho pins s σ H _ I h) fun u s1 ⟨x,H1,I1,rx,q1⟩=>thn (hi pins s1 σ H1 _ I1 q1) fun iv s2 hq_=>?_);obtain⟨y,H2,I2,ry,a,v,ex,g,q2⟩:=hq_;subst ex;obtain rfl:u=Value.ref a:=rx;exact⟨Yj I2 g,WE hu I2 g ry fun w' s3 I3 rw'=>⟨v,H2,I3,rw',q2⟩⟩
theorem zaa(hu:X.A.units+1 < cLine)(ho:PE X o td)(hi:PE X i ty)(hv:PE X value tv)(hs:swapsWith value (sO (.Subscript o i pos')) pos.line X.env=pure fO):
  PS X (.Assign [.Subscript o i pos'] value pos) (zbo td ty tv):=by
 intro pins s σ H D I h;refine wpAny_Assign_Subscript (thn (hv pins s σ H _ I h) fun r s1 ⟨v,H1,I1,rv,q1⟩=>thn (ho pins s1 σ H1 _ I1 q1) fun u s2 ⟨x,H2,I2,rx,q2⟩=>thn (hi pins s2 σ H2 _ I2 q2) fun iv s3 ⟨y,H3,I3,ry,a,H4,ex,g,q3⟩=>?_) hs;subst ex;obtain rfl:u=Value.ref a:=rx;exact WF hu I3 g ry rv fun s4 I4=>⟨σ,H4,I4,q3⟩
end
theorem V3(h:Heap)(hb:sysModules < h.objs.size):ObjOk P w H (h.push { cls:=.type "dict",data:=.dict #[] }) h.objs.size (.dK []) :=
 ⟨uK _,beq_eq_false_iff_ne.mpr (Ne.symm (uT hb)),[],.nil,Heap.DictOf.new h⟩
def V4:TE:=fun _ H Q=>∀p,H p=nO->Q (.ref p) (upd H p (.dK []))
theorem V5:PE X (.Dict [] [] pos) V4:=fun pins s σ H Q I h =>
 wpAny_Dict_empty ⟨.ref s.heap.objs.size,_,I.laid (a:=s.heap.objs.size) (o:=.dK []) (t':=s.toks) (fun _ _ q=>ue _ q) (uj _) (V3 s.heap I.big),rfl,h _ (I.hok.fresh (uj _))⟩
structure M2(X:Cx)(o:Expr)(m:Str)(apos:Pos)(e f:Expr)(cpos:Pos):Prop where
 base:attributeBase o m X.env (eval o X.env)=eval o X.env
 few:((backTo cpos (starEach [e,f] X.env)).all (fun x=>!x.1) && (backToKw cpos (keywordEach [] X.env)).all (fun x=>x.1.isSome)
  && decide (([e,f]:List Expr).length+([]:List Keyword).length+(if([]:List Keyword).isEmpty then 0 else 1) < 30))=tV
 line:(apos.endLine == cpos.line)=tV
 trees:backTo cpos (starEach [e,f] X.env)=[(fO,eval e X.env),(fO,eval f X.env)]
def IsD(H:Hp)(a:aO):Prop:=(∃kvs,Rd H a (.dK kvs))\/∃kvs,Rd H a (.dT kvs)
theorem zcG(I:Inv X pins σ H s)(d:IsD H a):
  s.TypeIs (.ref a) "dict"/\(∀b,Value.ref a=.ref b->∃ob,s.heap.get? b=sO ob/\ob.dict=nO)/\(a == sysModules)=fO:=by
 rcases d with⟨kvs,e⟩|⟨kvs,e⟩
 ·obtain⟨_,hd,vs,_,dd⟩:=Yh I.hok e
  refine⟨dd.typeIs,fun b q=>?_,hd⟩;cases q;obtain⟨ob,_,_,h1,h2,_⟩:=dd;exact⟨ob,h1,h2.2.1⟩
 ·obtain⟨_,hd,xs,_,dd⟩:=Yi I.hok e
  refine⟨dd.typeIs,fun b q=>?_,hd⟩;cases q;obtain⟨ob,_,_,h1,h2,_⟩:=dd;exact⟨ob,h1,h2.2.1⟩
section
variable{d:V}{r:aA}
theorem zcH{Q:VSP}(hu:A.units+1 < cLine)(I:Inv X pins σ H s)(g:DGet H a y o)(ry:RelV y u)(rd:RelV d r)(h:∀w' s',Inv X pins σ H s'->RelV (o.getD d) w'->Q w' s'):
  wpAny (model X.prog X.w) A (call (.builtin "dict.get") [.ref a,u,r]) Q E s:=by
 rcases g with⟨kvs,k,e,ey,l⟩|⟨kvs,k,b,e,ey,eb,l⟩
 ·subst ey
  obtain⟨z,hd,vs,rel,dd⟩:=Yh I.hok e;refine call_meetsIn PySem.F.slot_dict_get dd.typeIs PySem.F.entry_dict_get (PySem.F.args_dict_get_3 _ _ _) (meets_dict_get_default (zR X.prog X.w) a (X1 ry) hd r) ⟨_,dd.mapOf,h _ _ (I.tok _) ?_⟩;rw[l];exact(rel.val k).getD rd
 ·subst ey
  cases(show u=Value.ref b from ry);obtain⟨z,hd,xs,rel,dd⟩:=Yi I.hok e;refine call_meetsIn PySem.F.slot_dict_get dd.typeIs PySem.F.entry_dict_get (PySem.F.args_dict_get_3 _ _ _) (meetsH_dict_get_default (tupleKind (zR X.prog X.w)) a b hd r) ⟨tupleKind_room_in1 hu,k,xs,Zj I.hok eb,dd,h _ _ (I.tok _) ?_⟩;rw[l];exact(rel.val k).getD rd
end
def V6(td ty tx:TE):TE:=fun σ H Q=>td σ H fun x H1=>∃a,x=.ref a/\IsD H1 a/\ty σ H1 fun y H2=>tx σ H2 fun z H3=>∃o,DGet H3 a y o/\Q (o.getD z) H3
section
variable{o f:Expr}{tx:TE}
theorem V7(hu:X.A.units+1 < cLine)(ho:PE X o td)(he:PE X e ty)(hf:PE X f tx)(m:M2 X o "get" apos e f cpos):PE X (.Call (.Attribute o "get" apos) [e,f] [] cpos) (V6 td ty tx):=by
 intro pins s σ H Q I h;refine wpAny_Call_method m.base m.few m.line PySem.F.plainAttrs_dict PySem.F.slot_dict_get PySem.F.type_dict_get (thn (ho pins s σ H _ I h) fun u s1 hq_=>?_);obtain⟨x,H1,I1,rx,a,ex,d,q1⟩:=hq_;subst ex;obtain rfl:u=Value.ref a:=rx;obtain⟨t1,t2,_⟩:=zcG I1 d;refine⟨t1,t2,?_⟩;rw[m.trees];refine Calls.callWith_builtin rfl (Calls.evalArgs_plain (Calls.spliced_cons (thn (he pins s1 σ H1 _ I1 q1) fun iv s2 ⟨y,H2,I2,ry,q2⟩ =>
  Calls.spliced_cons (thn (hf pins s2 σ H2 _ I2 q2) fun fv s3 ⟨z,H3,I3,rz,ov,g,q3⟩=>Calls.spliced_nil ?_))))
 exact zcH hu I3 g ry rz fun w' s4 I4 rw'=>⟨_,H3,I4,rw',q3⟩
end
theorem xJ:jE X (.Dict [] [] pos) V4:=⟨V5⟩
theorem SqK.l{K:uc}{xs:List V}(h:H a=sO (.lst xs)):SqK tV K H a xs:=SqL.of h
theorem SqK.t{K:uc}{xs:List V}(h:H a=sO (.tup xs)):SqK fO K H a xs:=SqT.of h
theorem vw{K:uc}{k m:Bool}{xs ys:List V}{tb:TS}(hlen:xs.length=ys.length)(Pv:Nat->St->Hp->Prop)(h0:Pv 0 σ H)(hl:∀i σ H,i<=xs.length->Pv i σ H->SqK k K H a xs/\SqK m K H b ys)
  (hs:∀i x y T σ H,xs[i]?=sO x->ys[i]?=sO y->H T=nO->Pv i σ H->g (.ref T) σ (upd H T (.tup [x,y])) fun σ2 H2=>tb { D with nx:=Pv (i+1),ct:=Pv (i+1),bk:=D.nx } σ2 H2) (hd:∀σ H,Pv xs.length σ H->D.nx σ H) :
  ∃W:Nat->Nat->St->Hp->Prop,(∃m,W 0 m σ H)/\∀i n σ H,W i n σ H ->
   ((Itz K k m a b).stop i H/\D.nx σ H)\/((Itz K k m a b).go i H/\∃N:St->Hp->Prop,(∀σ' H',N σ' H'->∃m',m' < n/\W (i+1) m' σ' H')/\∀x H',(Itz K k m a b).yld i H x H'->g x σ H' fun σ2 H2=>tb { D with nx:=N,ct:=N,bk:=D.nx } σ2 H2):=by
 refine⟨fun i m σ H=>m=xs.length-i/\i<=xs.length/\Pv i σ H,⟨xs.length,by simp,uK _,h0⟩,?_⟩;rintro i n σ H ⟨rfl,hi,p⟩;obtain⟨q1,q2⟩:=hl i σ H hi p;by_cases hlt:i < xs.length
 ·refine .inr ⟨go2 q1 q2 (ui hlt) (ui (hlen ▸ hlt)),Pv (i+1),fun σ' H' p'=>⟨xs.length-(i+1),by lia,rfl,hlt,p'⟩,fun x H' yq=>?_⟩
  obtain⟨T,x,y,rfl,hT,rfl,e1,e2⟩:=yld2 yq q1 q2;exact hs i x y T σ H e1 e2 hT p
 ·have e:i=xs.length:=by lia
  subst e;exact .inl ⟨zbh q1 q2 (uj _),hd σ H p⟩
def lay(H:Hp):List (aO×HO)->Hp
 |[]=>H
 |p::r=>upd (lay H r) p.1 p.2
theorem zbp{k:Key}(h:(zR P w).is k u=tV):RelV (kV k) u:=by
 rw[YY]at h;rcases z4 h with⟨i,t,rfl,rfl⟩|⟨x,t,rfl,rfl⟩
 ·exact⟨t,rfl⟩
 ·exact⟨t,rfl⟩
theorem xw{o i:Expr}{tv:TE}{k:Nat}(hr:Room k X.A)(ho:jE X o td)(hi:jE X i ty)(hv:jE X value tv)(hs:swapsWith value (sO (.Subscript o i pos')) pos.line X.env=pure fO:=by rfl):
  jS X (.Assign [.Subscript o i pos'] value pos) (zbo td ty tv):=⟨zaa (by have:=hr.units;lia) ho.out hi.out hv.out hs⟩
theorem KV.get{kvs:List (Key×V)}{ws:List (Key×aA)}(r:KV kvs ws){k:Key}{x:aA}(h:ws[j]?=sO (k,x)):∃y,kvs[j]?=sO (k,y)/\RelV y x:=by
 unfold KV at r
 induction r generalizing j with
 |nil=>simp at h
 |@cons p q ps qs hh t ih =>
  cases j with
  |zero =>
   simp at h
   subst h;obtain⟨p1,p2⟩:=p;have e:p1=k:=hh.1;subst e;exact⟨p2,rfl,hh.2⟩
  |succ j =>
   obtain⟨y,h1,h2⟩:=ih (j:=j) (by simpa using h);exact⟨y,by simpa using h1,h2⟩
end L2
namespace K11
open PySem
def sg(c:Nat):Str:=⟨#[c]⟩
theorem vR(a:Array Nat):∀(k:Nat)(acc:Array Nat),((uQ k a).foldl (· ++ ·) acc).size=acc.size+k*a.size
 |0,acc=>by simp
 |k+1,acc=>by
  rw[UH,UJ,vR a k,Array.size_append,tw];lia
theorem zab{n:Int}(hz:z.length=1):(Txt.mul z n).length<=n.toNat:=by
 unfold Txt.mul;split
 ·simp[Str.empty,Str.length]
 ·rename_i h
  split
  ·rw[hz];lia
  ·show((uQ n.toNat z.cps).foldl (· ++ ·) #[]).size<=n.toNat
   have e:z.cps.size=1:=hz;rw[vR,e];simp
theorem zcI{n:Int}(hz:z.length=1)(h0:0<=n)(h1:n<=1000):MulOk z n:=by
 have hs:sizeLine=16777216:=by decide
 refine⟨?_,fun a b=>?_,fun a b=>?_⟩
 ·have e1:decide (n < -(2 ^ 63:Int))=fO:=eO (by lia)
  have e2:decide (n ≥ 2 ^ 63)=fO:=eO (by lia);rw[e1,e2];rfl
 ·rw[hz]
  have:(1:Int)<=(2 ^ 63-1) / n:=Int.le_ediv_of_mul_le (by lia) (by lia)
  intro c;have c':(1:Int) > (2 ^ 63-1) / n:=c;lia
 ·rw[hz]
  unfold Builtin.Str.tooLong;exact eO (by rw[hs];lia)
end K11
namespace K11
open PySem PySem.Spec PyProof.Rows Builtin Builtin.Str
abbrev cl(z:Str):List Nat:=z.cps.toList
theorem xx(z:Str):(cl z).length=z.length:=by simp[Str.length]
theorem zY(x y:Str):cl (x++y)=cl x++cl y:=by
 show(x.cps++y.cps).toList=_;simp
theorem wC{sep:Str}{r:lS}:cl (Str.join sep (x::y::r))=cl x++(cl sep++cl (Str.join sep (y::r))):=by
 show cl (x++sep++Str.join sep (y::r))=_;rw[zY,zY,UC]
end K11
namespace GN
open PySem L2
def top(i:Nat):Stmt:=PySem.Challenge.pw_reusewise_k49_whole_every_way_pays.main.body.getD i (.Pass ⟨0,0,0,0⟩)
abbrev V8:Stmt:=top 1
abbrev Xm:Stmt:=top 6
abbrev Xn:Stmt:=xO (top 2) 0
abbrev Zk:Stmt:=top 3
abbrev V9:Stmt:=top 4
abbrev Ja:Stmt:=top 7
abbrev sTog:Stmt:=top 8
abbrev wZ:Stmt:=top 9
abbrev yQ:Stmt:=top 10
abbrev Zl:Stmt:=top 11
abbrev we:Stmt:=top 12
abbrev vS:Stmt:=top 13
abbrev Jb:Stmt:=top 14
abbrev Jc:Stmt:=top 30
abbrev sNm:Stmt:=top 31
abbrev Xo:Stmt:=top 32
abbrev Xp:Stmt:=top 33
abbrev Xq:Stmt:=top 34
abbrev Jd:Stmt:=top 35
abbrev Xr:Stmt:=top 36
abbrev Zm:Stmt:=top 37
abbrev Je:Stmt:=top 38
abbrev Xs:Stmt:=top 39
abbrev Jf:Stmt:=top 40
abbrev X3:Stmt:=top 41
abbrev sDef:Stmt:=top 42
abbrev vT:Stmt:=top 43
abbrev Zn:Stmt:=top 50
abbrev Zo:Stmt:=top 52
abbrev sLaw:Stmt:=top 53
abbrev Zp:Stmt:=top 15
abbrev Jg:Stmt:=top 17
abbrev wE:Stmt:=top 18
abbrev Zq:Stmt:=xO (top 19) 0
abbrev Zr:Stmt:=xO (top 20) 0
abbrev vU:Stmt:=xO (top 20) 1
abbrev vV:Stmt:=xO (top 20) 2
abbrev Xt:Stmt:=xO (top 20) 3
abbrev xQ:Stmt:=top 21
abbrev xo:Stmt:=top 22
abbrev vx:Stmt:=top 23
abbrev w4:Stmt:=top 24
abbrev wF:Stmt:=top 25
abbrev w5:Stmt:=top 26
abbrev Xu:Stmt:=top 27
abbrev Xv:Stmt:=top 28
abbrev vy:Stmt:=top 44
abbrev Xw:Stmt:=top 45
abbrev Jh:Stmt:=top 46
abbrev Zs:Stmt:=top 47
end GN
namespace L2
open PySem
section
variable{i:Expr}{ti:TE}
theorem vz(ho:jE X o to)(hi:jE X i ti)(ha:∀v,assign (.Subscript o i pos) X.env v=(do
   let ov <- holding [v] (eval o X.env)
   let iv <- holding [v,ov] (eval i X.env)
   standAt pos
   holding [v,ov,iv] (setItem ov iv v)
   release [v,ov,iv] []):=by intro _;rfl):jG X (.Subscript o i pos) (gSub to ti zba):=⟨zbY ho.out hi.out Vs ha⟩
theorem zcJ:jOp X (binaryOp .Mult) rRep:=⟨zcn⟩
theorem Xx:jMt X "list.reverse" Z4:=⟨Xb⟩
theorem zac(hc:X.calm=tV):jCa X (.builtin "max") (fun xs H Q=>∃i j,xs=[.int i,.int j]/\Q (.int (if j > i then j else i)) H):=⟨Wr hc⟩
end
end L2
namespace GN
open PySem L2 K11
variable{st:aO}{o:HO}
theorem zk(h:H p=nO)(o:HO):Same H (upd H p o):=fun b u q=>by rw[zj (zi q h)];exact q
def LIM:Nat:=4611686018427387904
inductive Sta(K:uc)(H:Hp)(st:aO)(B:Nat):Prop
 |mk (a:aO) (ns:List Int) (dg:Int):(∃k:Nat,H st=sO (.lst [.ref a,.int (k:Nat),.int dg])/\(a=st->∀H',SqL K H' a (ns.map V.int))/\SqL K H a (ns.map V.int)/\k<=B)->Sta K H st B
structure Kp(st:aO)(H H':Hp):Prop where
 k:∀b u,b≠st->H b=sO u->H' b=sO u
 s:∀a k,H st=sO (.lst (.ref a::k))->∃k',H' st=sO (.lst (.ref a::k'))
theorem Kp.refl:Kp st H H:=⟨fun _ _ _ h=>h,fun _ k h=>⟨k,h⟩⟩
theorem Kp.trans(a:Kp st H H1)(b:Kp st H1 H2):Kp st H H2:=⟨fun c u n h=>b.k c u n (a.k c u n h),fun x k h=>let ⟨k',h'⟩:=a.s x k h;b.s x k' h'⟩
theorem Kp.of(a:Same H H1):Kp st H H1:=⟨fun c u _ h=>a c u h,fun _ k h=>⟨k,a _ _ h⟩⟩
theorem Kp.new(a:Kp st H H1)(h:H1 p=nO):Kp st H (upd H1 p o):=a.trans (.of (zk h o))
theorem Kp.put(a:Kp st H H1)(h:H p=nO):Kp st H (upd H1 p o):=⟨fun b u n q=>by rw[zj (zi q h)];exact a.k b u n q,fun x k q=>by
 obtain⟨k',h'⟩:=a.s x k q;exact⟨k',by rw[zj (zi q h)];exact h'⟩⟩
theorem Kp.seq{K:uc}(e:Kp st H H')(n:a≠st)(h:SqL K H a xs):SqL K H' a xs:=by
 rcases h with(h|⟨o,h⟩)|h
 ·exact .inl (.inl (e.k _ _ n h))
 ·exact .inl (.inr ⟨o,e.k _ _ n h⟩)
 ·exact .inr h
theorem Kp.free(e:Kp st H H')(n:p≠st)(h:H' p=nO):H p=nO:=by
 cases q:H p with
 |none=>rfl
 |some o =>
  rw[e.k p o n q]at h;cases h
section
variable{K:uc}{B':Nat}
theorem Sta.ex(h:Sta K H st B):∃o,H st=sO o:=by obtain⟨_,_,_,_,e,_⟩:=h;exact⟨_,e⟩
theorem Sta.mono(h:Sta K H st B)(l:B<=B'):Sta K H st B':=by obtain⟨a,ns,dg,k,h1,h2,h3,h4⟩:=h;exact⟨a,ns,dg,k,h1,h2,h3,uH h4 l⟩
theorem Sta.same(h:Sta K H st B)(s:Same H H'):Sta K H' st B:=by obtain⟨a,ns,dg,k,h1,h2,h3,h4⟩:=h;exact⟨a,ns,dg,k,s _ _ h1,h2,s.seq h3,h4⟩
theorem Sta.new(h:Sta K H st B)(hp:H p=nO)(o:HO):Sta K (upd H p o) st B:=h.same (zk hp o)
theorem Sta.ne(h:Sta K H st B)(hp:H p=nO):p≠st:=fun e=>by
 obtain⟨o,q⟩:=h.ex;rw[e,q]at hp;cases hp
theorem Sta.neR(h:Sta K H st B)(hp:H p=sO (.lst (ts.map V.ref))):p≠st:=fun e=>by
 obtain⟨a,ns,dg,k,h1,_⟩:=h;rw[e,h1]at hp;have e2:=congrArg (fun o=>match o with|some (HO.lst l)=>l|_=>[]) hp;simp only at e2
 match ts,e2 with
 |[],e2=>simp at e2
 |[_],e2=>simp at e2
 |_::_::_,e2=>simp at e2
theorem Sta.neI{ts:List Int}(h:Sta K H st B)(hp:H p=sO (.lst (ts.map V.int))):p≠st:=fun e=>by
 obtain⟨a,ns,dg,k,h1,_⟩:=h;rw[e,h1]at hp;have e2:=congrArg (fun o=>match o with|some (HO.lst l)=>l|_=>[]) hp;simp only at e2
 match ts,e2 with
 |[],e2=>simp at e2
 |_::_,e2=>simp at e2
theorem Sta.neS{ts:lS}(h:Sta K H st B)(hp:H p=sO (.lst (ts.map V.str))):p≠st:=fun e=>by
 obtain⟨a,ns,dg,k,h1,_⟩:=h;rw[e,h1]at hp;have e2:=congrArg (fun o=>match o with|some (HO.lst l)=>l|_=>[]) hp;simp only at e2
 match ts,e2 with
 |[],e2=>simp at e2
 |_::_,e2=>simp at e2
theorem Sta.neW(h:Sta K H st B)(hp:H p=sO (.lst (.str x::xs))):p≠st:=fun e=>by
 obtain⟨a,ns,dg,k,h1,_⟩:=h;rw[e,h1]at hp;simp at hp
theorem Sta.put(S0:Sta K H st B)(hp:H p=nO)(k:Kp st H H2)(S2:Sta K H2 st B'):Sta K (upd H2 p o) st B':=by
 obtain⟨a,ns,dg,i,h1,h2,h3,_⟩:=S0;obtain⟨a',ns',dg',i',g1,g2,g3,g4⟩:=S2;obtain⟨k',h'⟩:=k.s a _ h1;rw[g1]at h';have ea:a'=a:=by
  have:=congrArg (fun o=>match o with|some (HO.lst (V.ref x::_))=>x|_=>0) h'
  exact this
 subst ea;have g1':upd H2 p o st=sO (.lst [.ref a',.int ((i':Nat):Int),.int dg']):=by rw[zj (zi h1 hp)];exact g1
 have key:a'≠p->Sta K (upd H2 p o) st B':=fun n=>by
  refine⟨a',ns',dg',i',g1',g2,?_,g4⟩;rcases g3 with(g|⟨o,g⟩)|g
  ·exact .inl (.inl (by rw[zj n];exact g))
  ·exact .inl (.inr ⟨o,by rw[zj n];exact g⟩)
  ·exact .inr g
 rcases h3 with(h|⟨_,h⟩)|h
 ·exact key (zi h hp)
 ·exact key (zi h hp)
 ·exact⟨a',ns,dg',i',g1',fun _ _=>.inr h,.inr h,g4⟩
def Tups(H H':Hp):Prop:=∀p xs,H p=sO (.tup xs)->H' p=sO (.tup xs)
theorem Tups.of(s:Same H H'):Tups H H':=fun p xs h=>s p _ h
theorem Tups.trans(a:Tups H H')(b:Tups H' H2):Tups H H2:=fun p xs h=>b p xs (a p xs h)
theorem Kp.tups(k:Kp st H H')(h:Sta K H st B):Tups H H':=fun p xs q=>k.k p _ (fun e=>by
 obtain⟨_,_,_,_,h1,_⟩:=h;rw[e,h1]at q;cases q) q
end
inductive spDraw(K:uc)(vs:List V)(H:Hp)(Q:VK)(e_3:XK):Prop
 |mk (st:aO) (m:Int):(∃B:Nat,vs=[.ref st,.int m]/\Sta K H st B/\B < LIM/\(0 < m/\m < 1073741824)/\∀(H':Hp)(r:Int),Kp st H H'->Sta K H' st (B+1)->0<=r->r < m->Q (.int r) H')->spDraw K vs H Q e_3
def LET:Str:="abcdefghijklmnopqrstuvwxyz"
theorem zcK:cl LET=(uM 26).map (97 + ·):=by decide +kernel
def lt(i:Nat):Str:=sg (97+i)
theorem zcL(h:i < 26):atI LET.cps.toList (i:Int)=sO (97+i):=by
 refine yo ?_;show(cl LET)[i]?=_;rw[zcK,uh,tM h]
 rfl
theorem Zt{m:Int}(h0:0<=m)(h:m < 26):atI LET.cps.toList m=sO (97+m.toNat):=by
 have e:=zcL (i:=m.toNat) (by lia);rw[tO h0]at e;exact e
theorem Zu:LET.length=26:=by decide +kernel
def core(k:Nat):Str:=lt (k / 2 % 26)++("z":Str)++lt (k / 52 % 26)
def ys(k:Nat):Str:=Txt.mul "y" ((k % 2:Nat):Int)
def nm(z:Str)(b:Bool)(k:Nat):Str:=if b=tV then core k++z++ys k else ys k++z++core k
theorem wG(k:Nat):cl (core k)=[97+k / 2 % 26,122,97+k / 52 % 26]:=by
 unfold core;rw[zY,zY]
 rfl
theorem Yk(k:Nat):(core k).length=3:=by rw[<- xx,wG];rfl
theorem Ji(k:Nat):(ys k).length<=1:=by
 have h:=zab (z:="y") (n:=((k % 2:Nat):Int)) rfl;unfold ys;lia
theorem xR(a b:Str):(a++b).length=a.length+b.length:=by rw[<- xx,zY,uf,xx,xx]
theorem zcM{b:Bool}{k:Nat}(h:z.length<=6):(nm z b k).length<=10:=by
 have h1:=Yk k;have h2:=Ji k;unfold nm;split
 ·rw[xR,xR];lia
 ·rw[xR,xR];lia
inductive spNm(vs:List V)(H:Hp)(Q:VK)(e_3:XK):Prop
 |mk (p:aO) (z:Str) (b:Bool) (xs:List V):(∃k:Nat,vs=[.ref p,.int (k:Nat)]/\H p=sO (.lst (.str z::.bl b::xs))/\z.length<=6/\Q (.str (nm z b k)) H)->spNm vs H Q e_3
def So(l:List Int):Prop:=∀x∈l,0<=x/\x<=2
theorem So.app{a b:List Int}(h:So a)(g:So b):So (a++b):=fun x hx=>(ux.mp hx).elim (h x) (g x)
theorem So.nil:So []:=fun x hx=>by cases hx
inductive spSorts(K:uc)(vs:List V)(H:Hp)(Q:VK)(e_3:XK):Prop
 |mk (st:aO) (l:Nat) (m:Nat):(∃B:Nat,vs=[.ref st,.int (l:Nat),.int (m:Nat)]/\l<=m/\m<=9/\Sta K H st B/\B+11 < LIM/\∀(H':Hp)(p:aO)(l:List Int),Kp st H H'->Sta K H' st (B+11)->H p=nO->l.length<=m->So l->H' p=sO (.lst (l.map V.int))->Q (.ref p) H')->spSorts K vs H Q e_3
section
variable{K:uc}
theorem scDraw:FnScope ["_law_state","_law_many","_law_script","_law_k","_law_digit","_law_cell"] lS5 (zt Jc):=.ok
theorem zad(F:Fun K "_law_draw" "_law_draw" Jc f fd)(m_len:mg "len"=nO):FnOk P w K mg base CX0 1 f fd lS5 (spDraw K):=by
 refine F.by scDraw (fun vs H Q E h=>?_) (fun cdv A outer s H vs Q E hr h=>?_)
 ·obtain⟨st,m,B,rfl,_⟩:=h
  rfl
 obtain⟨st,m,B,rfl,⟨a,ns,dg,k,hst,hne,hS,hk⟩,hB,⟨hm,hm2⟩,q⟩:=h;refine⟨_,
  (zh (xa (yC (xF K) (jv 0) yM (yN zo)) (zcA rfl (zu (gN 2 scDraw.nd) (zu (gN 3 scDraw.nd) zJ))))
  (zh (xa (zx yh (jv 3) zo) (vz (jv 0) zo))
  (zh (zH (jW.pt (xD (tN vk (zx yh (zx yU (jv 3) zo) zo) (yj (zD K) rfl m_len Ud (jA1 (jv 2)))) (xt (tN zM (zx yH (zU K (jv 2)) zo) zo))))
   (zh (zH (tN zM (zx yH (jv 3) zo) zo)
    (zn (xa (xX (zV K) (jv 2) (zx yh (zx yU (jv 3) zo) zo)) (vz (jv 0) zo))) zB)
   (zh (sE 4 scDraw.nd (zx yH (zU K (jv 0)) (jv 1)))
   (zh (xa (zx yU (zU K (jv 0)) (jv 1)) (vz (jv 0) zo))
   (zn (zv (jv 4)))))) zB)
  (zh (zH (tN vk (jv 3) (yj (zD K) rfl m_len Ud (jA1 (jv 2))))
   (zn (zv (zx yH (xX (zV K) (jv 2) (jv 3)) (jv 1)))) zB)
  (zh (sE 5 scDraw.nd (zx yh (zx wc (jv 3) zo) zo))
  (zh (zH (tN jH (yj (zD K) rfl m_len Ud (jA1 (jv 2))) zo)
   (zn (sE 5 scDraw.nd (zx yh (jv 5) (zx wc (xX (zV K) (jv 2) (zx yH (zx wc (jv 3) zo) (yj (zD K) rfl m_len Ud (jA1 (jv 2))))) (zx yh zo (jv 3)))))) zB)
  (zh (sE 5 scDraw.nd (zx yH (zx wc (zx yH (jv 5) zo) (zx yh (jv 3) zo)) zo))
  (zh (sE 5 scDraw.nd (zx yH (zx wc (jv 5) (jv 5)) zo))
  (zn (zv (zx yH (zx yH (zx wc (jv 5) (jv 5)) zo) (jv 1)))))))))))),?_⟩
 have sl:=zN;have LM:LIM=4611686018427387904:=rfl;refine zq rfl rfl ⟨st,_,rfl,SqL.of hst,fun l2 h2=>?_⟩;rw[show cutV [V.ref a,V.int ((k:Nat):Int),V.int dg] nO (sO 2)=[V.ref a,V.int ((k:Nat):Int)]from rfl];have nst:=zi hst h2;have hst2:=old (o:=.lst [V.ref a,V.int ((k:Nat):Int)]) h2 hst;have hS2:=(zk h2 (.lst [V.ref a,V.int ((k:Nat):Int)])).seq hS;have s2:=zk h2 (.lst [V.ref a,V.int ((k:Nat):Int)]);refine⟨l2,_,rfl,SqL.of uX9,rfl,_,_,rfl,_,_,rfl,rfl,?_⟩;generalize upd H l2 (.lst [V.ref a,V.int ((k:Nat):Int)])=H2 at *;refine zg rfl (zw rfl rfl (zg rfl ⟨st,_,1,1,rfl,rfl,hst2,rfl,?_⟩));have kp1:∀d:Int,Kp st H (upd H2 st (.lst [.ref a,.int ((k+1:Nat):Int),.int d])):=fun d=>⟨fun b u n h=>by rw[zj n];exact s2 _ _ h,fun x y h=>by
  rw[hst]at h;cases h;exact⟨_,uX9⟩⟩
 have hS1:∀d:Int,SqL K (upd H2 st (.lst [.ref a,.int ((k+1:Nat):Int),.int d])) a (ns.map V.int):=fun d=>by
  by_cases e:a=st
  ·exact hne e _
  ·exact(kp1 d).seq e hS
 have fin:∀(d r:Int),0<=r->r < m->Q (.int r) (upd H2 st (.lst [.ref a,.int ((k+1:Nat):Int),.int d])):=fun d r h0 h1=>q _ r (kp1 d) ⟨a,ns,d,k+1,uX9,hne,hS1 d,by lia⟩ h0 h1;have upp:∀(d d':Int),upd (upd H2 st (.lst [.ref a,.int ((k+1:Nat):Int),.int d])) st (.lst [.ref a,.int ((k+1:Nat):Int),.int d'])=upd H2 st (.lst [.ref a,.int ((k+1:Nat):Int),.int d']):=fun d d'=>by
  funext b
  by_cases e:b=st
  ·rw[e,uX9,uX9]
  ·rw[zj e,zj e,zj e]
 have mm:∀x:Int,0<=x % m/\x % m < m:=fun x=>⟨Int.emod_nonneg x (by lia),tS x hm⟩;dsimp only
 change (tSeq (tIfS _ _ xA) _:TS) _ [sR st,sO (.int m),sR a,sO (.int ((k:Nat):Int)),nO,nO] (upd H2 st (.lst [.ref a,.int ((k+1:Nat):Int),.int dg]))
 have hSd:=hS1 dg;refine(show ∀(u:TS)(D:Ends),D.rt=Q->u D [sR st,sO (.int m),sR a,sO (.int ((k:Nat):Int)),nO,nO] (upd H2 st (.lst [.ref a,.int ((k+1:Nat):Int),.int dg]))->(tSeq (tIfS _ _ xA) u:TS) D [sR st,sO (.int m),sR a,sO (.int ((k:Nat):Int)),nO,nO] (upd H2 st (.lst [.ref a,.int ((k+1:Nat):Int),.int dg]))from ?key) _ _ ?rr ?rest
 case rr=>rfl
 case key =>
  intro u D hD tail;refine zg rfl (zw rfl rfl ⟨⟨by decide,by decide⟩,zw rfl rfl (zg rfl ⟨a,_,rfl,.inl hSd,zw rfl rfl (zg rfl ?_)⟩)⟩);refine ite2 (fun c=>?_) (fun c=>iteF (nxtC tail));rw[dA,ub]at c;have at0:∀i:Nat,i < ns.length->∃x:Int,atI (ns.map V.int) ((i:Nat):Int)=sO (.int x):=fun i hi=>⟨ns[i],yo (by rw[uh,ui hi];rfl)⟩;obtain⟨x0,e0⟩:=at0 0 (by lia);refine zg rfl ⟨a,_,0,_,rfl,rfl,hSd,e0,zw rfl rfl ⟨(by show(0:Int) < 2;decide),rfl,zg rfl ?_⟩⟩;refine ite2 (fun _=>?_) (fun _=>nxtC tail);refine(show ∀(u2:TS)(D2:Ends),(∀d:Int,u2 D2 [sR st,sO (.int m),sR a,sO (.int ((k:Nat):Int)),nO,nO] (upd H2 st (.lst [.ref a,.int ((k+1:Nat):Int),.int d])))->(tSeq (tIfS _ _ xA) u2:TS) D2 [sR st,sO (.int m),sR a,sO (.int ((k:Nat):Int)),nO,nO] (upd H2 st (.lst [.ref a,.int ((k+1:Nat):Int),.int dg]))from ?k2) _ _ ?r2
  case k2 =>
   intro u2 D2 h;refine zg rfl (zw rfl rfl ⟨(by show(0:Int) < 12;decide),rfl,zg rfl (ite2 (fun _=>?_) (fun _=>nxtC (h dg)))⟩);obtain⟨x1,e1⟩:=at0 (k / 12+1) (by lia);have ek:((k:Nat):Int) / 12+1=((k / 12+1:Nat):Int):=by lia
   refine zq rfl rfl (zw rfl rfl ⟨⟨by decide,by decide⟩,zw rfl rfl ⟨a,_,_,_,rfl,rfl,hSd,(by rw[ek];exact e1),zg rfl ⟨st,_,2,2,rfl,rfl,uX9,rfl,?_⟩⟩⟩)
   have:=h x1
   rw[<- upp dg x1]at this;exact this
  case r2 =>
   intro d;refine zg rfl (ixL uX9 aI2 (zg rfl (zw rfl rfl ⟨hm,?_⟩)));refine zg rfl (ixL uX9 aI2 (zg rfl (zw rfl rfl ⟨⟨hm,hm2⟩,zg rfl ⟨st,_,2,2,rfl,rfl,uX9,rfl,zg rfl ?_⟩⟩)))
   have:=fin (d / m) (d % m) (mm d).1 (mm d).2
   rw[<- upp d (d / m)]at this;show D.rt _ _;rw[hD];exact this
 case rest =>
  have fin':=fin dg;clear fin upp kp1 hS1;generalize upd H2 st (.lst [.ref a,.int ((k+1:Nat):Int),.int dg])=H3 at *;refine zq rfl rfl ⟨a,_,rfl,.inl hSd,zw rfl rfl (zg rfl ?_)⟩;rw[ub];refine ite2 (fun c=>?_) (fun c=>nxtC ?_)
  ·rw[dA]at c
   have hi:k < ns.length:=by lia
   have hx:(ns.map V.int)[k]?=sO (.int ns[k]):=by rw[uh,ui hi];rfl
   exact zq rfl rfl ⟨a,_,_,_,rfl,rfl,hSd,yo hx,zg rfl (zw rfl rfl ⟨hm,fin' _ (mm _).1 (mm _).2⟩)⟩
  refine zg rfl (zw rfl rfl ⟨.inr ⟨by decide,by decide⟩,zw rfl rfl ?_⟩);unfold xZ;dsimp only[tE]
  refine(show ∀(u:TS)(D:Ends)(c0:Int),(∀c:Int,u D [sR st,sO (.int m),sR a,sO (.int ((k:Nat):Int)),nO,sO (.int c)] H3)->(tSeq (tIfS _ _ xA) u:TS) D [sR st,sO (.int m),sR a,sO (.int ((k:Nat):Int)),nO,sO (.int c0)] H3 from ?k3) _ _ _ ?r3
  case k3 =>
   intro u D c0 h;refine zg rfl ⟨a,_,rfl,.inl hSd,zw rfl rfl (zg rfl ?_)⟩;rw[ub];refine ite2 (fun c2=>?_) (fun _=>nxtC (h _));rw[dA]at c2;have hl:(0:Int) < (ns.length:Nat):=by lia
   have c0':=Int.emod_nonneg ((k:Nat)*7:Int) (show((ns.length:Nat):Int)≠0 by lia);have c1:=tS ((k:Nat)*7:Int) hl;have hi:(((k:Nat)*7:Int) % (ns.length:Nat)).toNat < ns.length:=by lia
   have hx2:atI (ns.map V.int) (((k:Nat)*7:Int) % (ns.length:Nat))=sO (.int ns[(((k:Nat)*7:Int) % (ns.length:Nat)).toNat]):=by
    have e:=yo (show(ns.map V.int)[(((k:Nat)*7:Int) % (ns.length:Nat)).toNat]?=sO (.int ns[(((k:Nat)*7:Int) % (ns.length:Nat)).toNat]) by rw[uh,ui hi];rfl);rw[tO c0']at e;exact e
   refine zq rfl rfl (zg rfl (zw rfl rfl ⟨.inr ⟨by decide,by decide⟩,zg rfl ⟨a,_,rfl,.inl hSd,zw rfl rfl ⟨(by rw[ub];exact hl),a,_,_,_,rfl,rfl,hSd,(by rw[ub];exact hx2),zg rfl (zw rfl rfl (zw rfl rfl ⟨.inr ⟨by show -(2 ^ 64) < (48271+(k:Nat):Int);lia,by show(48271+(k:Nat):Int) < 2 ^ 64;lia⟩,zw rfl rfl (h _)⟩))⟩⟩⟩))
  case r3 =>
   intro c;refine zg rfl (zw rfl rfl ⟨(by show(0:Int) < 2147483629;decide),zg rfl (zw rfl rfl (zw rfl rfl ⟨.inr ⟨by show -(2 ^ 64) < ((k:Nat)+3:Int);lia,by show((k:Nat)+3:Int) < 2 ^ 64;lia⟩,zw rfl rfl ⟨(by show(0:Int) < 2147483629;decide),?_⟩⟩))⟩);have b0:=Int.emod_nonneg (c % 2147483629*((k:Nat)+3)) (show(2147483629:Int)≠0 by decide);have b1:=tS (c % 2147483629*((k:Nat)+3)) (show(0:Int) < 2147483629 by decide);generalize c % 2147483629*((k:Nat)+3) % 2147483629=e at *;refine zq rfl rfl (zw rfl rfl ⟨.inr ⟨by lia,by lia⟩,zw rfl rfl ⟨(by show(0:Int) < 2147483587;decide),?_⟩⟩);have b2:=Int.emod_nonneg (e*e) (show(2147483587:Int)≠0 by decide);have b3:=tS (e*e) (show(0:Int) < 2147483587 by decide);generalize e*e % 2147483587=g at *;exact zq rfl rfl (zw rfl rfl ⟨.inr ⟨by lia,by lia⟩,zw rfl rfl ⟨(by show(0:Int) < 1999999973;decide),zg rfl (zw rfl rfl ⟨hm,fin' _ (mm _).1 (mm _).2⟩)⟩⟩)
theorem scNm:FnScope ["_law_world_here","_law_k","_law_letters","_law_core"] lS13 (zt sNm):=.ok
theorem zdN(F:Fun K "_law_name" "_law_name" sNm f fd):FnOk P w K mg base CX0 1 f fd lS13 spNm:=by
 refine F.by scNm (fun vs H Q E h=>?_) (fun cdv A outer s H vs Q E hr h=>?_)
 ·obtain⟨p,z,b,xs,k,rfl,_⟩:=h
  rfl
 obtain⟨p,z,b,xs,k,rfl,hp,hz,q⟩:=h;refine⟨_,
  (zh (sE 2 scNm.nd zz)
  (zh (sE 3 scNm.nd (zx yL (zx yL (xX Xe (jv 2) (zx yH (zx yU (jv 1) zo) zo)) zz) (xX Xe (jv 2) (zx yH (zx yU (jv 1) zo) zo))))
  (zh (zH (yv (zU K (jv 0)))
   (zn (zv (zx yL (zx yL (jv 3) (zU K (jv 0))) (zx vM zz (zx yH (jv 1) zo))))) zB)
  (zn (zv (zx yL (zx yL (zx vM zz (zx yH (jv 1) zo)) (zU K (jv 0))) (jv 3))))))),?_⟩
 have sl:=zN;have e1:((k:Nat):Int) / 2 % 26=((k / 2 % 26:Nat):Int):=by lia
 have e2:((k:Nat):Int) / 52 % 26=((k / 52 % 26:Nat):Int):=by lia
 have e3:((k:Nat):Int) % 2=((k % 2:Nat):Int):=by lia
 have cl3:=Yk k;have yl:=Ji k;have ec:(⟨#[97+(((k:Nat):Int) / 2 % 26).toNat]⟩:Str)++("z":Str)++(⟨#[97+(((k:Nat):Int) / 52 % 26).toNat]⟩:Str)=core k:=by
  rw[e1,e2]
  rfl
 suffices rest:∀c3:Str,c3=core k->(tSeq _ _:TS) { nx:=fun _ H'=>Q .non H',rt:=Q } [sR p,sO (.int (k:Nat)),sO (.str LET),sO (.str c3)] H by
  exact⟨_,rfl,_,rfl,_,_,rfl,rfl,⟨by decide,by decide⟩,_,_,rfl,rfl,(by show(0:Int) < _;decide),LET,_,_,rfl,rfl,by rw[Zu];decide,Zt (by lia) (by lia),_,_,rfl,rfl,by show 1+1<=sizeLine;decide,_,rfl,_,rfl,_,_,rfl,rfl,⟨by decide,by decide⟩,_,_,rfl,rfl,(by show(0:Int) < _;decide),LET,_,_,rfl,rfl,by rw[Zu];decide,Zt (by lia) (by lia),_,_,rfl,rfl,by show 2+1<=sizeLine;decide,rest _ ec⟩
 rintro _ rfl;have mo:MulOk "y" (((k % 2:Nat):Int)):=zcI rfl (by lia) (by lia);refine⟨_,rfl,ixL hp aI1 ⟨_,rfl,?_⟩⟩;unfold nm at q;cases b with
 |true =>
  rw[iP rfl]at q;refine iteT ?_;refine⟨_,rfl,_,rfl,ixL hp aI0 ⟨_,_,rfl,rfl,by lia,_,rfl,_,_,rfl,rfl,(by show(0:Int) < _;decide),_,_,rfl,rfl,by rw[e3];exact mo,?_⟩⟩;rw[e3];exact⟨_,_,rfl,rfl,by rw[xR];show(core k).length+z.length+(ys k).length<=_;lia,q⟩
 |false =>
  rw[iN (by decide)]at q;refine iteF ?_;refine⟨_,rfl,_,_,rfl,rfl,(by show(0:Int) < _;decide),_,_,rfl,rfl,by rw[e3];exact mo,?_⟩;rw[e3];refine⟨_,rfl,ixL hp aI0 ⟨_,_,rfl,rfl,by show(ys k).length+z.length<=_;lia,_,rfl,_,_,rfl,rfl,by show(Txt.mul "y" (((k % 2:Nat):Int))++z).length+(core k).length<=_;rw[xR];show(ys k).length+z.length+(core k).length<=_;lia,q⟩⟩
theorem zae:FnScope lS12 lS12 (zt Xo):=.ok
theorem zaf:(["_law_state","_law_least","_law_most","_law_k"]:lS).Nodup:=by decide +kernel
theorem Jj(F:Fun K "_law_sorts" "_law_sorts" Xo f fd)(GD:Ca P w K mg base CX0 1 "_law_draw" lS5 (spDraw K))(m_range:mg "range"=nO):FnOk P w K mg base CX0 2 f fd lS12 (spSorts K):=by
 refine F.by zae (fun vs H Q E h=>?_) (fun cdv A outer s H vs Q E hr h=>?_)
 ·obtain⟨st,l,m,B,rfl,_⟩:=h
  rfl
 obtain⟨st,l,m,B,rfl,hlm,hm,hS,hB,q⟩:=h;refine⟨_,
  (zn (zv (yg ["_law_k"] rfl (yz rfl m_range (jA1 (zx yh (jv 1) (cA GD hr (jA2 (jv 0) (zx xu (zx yh (jv 2) zo) (jv 1))))))) (fun _ _ _ _ _=>(gN 3 zaf)) (fun _ _ _ _ _=>zW) (fun _ _ _ _ _=>(cA GD hr (jA2 (jv 0) zo)))))),?_⟩
 have sl:=zN;refine⟨_,rfl,_,rfl,_,rfl,_,_,rfl,rfl,_,rfl,_,_,rfl,rfl,st,_,B,rfl,hS,by lia,by lia,fun H1 r k1 S1 r0 r1=>?_⟩;refine⟨_,_,rfl,rfl,_,rfl,by lia,by lia,yZ (n:=(((l:Nat):Int)+r).toNat) (fun i τ ys H'=>Kp st H H'/\Sta K H' st (B+1+i)/\(∃x,τ=[sR st,sO (.int (l:Nat)),sO (.int (m:Nat)),x])/\∃ns:List Int,ys=ns.map V.int/\ns.length=i/\So ns) ⟨k1,S1,⟨nO,rfl⟩,[],rfl,rfl,.nil⟩ ?_ ?_⟩
 ·rintro i τ ys H2 hi ⟨k2,S2,⟨x,rfl⟩,ns,rfl,hl,hso⟩
  refine⟨_,rfl,st,3,B+1+i,rfl,S2,by lia,by decide,fun H3 r3 k3 S3 q0 q1=>⟨by rw[ub];lia,k2.trans k3,S3,⟨_,rfl⟩,ns++[r3],by simp,by simp[hl],hso.app fun x hx=>by rw[uk.mp hx];exact⟨q0,by lia⟩⟩⟩
 ·rintro τ ys H2 ⟨k2,S2,_,ns,rfl,hl,hso⟩ p hp
  exact q _ p ns (k2.new hp) ((S2.mono (by lia)).new hp _) (k2.free (S2.ne hp) hp) (by lia) hso uX9
theorem Yl:∀{zs:lS},(∀z∈zs,z.length=1)->(Str.join "" zs).length=zs.length
 |[],_=>rfl
 |[x],h=>h x Uk
 |x::y::r,h=>by
  have ih:=Yl (zs:=y::r) fun z hz=>h z (Us _ hz);rw[<- xx,wC,uf,uf,xx,xx,xx,ih,h x Uk];show 1+(0+(y::r).length)=(y::r).length+1;lia
theorem X4:∀{zs:lS},(∀z∈zs,∀c∈cl z,97<=c)->∀c∈cl (Str.join "" zs),97<=c
 |[],_,c,hc=>by cases hc
 |[x],h,c,hc=>h x Uk c hc
 |x::y::r,h,c,hc=>by
  rw[wC]at hc;rcases ux.mp hc with hc|hc
  ·exact h x Uk c hc
  ·rcases ux.mp hc with hc|hc
   ·cases hc
   ·exact X4 (zs:=y::r) (fun z hz=>h z (Us _ hz)) c hc
theorem Jk{zs:lS}(h:∀z∈zs,z.length=1):wide "" zs=zs.length:=by
 unfold wide;have e:∀{l:lS},(∀z∈l,z.length=1)->(l.map (·.length)).sum=l.length:=by
  intro l
  induction l with
  |nil=>intro _;rfl
  |cons a l ih=>intro h;rw[uF,Uy,ih fun z hz=>h z (Us _ hz),h a Uk,um];lia
 rw[e h]
 rfl
abbrev TS3:=List (Str×List Int×Int)
inductive Tri(H:Hp):TS3->List aO->Prop
 |nil:Tri H [] []
 |cons {z:Str} {s:List Int} {k:Int} {t q:aO} {l:TS3} {ts:List aO}:H t=sO (.tup [.str z,.ref q,.int k])->H q=sO (.lst (s.map V.int))->Tri H l ts->Tri H ((z,s,k)::l) (t::ts)
theorem Tri.keep{l:TS3}(h:Tri H l ts)(t:Tups H H')(i:∀q (s:List Int),H q=sO (.lst (s.map V.int))->H' q=sO (.lst (s.map V.int))):Tri H' l ts:=by
 induction h with
 |nil=>exact .nil
 |cons a b _ ih=>exact .cons (t _ _ a) (i _ _ b) ih
theorem Tri.kp{l:TS3}(h:Tri H l ts)(S:Sta K H st B)(k:Kp st H H'):Tri H' l ts:=h.keep (k.tups S) fun q s e=>k.k _ _ (S.neI e) e
theorem Tri.app{a b:TS3}{p:List aO}(h:Tri H a p)(g:Tri H b q):Tri H (a++b) (p++q):=by
 induction h with
 |nil=>exact g
 |cons x y _ ih=>exact .cons x y ih
theorem Tri.len{l:TS3}(h:Tri H l ts):l.length=ts.length:=by
 induction h with
 |nil=>rfl
 |cons _ _ _ ih=>rw[um,um,ih]
theorem Tri.get{H:Hp}:∀{l:TS3}{ts:List aO}{i:Nat}{t:aO},Tri H l ts->ts[i]?=sO t->∃z s k q,l[i]?=sO (z,s,k)/\H t=sO (.tup [.str z,.ref q,.int k])/\H q=sO (.lst (s.map V.int))
 |_,_,_,_,.nil,e=>by simp at e
 |_,_,0,_,.cons a b _,e=>by
  simp at e
  subst e;exact⟨_,_,_,_,rfl,a,b⟩
 |_,_,i+1,_,.cons _ _ c,e=>by
  obtain⟨z,s,k,q,h1,h2⟩:=Tri.get (i:=i) c (by simpa using e);exact⟨z,s,k,q,by simpa using h1,h2⟩
structure Wo where
 z:Str
 b:Bool
 tags:TS3
 defs:TS3
structure WOk(o:Wo):Prop where
 z:o.z.length<=6
 tn:o.tags.map (·.1)=(uM 4).map (nm o.z o.b)
 tk:o.tags.map (·.2.2)=[1,1,1,2]
 ts:∀p∈o.tags,p.2.1.length<=9/\So p.2.1
 dn:o.defs.map (·.1)=(uM 3).map fun k=>nm o.z o.b (2-k)
 ds:∀p∈o.defs,p.2.1.length<=3/\So p.2.1/\0<=p.2.2/\p.2.2<=2
 zc:∀c∈cl o.z,97<=c
structure IsW(H:Hp)(o:Wo)(w:aO):Prop where
 ex:∃(tl dl:aO)(ts ds:List aO),H w=sO (.lst [.str o.z,.bl o.b,.ref tl,.ref dl])/\H tl=sO (.lst (ts.map V.ref))/\H dl=sO (.lst (ds.map V.ref))/\Tri H o.tags ts/\Tri H o.defs ds
 ok:WOk o
theorem IsW.kp{w:aO}{o:Wo}(h:IsW H o w)(S:Sta K H st B)(k:Kp st H H'):IsW H' o w:=by
 obtain⟨⟨tl,dl,ts,ds,h1,h2,h3,h4,h5⟩,ok⟩:=h;exact⟨⟨tl,dl,ts,ds,k.k _ _ (S.neW h1) h1,k.k _ _ (S.neR h2) h2,k.k _ _ (S.neR h3) h3,h4.kp S k,h5.kp S k⟩,ok⟩
theorem IsW.same{w:aO}{o:Wo}(h:IsW H o w)(s:Same H H'):IsW H' o w:=by
 obtain⟨⟨tl,dl,ts,ds,h1,h2,h3,h4,h5⟩,ok⟩:=h;exact⟨⟨tl,dl,ts,ds,s _ _ h1,s _ _ h2,s _ _ h3,h4.keep (.of s) (fun _ _ e=>s _ _ e),h5.keep (.of s) (fun _ _ e=>s _ _ e)⟩,ok⟩
theorem WOk.tlen{o:Wo}(h:WOk o):o.tags.length=4:=by
 have e:=congrArg tU h.tk;rw[ub]at e;exact e
theorem WOk.dlen{o:Wo}(h:WOk o):o.defs.length=3:=by
 have e:=congrArg tU h.dn;rw[ub,ub,US]at e;exact e
inductive spWorld(K:uc)(vs:List V)(H:Hp)(Q:VK)(e_3:XK):Prop
 |mk (st:aO):(∃B:Nat,vs=[.ref st]/\Sta K H st B/\B+200 < LIM/\∀(H':Hp)(w:aO)(o:Wo),Kp st H H'->Sta K H' st (B+200)->IsW H' o w->Q (.ref w) H')->spWorld K vs H Q e_3
theorem WG(k:Nat):(uQ k [V.int 0]).flatten=(uQ k (0:Int)).map V.int:=by
 induction k with
 |zero=>rfl
 |succ k ih=>rw[UH,tm,ih,UH,uF];rfl
theorem Xy{H:Hp}:∀(nf:Nat->Str)(R:Nat->List Int->Int->Prop)(ts:List aO),(∀k t,ts[k]?=sO t->∃q s g,H t=sO (.tup [.str (nf k),.ref q,.int g])/\H q=sO (.lst (s.map V.int))/\R k s g)->∃l:TS3,Tri H l ts/\l.length=ts.length/\∀k p,l[k]?=sO p->p.1=nf k/\R k p.2.1 p.2.2
 |_,_,[],_=>⟨[],.nil,rfl,fun k p h=>by simp at h⟩
 |nf,R,t::ts,h=>by
  obtain⟨q,s,g,h1,h2,h3⟩:=h 0 t rfl;obtain⟨l,a,b,c⟩:=Xy (fun k=>nf (k+1)) (fun k=>R (k+1)) ts fun k u hu=>h (k+1) u (by simpa using hu);refine⟨(nf 0,s,g)::l,.cons h1 h2 a,by rw[um,um,b],fun k p hp=>?_⟩;cases k with
  |zero =>
   simp at hp
   subst hp;exact⟨rfl,h3⟩
  |succ k=>exact c k p (by simpa using hp)
theorem names_of{α β:Type}{f:α->β}{g:Nat->β}{l:List α}(hl:l.length=n)(h:∀k p,l[k]?=sO p->f p=g k):l.map f=(uM n).map g:=by
 apply List.ext_getElem?
 intro k;rw[uh,uh];rcases Nat.lt_or_ge k n with c|c
 ·rw[tM c,ui (by lia)]
  simp[h k _ (ui (by lia))]
 ·rw[U8 (by lia),U8 (by simp;lia)]
  rfl
theorem scWorld:FnScope ["_law_state","_law_letters","_law_stem","_law_world_here","_law_more","_law_some","_law_k"] ["_law_state"] (zt Xp):=.ok
theorem Jl(F:Fun K "_law_world" "_law_world" Xp f fd)(GD:Ca P w K mg base CX0 1 "_law_draw" lS5 (spDraw K))(GN':Ca P w K mg base CX0 1 "_law_name" lS13 spNm)(GS:Ca P w K mg base CX0 2 "_law_sorts" lS12 (spSorts K))(m_range:mg "range"=nO):FnOk P w K mg base CX0 3 f fd ["_law_state"] (spWorld K):=by
 refine F.by scWorld (fun vs H Q E h=>?_) (fun cdv A outer s H vs Q E hr h=>?_)
 ·obtain⟨st,B,rfl,_⟩:=h
  rfl
 obtain⟨st,B,rfl,S0,hB,q⟩:=h;have hr1:Room 1 _:=hr.mono (by decide);refine⟨_,
  (zh (sE 1 scWorld.nd zz)
  (zh (sE 2 scWorld.nd (xg PySem.F.plainAttrs_str PySem.F.slot_str_join PySem.F.type_str_join QW zz (jA1 (Z7 [6] [] rfl (yz rfl m_range (jA1 (cA GD hr1 (jA2 (jv 0) zo)))) (fun _ _ _ _ _=>(gN 6 scWorld.nd)) (fun _ _ _ _ _=>zW) (fun _ _ _ _ _=>(xX Xe (jv 1) (cA GD hr1 (jA2 (jv 0) zo))))))))
  (zh (sE 3 scWorld.nd (zC (jA4 (jv 2) (xr zM (cA GD hr1 (jA2 (jv 0) zo)) zo (wX _)) (zC zL) (zC zL))))
  (zh (sE 4 scWorld.nd (zx zcJ (zC (jA1 zo)) (zx wc (zx yU (cA GD hr1 (jA2 (jv 0) zo)) zo) (cA GD hr1 (jA2 (jv 0) zo)))))
  (zh (sE 5 scWorld.nd (zC (jA4 (zC zL) (zx yw (cA GS hr (jA3 (jv 0) zo zo)) (jv 4)) (cA GS hr (jA3 (jv 0) zo zo)) (zx yw (cA GS hr (jA3 (jv 0) zo zo)) (jv 4)))))
  (zh (ya PassesOwn.never rfl (yz rfl m_range (jA1 zo)) (gN 6 scWorld.nd)
   (zn (yr (xg uN uV uW z6 (zU K (jv 3)) (jA1 (zA (jA3 (cA GN' hr1 (jA2 (jv 3) (jv 6))) (xX (zV K) (jv 5) (jv 6)) (zx yh zo (zx yU (jv 6) zo)))))))))
  (zh (ya PassesOwn.never rfl (yz rfl m_range (jA1 zo)) (gN 6 scWorld.nd)
   (zn (yr (xg uN uV uW z6 (zU K (jv 3)) (jA1 (zA (jA3 (cA GN' hr1 (jA2 (jv 3) (zx xu zo (jv 6)))) (cA GS hr (jA3 (jv 0) zo zo)) (cA GD hr1 (jA2 (jv 0) zo)))))))))
  (zn (zv (jv 3)))))))))),?_⟩
 have sl:=zN;unfold LIM at hB;have LM:LIM=4611686018427387904:=rfl;refine cut5 fun r1_ hr1_=>?_;refine⟨rfl,_,rfl,st,7,B,rfl,S0,by lia,by decide,fun H1 r k1 S1 r0 r1=>?_⟩;refine⟨_,rfl,by lia,by lia,yZ (n:=r.toNat) (fun i τ ys H'=>Kp st H H'/\Sta K H' st (B+1+i)/\(∃x,τ=[sR st,sO (.str LET),nO,nO,nO,nO,x])/\∃zs:lS,ys=zs.map V.str/\zs.length=i/\∀z∈zs,z.length=1/\∀c∈cl z,97<=c) ⟨k1,S1,⟨nO,rfl⟩,[],rfl,rfl,fun z hz=>by cases hz⟩ ?_ ?_⟩
 ·rintro i τ ys H2 hi ⟨k2,S2,⟨x,rfl⟩,zs,rfl,hl,h1⟩
  refine⟨_,rfl,_,rfl,st,26,B+1+i,rfl,S2,by lia,by decide,fun H3 r3 k3 S3 q0 q1=>?_⟩;refine⟨LET,_,_,rfl,rfl,by rw[Zu];decide,Zt q0 q1,by rw[ub];lia,k2.trans k3,S3,⟨_,rfl⟩,zs++[⟨#[97+r3.toNat]⟩],by simp,by simp[hl],?_⟩;intro z hz;rcases ux.mp hz with hz|hz
  ·exact h1 z hz
  ·rw[uk.mp hz]
   refine⟨rfl,fun c hc=>?_⟩;rw[show cl (⟨#[97+r3.toNat]⟩:Str)=[97+r3.toNat]from rfl]at hc;rw[uk.mp hc];lia
 rintro τ ys H2 ⟨k2,S2,_,zs,rfl,hl,h1⟩ pj hpj;have hzc:=X4 fun z hz=>(h1 z hz).2
 replace h1:∀z∈zs,z.length=1:=fun z hz=>(h1 z hz).1
 refine⟨"",pj,zs,rfl,rfl,SqL.of uX9,by rw[Jk h1];lia,?_⟩;have zl:(Str.join "" zs).length<=6:=by rw[Yl h1];lia
 replace k2:=k2.new (o:=.lst (zs.map V.str)) hpj
 replace S2:=(S2.mono (show _<=B+7 by lia)).new hpj (.lst (zs.map V.str))
 generalize upd H2 pj (.lst (zs.map V.str))=H3 at *;generalize Str.join "" zs=z at *;refine⟨_,rfl,_,rfl,st,2,B+7,rfl,S2,by lia,by decide,fun H4 r4 k4 S4 _ _=>?_⟩;refine⟨rfl,sN0,fun tl h5=>⟨sN0,fun dl h6=>⟨sN4,fun w0 h7=>?_⟩⟩⟩;generalize decide (V.int r4=V.int 1)=b at *;have ntl:=S4.ne h5;have S5:=S4.new h5 (.lst []);have ndl:=S5.ne h6;have S6:=S5.new h6 (.lst []);have nw0:=S6.ne h7;have S7:=S6.new h7 (.lst [.str z,.bl b,.ref tl,.ref dl]);have ntd:tl≠dl:=zi (uX9 (H:=H4) (a:=tl) (o:=.lst [])) h6;have htl:upd (upd (upd H4 tl (.lst [])) dl (.lst [])) w0 (.lst [.str z,.bl b,.ref tl,.ref dl]) tl=sO (.lst []):=old h7 (old h6 uX9);have hdl:upd (upd (upd H4 tl (.lst [])) dl (.lst [])) w0 (.lst [.str z,.bl b,.ref tl,.ref dl]) dl=sO (.lst []):=old h7 uX9;have hw0:upd (upd (upd H4 tl (.lst [])) dl (.lst [])) w0 (.lst [.str z,.bl b,.ref tl,.ref dl]) w0=sO (.lst [.str z,.bl b,.ref tl,.ref dl]):=uX9;have k7:Kp st H (upd (upd (upd H4 tl (.lst [])) dl (.lst [])) w0 (.lst [.str z,.bl b,.ref tl,.ref dl])):=(((k2.trans k4).new h5).new h6).new h7;have f_tl:H tl=nO:=(k2.trans k4).free ntl h5;have f_dl:H dl=nO:=(k2.trans k4).free ndl (by rw[<- zj (H:=H4) (a:=tl) (o:=.lst []) ntd.symm];exact h6);clear h5 h6 h7 S5 S6 k4 S4;generalize upd (upd (upd H4 tl (.lst [])) dl (.lst [])) w0 (.lst [.str z,.bl b,.ref tl,.ref dl])=H5 at *;refine⟨sN1,fun m0 h8=>?_⟩;have S8:=S7.new h8 (.lst [.int 0]);have nm0:=S7.ne h8;refine⟨_,rfl,st,6,_,rfl,S8,by lia,by decide,fun H9 r9 k9 S9 q0 q1=>⟨_,_,rfl,rfl,⟨by decide,by decide⟩,_,rfl,st,7,_,rfl,S9,by lia,by decide,fun H10 r10 k10 S10 q2 q3=>?_⟩⟩;have hmul:0<=r9 / 5*r10/\r9 / 5*r10<=6:=by
  have:r9 / 5=0\/r9 / 5=1:=by lia
  rcases this with e|e<;>rw[e]<;>lia
 have hm0:=(k9.trans k10).k _ _ nm0 (uX9 (H:=H5) (a:=m0) (o:=.lst [.int 0]));refine⟨_,_,rfl,rfl,.inl ⟨by lia,by lia⟩,m0,_,_,rfl,rfl,hm0,by lia,by lia,by show 1*_<=_;lia,fun pm h11=>?_⟩;rw[WG];generalize hz9:uQ (r9 / 5*r10).toNat (0:Int)=zr;have ozr:So zr:=by
  intro x hx;rw[<- hz9]at hx;rw[List.eq_of_mem_replicate hx];exact⟨by decide,by decide⟩
 have hzr:zr.length<=6:=by rw[<- hz9,Uq];lia
 have k11:Kp st H5 (upd H10 pm (.lst (zr.map V.int))):=(((Kp.refl.new h8).trans k9).trans k10).new h11;have S11:=S10.new h11 (.lst (zr.map V.int));have hpm:=uX9 (H:=H10) (a:=pm) (o:=.lst (zr.map V.int));clear hm0 h11 S10 S9 S8 k9 k10 h8;generalize upd H10 pm (.lst (zr.map V.int))=H6 at *
 replace htl:=k11.k _ _ ntl htl
 replace hdl:=k11.k _ _ ndl hdl
 replace hw0:=k11.k _ _ nw0 hw0
 replace k11:=k7.trans k11
 refine⟨sN0,fun e0 h12=>?_⟩;have S12:=S11.new h12 (.lst []);have ne0:=S11.ne h12;refine⟨_,rfl,st,1,3,_,rfl,by decide,by decide,S12,by lia,fun H13 p1 l1 k13 S13 f1 b1 o1 hp1=>?_⟩;have hpm13:=k13.k _ _ (S12.neI (old h12 hpm)) (old h12 hpm);refine⟨_,rfl,p1,pm,_,_,rfl,rfl,hp1,hpm13,by rw[ub,ub];lia,fun c1 h14=>?_⟩;rw[<- ur];have S14:=S13.new h14 (.lst ((l1++zr).map V.int));refine⟨_,rfl,st,0,2,_,rfl,by decide,by decide,S14,by lia,fun H15 p2 l2 k15 S15 f2 b2 o2 hp2=>?_⟩;refine⟨_,rfl,st,1,3,_,rfl,by decide,by decide,S15,by lia,fun H16 p3 l3 k16 S16 f3 b3 o3 hp3=>?_⟩;have hpm14:=old (o:=.lst ((l1++zr).map V.int)) h14 hpm13;have hpm15:=k15.k _ _ (S14.neI hpm14) hpm14;have hpm16:=k16.k _ _ (S15.neI hpm15) hpm15;refine⟨_,rfl,p3,pm,_,_,rfl,rfl,hp3,hpm16,by rw[ub,ub];lia,fun c3 h17=>?_⟩;rw[<- ur];refine⟨sN4,fun sm h18=>?_⟩;have S17:=S16.new h17 (.lst ((l3++zr).map V.int));have S18:=S17.new h18 (.lst [.ref e0,.ref c1,.ref p2,.ref c3]);have k18:Kp st H6 (upd (upd H16 c3 (.lst ((l3++zr).map V.int))) sm (.lst [.ref e0,.ref c1,.ref p2,.ref c3])):=((((((Kp.refl.new h12).trans k13).new h14).trans k15).trans k16).new h17).new h18;have he0:=(((((k13.new h14).trans k15).trans k16).new h17).new (o:=.lst [.ref e0,.ref c1,.ref p2,.ref c3]) h18).k _ _ ne0 (uX9 (H:=H6) (a:=e0) (o:=.lst []));have hc1:=(((k15.trans k16).new h17).new (o:=.lst [.ref e0,.ref c1,.ref p2,.ref c3]) h18).k c1 _ (S13.ne h14) (uX9 (H:=H13) (a:=c1) (o:=.lst ((l1++zr).map V.int)));have hp2':=((k16.new h17).new (o:=.lst [.ref e0,.ref c1,.ref p2,.ref c3]) h18).k _ _ (S15.neI hp2) hp2;have hc3:=old (o:=.lst [.ref e0,.ref c1,.ref p2,.ref c3]) h18 (uX9 (H:=H16) (a:=c3) (o:=.lst ((l3++zr).map V.int)));have hsm:=uX9 (H:=upd H16 c3 (.lst ((l3++zr).map V.int))) (a:=sm) (o:=.lst [.ref e0,.ref c1,.ref p2,.ref c3]);have k13':=(Kp.refl.new (o:=.lst []) h12).trans k13;have k16':=((k13'.new (o:=.lst ((l1++zr).map V.int)) h14).trans k15).trans k16;have apart:∀p,p≠st->H6 p=sO (.lst [])->p≠e0/\p≠c1/\p≠p2/\p≠c3/\p≠sm:=fun p n hp=>by
  have g13:=k13'.k _ _ n hp;have g16:=k16'.k _ _ n hp;exact⟨zi hp h12,zi g13 h14,zi (old h14 g13) f2,zi g16 h17,zi (old h17 g16) h18⟩
 obtain⟨nt0,nt1,nt2,nt3,nts⟩:=apart tl ntl htl;obtain⟨nd0,nd1,nd2,nd3,nds⟩:=apart dl ndl hdl
 replace htl:=k18.k _ _ ntl htl
 replace hdl:=k18.k _ _ ndl hdl
 replace hw0:=k18.k _ _ nw0 hw0
 have kA:=k11.trans k18;have nwt:w0≠tl:=yn hw0 htl (by intro e;cases e);have nwd:w0≠dl:=yn hw0 hdl (by intro e;cases e)
 replace S18:=S18.mono (show _<=B+43 by lia)
 have n0s:=ne0;have n1s:=S18.neI hc1;have n2s:=S18.neI hp2';have n3s:=S18.neI hc3;have nss:=S18.neR (ts:=[e0,c1,p2,c3]) hsm;clear hp1 hpm13 hp3 hpm16 hpm15 hpm14 hpm hp2 S17 S16 S15 S14 S13 S12 S11 k13' k16' k13 k15 k16 k18 apart S7 k7 k11;generalize upd (upd H16 c3 (.lst ((l3++zr).map V.int))) sm (.lst [.ref e0,.ref c1,.ref p2,.ref c3])=H0 at *
 let Fx:Hp->Prop:=fun H'=>∀b u,b≠st->b≠tl->b≠dl->H0 b=sO u->H' b=sO u
 have Fx.kp:∀{H1 H2:Hp},Fx H1->Kp st H1 H2->Fx H2:=fun f k b u n1 n2 n3 h=>k.k _ _ n1 (f b u n1 n2 n3 h);have Fx.tl:∀{H1:Hp}{o:HO},Fx H1->Fx (upd H1 tl o):=fun f b u n1 n2 n3 h=>by rw[zj n2];exact f b u n1 n2 n3 h
 have Fx.dl:∀{H1:Hp}{o:HO},Fx H1->Fx (upd H1 dl o):=fun f b u n1 n2 n3 h=>by rw[zj n3];exact f b u n1 n2 n3 h
 let AD:Nat->aO:=fun k=>if k=0 then e0 else if k=1 then c1 else if k=2 then p2 else c3
 let SS:Nat->List Int:=fun k=>if k=0 then[]else if k=1 then l1++zr else if k=2 then l2 else l3++zr
 have hAD:∀{H':Hp}(k:Nat),Fx H'->H' (AD k)=sO (.lst ((SS k).map V.int)):=fun{H'} k fx=>by
  show H' (if k=0 then e0 else if k=1 then c1 else if k=2 then p2 else c3)=sO (.lst ((if k=0 then([]:List Int)else if k=1 then l1++zr else if k=2 then l2 else l3++zr).map V.int));by_cases c0:k=0
  ·rw[iP c0,iP c0];exact fx _ _ n0s nt0.symm nd0.symm he0
  ·rw[iN c0,iN c0]
   by_cases c1:k=1
   ·rw[iP c1,iP c1];exact fx _ _ n1s nt1.symm nd1.symm hc1
   ·rw[iN c1,iN c1]
    by_cases c2:k=2
    ·rw[iP c2,iP c2];exact fx _ _ n2s nt2.symm nd2.symm hp2'
    ·rw[iN c2,iN c2];exact fx _ _ n3s nt3.symm nd3.symm hc3
 have hSS:∀k,(SS k).length<=9/\So (SS k):=fun k=>by
  show(if k=0 then([]:List Int)else if k=1 then l1++zr else if k=2 then l2 else l3++zr).length<=9/\So (if k=0 then([]:List Int)else if k=1 then l1++zr else if k=2 then l2 else l3++zr);split
  ·exact⟨by decide,.nil⟩
  ·split
   ·exact⟨by rw[uf];lia,o1.app ozr⟩
   ·split
    ·exact⟨by lia,o2⟩
    ·exact⟨by rw[uf];lia,o3.app ozr⟩
 have aAD:∀k,k < 4->[V.ref e0,V.ref c1,V.ref p2,V.ref c3][k]?=sO (V.ref (AD k)):=fun k hk=>by
  match k,hk with
  |0,_=>rfl
  |1,_=>rfl
  |2,_=>rfl
  |3,_=>rfl
 subst hr1_;refine⟨_,rfl,by decide,by decide,js (n:=4) (fun i σ H'=>Fx H'/\Kp st H H'/\Sta K H' st (B+43)/\H' dl=sO (.lst [])/\(∃ts:List aO,H' tl=sO (.lst (ts.map V.ref))/\ts.length=i/\∀k t,ts[k]?=sO t->H' t=sO (.tup [.str (nm z b k),.ref (AD k),.int (1+((k:Nat):Int) / 3)]))/\∃x,σ=[sR st,sO (.str LET),sO (.str z),sR w0,sR pm,sR sm,x])
  ⟨fun b u _ _ _ h=>h,kA,S18,hdl,⟨[],htl,rfl,fun k t h=>by simp at h⟩,nO,rfl⟩ ?_ ?_⟩
 ·rintro i σ H1 hi ⟨fx,kp,S1,hd1,⟨ts,ht1,hl1,hts⟩,x,rfl⟩
  have hw1:=fx _ _ nw0 nwt nwd hw0;unfold xZ;dsimp only[tE]
  refine cutD (fun D_ fin=>?_) (fun _ _ h=>h);refine⟨_,rfl,ixL hw1 aI2 ⟨.inl ⟨rfl,_,SqL.of ht1⟩,_,rfl,_,rfl,w0,z,b,_,i,(by show[V.ref w0,V.int (0+(i:Nat))]=_;rw[Int.zero_add]),hw1,zl,?_⟩⟩;refine⟨_,rfl,_,rfl,sm,_,_,_,rfl,rfl,SqL.of (fx _ _ nss nts.symm nds.symm hsm),(by rw[Int.zero_add];exact yo (aAD i hi)),_,rfl,_,_,rfl,rfl,⟨by decide,by decide⟩,_,_,rfl,rfl,sN3,fun t ht=>?_⟩;rw[Int.zero_add];have tp:Tups H1 (upd (upd H1 t (.tup [.str (nm z b i),.ref (AD i),.int (1+((i:Nat):Int) / 3)])) tl (.lst (ts.map V.ref++[.ref t]))):=fun p xs hp=>by
   rw[zj (yn hp ht1 (by intro e;cases e))];exact old ht hp
  refine⟨tl,_,_,rfl,rfl,old ht ht1,by rw[ub];lia,fin _ _ ⟨Fx.tl (Fx.kp fx (Kp.refl.new ht)),(kp.new ht).put f_tl,Sta.put S0 f_tl (kp.new ht) (S1.new ht _),?_,⟨ts++[t],by rw[uX9];simp,by simp[hl1],fun k u hu=>?_⟩,_,rfl⟩⟩
  ·rw[zj ntd.symm]
   exact old ht hd1
  ·rcases Nat.lt_or_ge k ts.length with c|c
   ·rw[Ut c]at hu
    exact tp _ _ (hts k u hu)
   ·rw[UE c]at hu
    have c':k=i:=by
     have:=(ud.mp hu).1
     simp at this
     lia
    subst c';rw[hl1,Nat.sub_self]at hu;simp at hu
    subst hu;rw[zj (zi ht1 ht).symm];exact uX9
 rintro σ H1 ⟨fx1,kp1,S1,hd1,⟨ts,ht1,hl1,hts⟩,x,rfl⟩;refine⟨_,rfl,by decide,by decide,js (n:=3) (fun i σ H'=>Fx H'/\Kp st H H'/\Sta K H' st (B+43+12*i)/\(H' tl=sO (.lst (ts.map V.ref))/\∀k t,ts[k]?=sO t->H' t=sO (.tup [.str (nm z b k),.ref (AD k),.int (1+((k:Nat):Int) / 3)]))/\(∃ds:List aO,H' dl=sO (.lst (ds.map V.ref))/\ds.length=i/\∀k t,ds[k]?=sO t->∃(q:aO)(s:List Int)(g:Int),H' t=sO (.tup [.str (nm z b (2-k)),.ref q,.int g])/\H' q=sO (.lst (s.map V.int))/\(s.length<=3/\So s/\0<=g/\g<=2)/\q≠dl/\q≠st)/\∃x,σ=[sR st,sO (.str LET),sO (.str z),sR w0,sR pm,sR sm,x])
  ⟨fx1,kp1,S1,⟨ht1,hts⟩,⟨[],hd1,rfl,fun k t h=>by simp at h⟩,_,rfl⟩ ?_ ?_⟩
 ·rintro i σ H2 hi ⟨fx,kp,S2,⟨ht2,hts2⟩,⟨ds,hd2,hl2,hds⟩,x,rfl⟩
  have hw1:=fx _ _ nw0 nwt nwd hw0;have e2:(2:Int)-(0+(i:Nat))=((2-i:Nat):Int):=by lia
  unfold xZ;dsimp only[tE]
  refine cutD (fun D_ fin=>?_) (fun _ _ h=>h);refine⟨_,rfl,ixL hw1 aI3 ⟨.inl ⟨rfl,_,SqL.of hd2⟩,_,rfl,_,rfl,_,_,rfl,rfl,w0,z,b,_,2-i,(by show[V.ref w0,V.int (2-(0+(i:Nat)))]=_;rw[e2]),hw1,zl,?_⟩⟩;refine⟨_,rfl,st,0,3,_,rfl,by decide,by decide,S2,by lia,fun H3 p l k3 S3 f3 b3 o3 hp3=>?_⟩;refine⟨_,rfl,st,3,_,rfl,S3,by lia,by decide,fun H4 r k4 S4 g0 g1=>⟨sN3,fun t ht=>?_⟩⟩;have k24:=k3.trans k4;have hp4:=k4.k _ _ (S3.neI hp3) hp3;have hd4:=k24.k _ _ ndl hd2;have ht4:=k24.k _ _ ntl ht2;have npd:p≠dl:=(zi hd2 f3).symm;have tp:Tups H2 (upd (upd H4 t (.tup [.str (nm z b (2-i)),.ref p,.int r])) dl (.lst (ds.map V.ref++[.ref t]))):=fun a xs ha=>by
   have g:=k24.tups S2 _ _ ha;rw[zj (yn g hd4 (by intro e;cases e))];exact old ht g
  have kpt:=(kp.trans k24).new (o:=.tup [.str (nm z b (2-i)),.ref p,.int r]) ht;refine⟨dl,_,_,rfl,rfl,old ht hd4,by rw[ub];lia,fin _ _ ⟨Fx.dl (Fx.kp fx (k24.new ht)),kpt.put f_dl,Sta.put S0 f_dl kpt ((S4.mono (by lia)).new ht _),⟨?_,fun k u hu=>tp _ _ (hts2 k u hu)⟩,⟨ds++[t],by rw[uX9];simp,by simp[hl2],fun k u hu=>?_⟩,_,rfl⟩⟩
  ·rw[zj ntd]
   exact old ht ht4
  ·rcases Nat.lt_or_ge k ds.length with c|c
   ·rw[Ut c]at hu
    obtain⟨q,s,g,h1,h2,h3,h4,h5⟩:=hds k u hu;exact⟨q,s,g,tp _ _ h1,by rw[zj h4];exact old ht (k24.k _ _ h5 h2),h3,h4,h5⟩
   ·rw[UE c]at hu
    have c':k=i:=by
     have:=(ud.mp hu).1
     simp at this
     lia
    subst c';rw[hl2,Nat.sub_self]at hu;simp at hu
    subst hu;exact⟨p,l,r,by rw[zj (zi hd4 ht).symm];exact uX9,by rw[zj npd];exact old ht hp4,⟨b3,o3,g0,by lia⟩,npd,S3.neI hp3⟩
 rintro σ H2 ⟨fx,kp,S2,⟨ht2,hts2⟩,⟨ds,hd2,hl2,hds⟩,x,rfl⟩;obtain⟨tags,hT,lT,aT⟩:=Xy (H:=H2) (nm z b) (fun k s g=>(s.length<=9/\So s)/\g=1+((k:Nat):Int) / 3) ts fun k t h=>⟨AD k,SS k,_,hts2 k t h,hAD k fx,hSS k,rfl⟩;obtain⟨defs,hD,lD,aD⟩:=Xy (H:=H2) (fun k=>nm z b (2-k)) (fun k s g=>s.length<=3/\So s/\0<=g/\g<=2) ds fun k t h=>by
  obtain⟨q,s,g,h1,h2,h3,_⟩:=hds k t h;exact⟨q,s,g,h1,h2,h3⟩
 refine⟨_,rfl,q _ w0 ⟨z,b,tags,defs⟩ kp (S2.mono (by lia)) ⟨⟨tl,dl,ts,ds,fx _ _ nw0 nwt nwd hw0,ht2,hd2,hT,hD⟩,?_⟩⟩;refine⟨zl,names_of (by show tags.length=4;lia) fun k p h=>(aT k p h).1,?_,fun p hp=>?_,names_of (by show defs.length=3;lia) fun k p h=>(aD k p h).1,fun p hp=>?_,hzc⟩
 ·have e:([1,1,1,2]:List Int)=(uM 4).map fun k=>1+((k:Nat):Int) / 3:=by decide
  show tags.map (·.2.2)=[1,1,1,2];rw[e];exact names_of (by lia) fun k p h=>(aT k p h).2.2
 ·obtain⟨k,h⟩:=U9.mp hp
  exact(aT k p h).2.1
 ·obtain⟨k,h⟩:=U9.mp hp
  exact(aD k p h).2
inductive Tps(H:Hp):List (Str×Int)->List aO->Prop
 |nil:Tps H [] []
 |cons {a:Str} {s:Int} {t:aO} {l:List (Str×Int)} {ts:List aO}:H t=sO (.tup [.str a,.int s])->Tps H l ts->Tps H ((a,s)::l) (t::ts)
theorem Tps.keep(t:Tups H H'){l:List (Str×Int)}(h:Tps H l ts):Tps H' l ts:=by
 induction h with
 |nil=>exact .nil
 |cons a _ ih=>exact .cons (t _ _ a) ih
theorem Tps.app{a b:List (Str×Int)}{p:List aO}(h:Tps H a p)(g:Tps H b q):Tps H (a++b) (p++q):=by
 induction h with
 |nil=>exact g
 |cons x _ ih=>exact .cons x ih
theorem Tps.len{l:List (Str×Int)}(h:Tps H l ts):l.length=ts.length:=by
 induction h with
 |nil=>rfl
 |cons _ _ ih=>rw[um,um,ih]
theorem Tps.get{H:Hp}:∀{l:List (Str×Int)}{ts:List aO}{i:Nat}{t:aO},Tps H l ts->ts[i]?=sO t->∃a s,l[i]?=sO (a,s)/\H t=sO (.tup [.str a,.int s])
 |_,_,_,_,.nil,e=>by simp at e
 |_,_,0,_,.cons a _,e=>by
  simp at e
  subst e;exact⟨_,_,rfl,a⟩
 |_,_,i+1,_,.cons _ b,e=>by
  obtain⟨a,s,h1,h2⟩:=Tps.get (i:=i) b (by simpa using e);exact⟨a,s,by simpa using h1,h2⟩
theorem Ym{α β:Type}{l:List α}{x:α}(f:α->β)(h:l[i]?=sO x):(l.take i).map f++[f x]=(l.take (i+1)).map f:=by
 rw[uD,h,ur]
 rfl
theorem Yn{α:Type}{l:List α}{x:α}(p:α->Bool)(h:l[i]?=sO x):(l.take (i+1)).filter p=(l.take i).filter p++(if p x=tV then[x]else[]):=by
 rw[uD,h,UY]
 congr 1
 cases e:p x<;>simp[e]
structure Sc(H:Hp)(l:List (Str×Int))(sc:aO):Prop where
 ex:∃ts,H sc=sO (.lst (ts.map V.ref))/\Tps H l ts
 n:l.length<=1000
 s:∀p∈l,0<=p.2/\p.2<=13
theorem Sc.kp{sc:aO}{l:List (Str×Int)}(h:Sc H l sc)(S:Sta K H st B)(k:Kp st H H'):Sc H' l sc:=by
 obtain⟨⟨ts,h1,h2⟩,n,s⟩:=h;exact⟨⟨ts,k.k _ _ (S.neR h1) h1,h2.keep (k.tups S)⟩,n,s⟩
theorem Sc.same{sc:aO}{l:List (Str×Int)}(h:Sc H l sc)(k:Same H H'):Sc H' l sc:=by
 obtain⟨⟨ts,h1,h2⟩,n,s⟩:=h;exact⟨⟨ts,k _ _ h1,h2.keep (.of k)⟩,n,s⟩
inductive spPick(K:uc)(vs:List V)(H:Hp)(Q:VK)(e_3:XK):Prop
 |mk (st:aO) (sc:aO) (s:Int) (B:Nat):(∃l:List (Str×Int),vs=[.ref st,.ref sc,.int s]/\Sta K H st B/\B+2 < LIM/\Sc H l sc/\l≠[]/\∀(H':Hp)(x:Str),Kp st H H'->Sta K H' st (B+2)->x∈l.map (·.1)->Q (.str x) H')->spPick K vs H Q e_3
inductive spPicks(K:uc)(vs:List V)(H:Hp)(Q:VK)(e_3:XK):Prop
 |mk (st:aO) (sc:aO) (q:aO) (s:List Int) (B:Nat):(∃l:List (Str×Int),vs=[.ref st,.ref sc,.ref q]/\Sta K H st B/\B+80 < LIM/\Sc H l sc/\l≠[]/\H q=sO (.lst (s.map V.int))/\s.length<=16/\∀(H':Hp)(p:aO)(xs:lS),Kp st H H'->Sta K H' st (B+80)->H' p=sO (.tup (xs.map V.str))->xs.length=s.length->(∀x∈xs,x∈l.map (·.1))->Q (.ref p) H')->spPicks K vs H Q e_3
theorem scPick:FnScope ["_law_state","_law_scope","_law_sort","_law_some"] lS7 (zt Jd):=.ok
theorem Zv:(["_law_state","_law_scope","_law_sort","_law_some","_law_name_here","_law_one"]:lS).Nodup:=by decide +kernel
theorem zag(F:Fun K "_law_pick" "_law_pick" Jd f fd)(GD:Ca P w K mg base CX0 1 "_law_draw" lS5 (spDraw K))(m_len:mg "len"=nO):FnOk P w K mg base CX0 2 f fd lS7 (spPick K):=by
 refine F.by scPick (fun vs H Q E h=>?_) (fun cdv A outer s H vs Q E hr h=>?_)
 ·obtain⟨st,sc,s,B,l,rfl,_⟩:=h
  rfl
 obtain⟨st,sc,s,B,l,rfl,S0,hB,hSc,hl0,q⟩:=h;obtain⟨⟨ts,hsc,hT⟩,hn,_⟩:=hSc;refine⟨_,
  (zh (yu ["_law_name_here","_law_one"] (i:=3) scPick.nd rfl (Or.inl rfl) rfl (zP K (jv 1)) (fun _ _ _ _ _=>(zK K (n:=2) rfl (zu (gN 4 Zv) (zu (gN 5 Zv) zJ)))) (fun _ _ _ _ _=>(yt (tN zM (jv 5) (jv 2)))) (fun _ _ _ _ _=>(jv 4)))
  (zh (zH (jW.pt (vj (tN (Xh hr) (jv 3) (zC zL)) (x9 (tN zM (cA GD hr (jA2 (jv 0) zo)) zo))))
   (zn (yu ["_law_name_here","_law_one"] (i:=3) scPick.nd rfl (Or.inl rfl) rfl (zP K (jv 1)) (fun _ _ _ _ _=>(zK K (n:=2) rfl (zu (gN 4 Zv) (zu (gN 5 Zv) zJ)))) (fun _ _ _ _ _=>zW) (fun _ _ _ _ _=>(jv 4)))) zB)
  (zn (zv (xX (zV K) (jv 3) (cA GD hr (jA2 (jv 0) (yj (zD K) rfl m_len Ud (jA1 (jv 3)))))))))),?_⟩
 have sl:=zN;have LM:LIM=4611686018427387904:=rfl;have htl:=hT.len;refine(show ∀(u:TS)(D:Ends),(∀(H':Hp)(p:aO)(xs:lS),Kp st H H'->Sta K H' st (B+1)->H' p=sO (.lst (xs.map V.str))->xs≠[]->((∀x∈xs,x∈l.map (·.1))/\xs.length<=l.length)->u D [sR st,sR sc,sO (.int s),sR p] H')->(tSeq _ (tSeq _ u):TS) D _ H from ?key) _ _ ?rest
 case key =>
  intro u D tail;refine(zq rfl rfl ⟨⟨_,SqL.of hsc⟩,yp (xs:=ts.map V.ref) (fun j τ ys H'=>H=H'/\(∃u v,τ=[sR st,sR sc,sO (.int s),nO,u,v])/\ys=((l.take j).filter fun a=>decide (V.int a.2=V.int s)).map fun a=>V.str a.1) ⟨rfl,⟨nO,nO,rfl⟩,rfl⟩ (fun j τ ys H' _ h=>by rw[<- h.1];exact SqL.of hsc) ?_ ?_⟩)
  ·rintro j v τ ys H3 hv ⟨rfl,⟨u,v',rfl⟩,rfl⟩
   obtain⟨tq,htq,rfl⟩:=L2.gM hv;obtain⟨a,n,e1,e2⟩:=hT.get htq;have hj:j < l.length:=(ud.mp e1).1;have tf:=Yn (fun a:Str×Int=>decide (V.int a.2=V.int s)) e1;refine⟨_,_,rfl,SqT.of e2,rfl,_,_,rfl,_,_,rfl,rfl,(zq rfl rfl ⟨rfl,(zg rfl ?_)⟩)⟩;refine ite2 (fun c=>?_) (fun c=>?_)
   ·refine(zg rfl ⟨?_,rfl,⟨_,_,rfl⟩,?_⟩)
    ·rw[ub]
     have:=uB (fun a:Str×Int=>decide (V.int a.2=V.int s)) (l.take j)
     rw[ut]at this;lia
    ·rw[tf,iP c,ur]
     rfl
   ·refine⟨rfl,⟨_,_,rfl⟩,?_⟩
    rw[tf,iN c,uU]
  rintro τ ys H3 ⟨rfl,_,rfl⟩ p1 hp1;rw[ub,<- htl,uo (uj _)];generalize hf:l.filter (fun a:Str×Int=>decide (V.int a.2=V.int s))=fl;have hfm:∀x∈fl.map (·.1),x∈l.map (·.1):=fun x hx=>by
   obtain⟨a,h1,h2⟩:=uq.mp hx;rw[<- hf]at h1;exact uq.mpr ⟨a,(uI.mp h1).1,h2⟩
  have em:(fl.map fun a=>V.str a.1)=(fl.map (·.1)).map V.str:=by rw[UD];rfl
  rw[em];have k1:Kp st H (upd H p1 (.lst ((fl.map (·.1)).map V.str))):=Kp.refl.new hp1;have S1:=S0.new hp1 (.lst ((fl.map (·.1)).map V.str));have h1:=uX9 (H:=H) (a:=p1) (o:=.lst ((fl.map (·.1)).map V.str));generalize upd H p1 (.lst ((fl.map (·.1)).map V.str))=H4 at *;refine(zg rfl ⟨sN0,fun pe h2=>?_⟩);have k2:=k1.new (o:=.lst []) h2;have S2:=S1.new h2 (.lst []);have h12:=old (o:=.lst []) h2 h1;refine⟨_,_,_,rfl,rfl,SqL.of h12,SqL.of uX9,(zg rfl ?_)⟩;show if(if fO=tV then !((fl.map (·.1)).map V.str).isEmpty else((fl.map (·.1)).map V.str).isEmpty)=tV then _ else _
  generalize upd H4 pe (.lst [])=H5 at *;by_cases hfe:fl=[]
  ·have e0:((fl.map (·.1)).map V.str).isEmpty=tV:=by rw[hfe];rfl
   rw[e0];refine iteT ?_;obtain⟨hsc2,hT2⟩:H5 sc=sO (.lst (ts.map V.ref))/\Tps H5 l ts:=⟨(k2).k _ _ (S0.neR hsc) hsc,hT.keep ((k2).tups S0)⟩;refine(zq rfl rfl ⟨⟨_,SqL.of hsc2⟩,yp (xs:=ts.map V.ref) (fun j τ ys H'=>H5=H'/\(∃u v,τ=[sR st,sR sc,sO (.int s),sR p1,u,v])/\ys=(l.take j).map fun a=>V.str a.1) ⟨rfl,⟨nO,nO,rfl⟩,rfl⟩ (fun j τ ys H' _ h=>by rw[<- h.1];exact SqL.of hsc2) ?_ ?_⟩)
   ·rintro j v τ ys H3 hv ⟨rfl,⟨u,v',rfl⟩,rfl⟩
    obtain⟨tq,htq,rfl⟩:=L2.gM hv;obtain⟨a,n,e1,e2⟩:=hT2.get htq;have hj:j < l.length:=(ud.mp e1).1;refine⟨_,_,rfl,SqT.of e2,rfl,_,_,rfl,_,_,rfl,rfl,(zg rfl ⟨?_,rfl,⟨_,_,rfl⟩,Ym (fun a:Str×Int=>V.str a.1) e1⟩)⟩;rw[ub,ut];lia
   ·rintro τ ys H3 ⟨rfl,_,rfl⟩ p2 hp2
    rw[ub,<- htl,uo (uj _)];have em:(l.map fun a=>V.str a.1)=(l.map (·.1)).map V.str:=by rw[UD];rfl
    rw[em];exact tail _ p2 (l.map (·.1)) ((k2).new hp2) (((S2).mono (by lia)).new hp2 _) uX9 (by simpa using hl0) ⟨fun x hx=>hx,by rw[ub];exact uj _⟩
  ·have e0:((fl.map (·.1)).map V.str).isEmpty=fO:=by
    cases fl with
    |nil=>exact absurd rfl hfe
    |cons _ _=>rfl
   rw[e0];refine iteF ?_;refine(zg rfl ⟨st,16,B,rfl,S2,by lia,by decide,fun H6 r k6 S6 _ _=>?_⟩);have k26:=k2.trans k6;refine⟨rfl,(zg rfl ?_)⟩;refine ite2 (fun _=>?_) (fun _=>?_)
   ·obtain⟨hsc2,hT2⟩:H6 sc=sO (.lst (ts.map V.ref))/\Tps H6 l ts:=⟨(k26).k _ _ (S0.neR hsc) hsc,hT.keep ((k26).tups S0)⟩
    refine(zq rfl rfl ⟨⟨_,SqL.of hsc2⟩,yp (xs:=ts.map V.ref) (fun j τ ys H'=>H6=H'/\(∃u v,τ=[sR st,sR sc,sO (.int s),sR p1,u,v])/\ys=(l.take j).map fun a=>V.str a.1) ⟨rfl,⟨nO,nO,rfl⟩,rfl⟩ (fun j τ ys H' _ h=>by rw[<- h.1];exact SqL.of hsc2) ?_ ?_⟩)
    ·rintro j v τ ys H3 hv ⟨rfl,⟨u,v',rfl⟩,rfl⟩
     obtain⟨tq,htq,rfl⟩:=L2.gM hv;obtain⟨a,n,e1,e2⟩:=hT2.get htq;have hj:j < l.length:=(ud.mp e1).1;refine⟨_,_,rfl,SqT.of e2,rfl,_,_,rfl,_,_,rfl,rfl,(zg rfl ⟨?_,rfl,⟨_,_,rfl⟩,Ym (fun a:Str×Int=>V.str a.1) e1⟩)⟩;rw[ub,ut];lia
    ·rintro τ ys H3 ⟨rfl,_,rfl⟩ p2 hp2
     rw[ub,<- htl,uo (uj _)];have em:(l.map fun a=>V.str a.1)=(l.map (·.1)).map V.str:=by rw[UD];rfl
     rw[em];exact tail _ p2 (l.map (·.1)) ((k26).new hp2) (((S6).mono (by lia)).new hp2 _) uX9 (by simpa using hl0) ⟨fun x hx=>hx,by rw[ub];exact uj _⟩
   ·exact tail _ p1 (fl.map (·.1)) k26 S6 (k6.k _ _ (S2.neS h12) h12) (by simpa using hfe) ⟨hfm,by rw[ub,<- hf];exact uB _ _⟩
 case rest =>
  intro H' p xs kp S1 hp hx ⟨hm,hxl⟩;have h0:0 < xs.length:=List.length_pos_iff.mpr hx;refine(zq rfl rfl (zg rfl ⟨_,_,rfl,.inl (SqL.of hp),st,_,_,rfl,S1,by lia,(by rw[ub];lia),fun H2 r k2 S2 r0 r1=>?_⟩));rw[ub]at r1;have hi:r.toNat < xs.length:=by lia
  have e:atI (xs.map V.str) r=sO (.str xs[r.toNat]):=by
   have g:(xs.map V.str)[r.toNat]?=sO (.str xs[r.toNat]):=by rw[uh,ui hi];rfl
   have g2:=yo g;rw[tO r0]at g2;exact g2
  exact⟨p,_,_,_,rfl,rfl,SqL.of (k2.k _ _ (S1.neS hp) hp),e,q _ _ (kp.trans k2) S2 (hm _ (List.getElem_mem hi))⟩
theorem zah:FnScope lS8 lS8 (zt Xr):=.ok
theorem zai:(["_law_state","_law_scope","_law_sorts_here","_law_sort"]:lS).Nodup:=by decide +kernel
theorem Jm(F:Fun K "_law_picks" "_law_picks" Xr f fd)(GP:Ca P w K mg base CX0 2 "_law_pick" lS7 (spPick K))(m_tuple:mg "tuple"=nO):FnOk P w K mg base CX0 3 f fd lS8 (spPicks K):=by
 refine F.by zah (fun vs H Q E h=>?_) (fun cdv A outer s H vs Q E hr h=>?_)
 ·obtain⟨st,sc,q,s,B,l,rfl,_⟩:=h
  rfl
 obtain⟨st,sc,qs,s,B,l,rfl,S0,hB,hSc,hl0,hq,hs,q⟩:=h;refine⟨_,
  (zn (zv (zS (zF K) rfl m_tuple uO (jA1 (yg ["_law_sort"] rfl (zP K (jv 2)) (fun _ _ _ _ _=>(gN 3 zai)) (fun _ _ _ _ _=>zW) (fun _ _ _ _ _=>(cA GP hr (jA3 (jv 0) (jv 1) (jv 3))))))))),?_⟩
 have sl:=zN;have LM:LIM=4611686018427387904:=rfl;refine(zq rfl rfl ⟨⟨_,SqL.of hq⟩,yp (xs:=s.map V.int) (fun i τ ys H'=>Kp st H H'/\Sta K H' st (B+2*i)/\(∃x,τ=[sR st,sR sc,sR qs,x])/\∃xs:lS,ys=xs.map V.str/\xs.length=i/\∀x∈xs,x∈l.map (·.1)) ⟨Kp.refl,S0,⟨nO,rfl⟩,[],rfl,rfl,fun x hx=>by cases hx⟩ (fun i τ ys H' _ h=>SqL.of (h.1.k _ _ (S0.neI hq) hq)) ?_ ?_⟩)
 ·rintro i v τ ys H1 hv ⟨k1,S1,⟨x,rfl⟩,xs,rfl,hl,hm⟩
  obtain⟨n,hn,rfl⟩:=L2.gM hv;have hi:i < s.length:=(ud.mp hn).1;refine(zq rfl rfl (zg rfl ⟨st,sc,n,B+2*i,l,rfl,S1,by lia,hSc.kp S0 k1,hl0,fun H2 y k2 S2 hy=>⟨by rw[ub];lia,k1.trans k2,S2,⟨_,rfl⟩,xs++[y],by simp,by simp[hl],fun z hz=>?_⟩⟩));rcases ux.mp hz with hz|hz
  ·exact hm z hz
  ·rw[uk.mp hz]
   exact hy
 ·rintro τ ys H1 ⟨k1,S1,_,xs,rfl,hl,hm⟩ p hp
  rw[ub]at hl S1;refine⟨p,(zg rfl (.inl ⟨SqL.of uX9,fun p2 hp2=>?_⟩))⟩;exact q _ p2 xs ((k1.new hp).new hp2) ((((S1.mono (by lia)).new hp _)).new hp2 _) uX9 hl hm
inductive De
 |num (i:Int)
 |op (w a b:Str)
 |app (w f:Str) (xs:lS)
def De.uses:De->lS
 |.num _=>[]
 |.op _ a b=>[a,b]
 |.app w f xs=>if w="ask"then f::xs else xs
theorem yy{f:Str}{xs:lS}:De.uses (.app "ask" f xs)=f::xs:=by unfold De.uses;exact iP rfl
theorem yi{w f:Str}{xs:lS}(h:w≠"ask"):De.uses (.app w f xs)=xs:=by unfold De.uses;exact iN h
inductive IsDe(H:Hp):De->aO->Prop
 |num {i:Int} {p:aO}:H p=sO (.tup [.str "num",.int i])->IsDe H (.num i) p
 |op {w a b:Str} {p:aO}:H p=sO (.tup [.str "op",.str w,.str a,.str b])->IsDe H (.op w a b) p
 |app {w f:Str} {xs:lS} {p q:aO}:(w≠"num"/\w≠"op"/\xs.length<=16)->H p=sO (.tup [.str w,.str f,.ref q])->H q=sO (.tup (xs.map V.str))->IsDe H (.app w f xs) p
theorem IsDe.keep{d:De}(h:IsDe H d p)(t:Tups H H'):IsDe H' d p:=by
 cases h with
 |num a=>exact .num (t _ _ a)
 |op a=>exact .op (t _ _ a)
 |app c a b=>exact .app c (t _ _ a) (t _ _ b)
theorem Yo{α:Type}{f:α->V}{s:List α}{m:Int}(h:0<=m):cutV (s.map f) nO (sO m)=(s.take m.toNat).map f:=by
 unfold cutV;have c1:HT.sIx (s.map f).length 0 nO=0:=rfl;have c2:HT.sIx (s.map f).length (s.map f).length (sO m)=min m.toNat (s.map f).length:=by
  show(if m < 0 then(m+((s.map f).length:Nat)).toNat else min m.toNat (s.map f).length)=_;rw[iN (by lia)]
 rw[c1,c2,tD,Nat.sub_zero,List.map_take,ub];rcases Nat.le_total m.toNat s.length with c|c
 ·rw[Nat.min_eq_left c]
 ·rw[Nat.min_eq_right c,uo (by simp),uo (by simpa using c)]
theorem vW{α β:Type}{f:α->β}{xs:List α}{r:Int}{x:α}(h0:0<=r)(h:xs[r.toNat]?=sO x):atI (xs.map f) r=sO (f x):=by
 have g:(xs.map f)[r.toNat]?=sO (f x):=by rw[uh,h];rfl
 have g2:=yo g;rw[tO h0]at g2;exact g2
def Yp(o:Wo):De->Prop
 |.app w f xs=>w="call"->∃s∈o.defs,s.1=f/\s.2.1.length=xs.length
 |_=>True
def DeQ(K:uc)(o:Wo)(st:aO)(B:Nat)(l:List (Str×Int))(H:Hp)(Q:VK):Prop:=∀(H':Hp)(p q:aO)(d:De)(g:Int),Kp st H H'->Sta K H' st B->H' p=sO (.tup [.ref q,.int g])->IsDe H' d q->0<=g->g<=13->Yp o d->(∀x∈d.uses,x∈l.map (·.1))->Q (.ref p) H'
inductive spHanded(K:uc)(vs:List V)(H:Hp)(Q:VK)(e_3:XK):Prop
 |mk (st:aO) (sc:aO) (w:aO) (B:Nat) (l:List (Str×Int)):(∃o:Wo,vs=[.ref st,.ref sc,.ref w]/\Sta K H st B/\B+100 < LIM/\Sc H l sc/\l≠[]/\IsW H o w/\DeQ K o st (B+100) l H Q)->spHanded K vs H Q e_3
inductive spDeed(K:uc)(vs:List V)(H:Hp)(Q:VK)(e_3:XK):Prop
 |mk (st:aO) (sc:aO) (w:aO) (B:Nat) (l:List (Str×Int)) (o:Wo):(∃a:Nat,vs=[.ref st,.ref sc,.ref w,.int (a:Nat)]/\a < 3/\Sta K H st B/\B+200 < LIM/\Sc H l sc/\IsW H o w/\DeQ K o st (B+200) l H Q)->spDeed K vs H Q e_3
theorem zcN{i j:Int}(h:i<=3)(h2:j<=3)(h0:0<=j):0<=(if j > i then j else i)/\(if j > i then j else i)<=3:=by
 split<;>lia
theorem scHanded:FnScope ["_law_state","_law_scope","_law_world_here","_law_some","_law_way","_law_name_here","_law_sort","_law_sorts_here","_law_gives","_law_many"] lS17 (zt Zm):=.ok
theorem Jn:(["_law_state","_law_scope","_law_world_here","_law_some","_law_way","_law_name_here","_law_sort","_law_sorts_here","_law_gives","_law_many","_law_one"]:lS).Nodup:=by decide +kernel
theorem WH:(["_law_state","_law_scope","_law_world_here","_law_some","_law_way","_law_name_here","_law_sort","_law_sorts_here","_law_gives","_law_many","_law_k"]:lS).Nodup:=by decide +kernel
theorem WI(F:Fun K "_law_handed" "_law_handed" Zm f fd)(GD:Ca P w K mg base CX0 1 "_law_draw" lS5 (spDraw K))(GP:Ca P w K mg base CX0 3 "_law_picks" lS8 (spPicks K))(m_len:mg "len"=nO)(m_range:mg "range"=nO)(m_max:mg "max"=nO):FnOk P w K mg base CX0 4 f fd lS17 (spHanded K):=by
 refine F.by scHanded (fun vs H Q E h=>?_) (fun cdv A outer s H vs Q E hr h=>?_)
 ·obtain⟨st,sc,w,B,l,o,rfl,_⟩:=h
  rfl
 obtain⟨st,sc,w0,B,l,o,rfl,S0,hB,hSc,hl0,hW,q⟩:=h;have hr1:Room 1 _:=hr.mono (by decide);refine⟨_,
  (zh (yu ["_law_one"] (i:=3) scHanded.nd rfl (Or.inl rfl) rfl (zP K (jv 1)) (fun _ _ _ _ _=>(gN 10 Jn)) (fun _ _ _ _ _=>(yt (tN zdI (zp K (jv 10)) zo))) (fun _ _ _ _ _=>(jv 10)))
  (zh (sE 4 scHanded.nd (cA GD hr1 (jA2 (jv 0) zo)))
  (zh (zH (tN zM (jv 4) zo)
   (zn (sE 3 scHanded.nd (jv 1))) zB)
  (zh (zH (jW.pt (xD (tN (VH hr) (jv 3) (zC zL)) (xt (tN jH (jv 4) zo))))
   (zh (xa (xX (zV K) (jv 3) (cA GD hr1 (jA2 (jv 0) (yj (zD K) rfl m_len Ud (jA1 (jv 3)))))) (zK K rfl (zu (gN 5 scHanded.nd) (zu (gN 6 scHanded.nd) zJ))))
   (zn (zv (zA (jA2 (zA (jA3 zz (jv 5) (cA GP hr (jA3 (jv 0) (jv 1) (yg ["_law_k"] rfl (yz rfl m_range (jA1 (yj (zac rfl) rfl m_max PyProof.Rows.boot_max (jA2 (zx xu (jv 6) zo) (cA GD hr1 (jA2 (jv 0) zo)))))) (fun _ _ _ _ _=>(gN 10 WH)) (fun _ _ _ _ _=>zW) (fun _ _ _ _ _=>(zx yH (jv 10) zo))))))) zo))))) zB)
  (zh (xa (xX (zV K) (zU K (jv 2)) (cA GD hr1 (jA2 (jv 0) zo))) (zK K rfl (zu (gN 5 scHanded.nd) (zu (gN 7 scHanded.nd) (zu (gN 8 scHanded.nd) zJ)))))
  (zh (sE 9 scHanded.nd (cA GD hr1 (jA2 (jv 0) (zx yh (yj (zD K) rfl m_len Ud (jA1 (jv 7))) zo))))
  (zn (zv (zA (jA2 (zA (jA3 zz (jv 5) (cA GP hr (jA3 (jv 0) (jv 1) (yC (xF K) (jv 7) yM (yN (jv 9))))))) (zx xu (zx yh zo (yj (zD K) rfl m_len Ud (jA1 (jv 7)))) (jv 9)))))))))))),?_⟩
 have sl:=zN;have LM:LIM=4611686018427387904:=rfl;obtain⟨⟨ts,hsc,hT⟩,hn,hs⟩:=id hSc;have htl:=hT.len;refine(show ∀(u:TS)(D:Ends),(∀(H':Hp)(p:aO)(fl:List (Str×Int))(fs:List aO)(r:Int),Kp st H H'->Sta K H' st (B+1)->H' p=sO (.lst (fs.map V.ref))->Tps H' fl fs->((∀x∈fl,x∈l)/\fs.length<=ts.length)->u D [sR st,sR sc,sR w0,sR p,sO (.int r),nO,nO,nO,nO,nO] H')->(tSeq _ (tSeq _ (tSeq _ u)):TS) D _ H from ?key) _ _ ?rest
 case key =>
  intro u D tail;refine(zq rfl rfl ⟨⟨_,SqL.of hsc⟩,yp (xs:=ts.map V.ref) (fun j τ ys H'=>H=H'/\(∃v,τ=[sR st,sR sc,sR w0,nO,nO,nO,nO,nO,nO,nO,v])/\∃(fl:List (Str×Int))(fs:List aO),ys=fs.map V.ref/\fs.length<=j/\Tps H fl fs/\∀x∈fl,x∈l) ⟨rfl,⟨nO,rfl⟩,[],[],rfl,uK _,.nil,fun x hx=>by cases hx⟩ (fun j τ ys H' _ h=>by rw[<- h.1];exact SqL.of hsc) ?_ ?_⟩)
  ·rintro j v τ ys H3 hv ⟨rfl,⟨v',rfl⟩,fl,fs,rfl,hj,hf,hm⟩
   obtain⟨tq,htq,rfl⟩:=L2.gM hv;obtain⟨a,n,e1,e2⟩:=hT.get htq;have hjl:j < l.length:=(ud.mp e1).1;refine(zg rfl (ixT e2 aI1 (zw rfl rfl (zg rfl ?_))));refine ite2 (fun c=>?_) (fun c=>?_)
   ·refine(zg rfl ⟨by rw[ub];lia,rfl,⟨_,rfl⟩,fl++[(a,n)],fs++[tq],by simp,by simp;lia,hf.app (.cons e2 .nil),fun x hx=>?_⟩)
    rcases ux.mp hx with hx|hx
    ·exact hm x hx
    ·rw[uk.mp hx]
     exact uw e1
   ·exact⟨rfl,⟨_,rfl⟩,fl,fs,rfl,by lia,hf,hm⟩
  rintro τ ys H3 ⟨rfl,_,fl,fs,rfl,hj,hf,hm⟩ p1 hp1;have S1:=S0.new hp1 (.lst (fs.map V.ref));refine(zg rfl ⟨st,4,B,rfl,S1,by lia,by decide,fun H2 r k2 S2 r0 r1=>?_⟩);have k12:=(Kp.refl.new (o:=.lst (fs.map V.ref)) hp1).trans k2;have hp2:=k2.k _ _ (S0.ne hp1) (uX9 (H:=H) (a:=p1) (o:=.lst (fs.map V.ref)));refine(zg rfl ⟨rfl,(zg rfl ?_)⟩);refine ite2 (fun c=>?_) (fun c=>?_)
  ·exact(zg rfl (tail _ sc l ts r k12 S2 (k12.k _ _ (S0.neR hsc) hsc) (hT.keep (k12.tups S0)) ⟨fun x hx=>hx,uj _⟩))
  ·exact tail _ p1 fl fs r k12 S2 hp2 (hf.keep (k12.tups S0)) ⟨hm,by rw[ub]at hj;exact hj⟩
 case rest =>
  intro H1 p1 fl fs r k1 S1 hp1 hf ⟨hm,hfs⟩;have hfl:=hf.len;have gpos:∀x∈fl,0<=x.2/\x.2<=13:=fun x hx=>hs x (hm x hx);refine(show ∀(u:TS)(D:Ends),D.rt=Q->(∀(H':Hp),Kp st H H'->Sta K H' st (B+1)->u D [sR st,sR sc,sR w0,sR p1,sO (.int r),nO,nO,nO,nO,nO] H')->(tSeq _ u:TS) D _ H1 from ?key2) _ _ rfl ?rest2
  case key2 =>
   intro u D hD tail;refine(zg rfl ⟨sN0,fun pe h2=>?_⟩);have k2:=k1.new (o:=.lst []) h2;have S2:=S1.new h2 (.lst []);have hp2:=old (o:=.lst []) h2 hp1;have hf2:=hf.keep (.of (zk h2 (.lst [])));refine⟨_,_,_,rfl,rfl,SqL.of hp2,SqL.of uX9,(zg rfl ?_)⟩;show if(if tV=tV then !(fs.map V.ref).isEmpty else(fs.map V.ref).isEmpty)=tV then _ else _
   generalize upd H1 pe (.lst [])=H2 at *;by_cases hfe:fs=[]
   ·have e0:(fs.map V.ref).isEmpty=tV:=by rw[hfe];rfl
    rw[e0];exact iteF (tail _ k2 S2)
   have e0:(fs.map V.ref).isEmpty=fO:=by
    cases fs with
    |nil=>exact absurd rfl hfe
    |cons _ _=>rfl
   rw[e0];refine iteT ?_;refine(zg rfl (zw rfl rfl (zg rfl ?_)));refine ite2 (fun _=>?_) (fun _=>tail _ k2 S2);have h0:0 < fs.length:=List.length_pos_iff.mpr hfe;refine(zq rfl rfl (zg rfl ⟨_,_,rfl,.inl (SqL.of hp2),st,_,_,rfl,S2,by lia,(by rw[ub];lia),fun H3 r3 k3 S3 q0 q1=>?_⟩));rw[ub]at q1;have hi:r3.toNat < fs.length:=by lia
   obtain⟨t,ht⟩:∃t,fs[r3.toNat]?=sO t:=⟨_,ui hi⟩;have hf3:=hf2.keep (k3.tups S2);obtain⟨a,g,e1,e2⟩:=hf3.get ht;have hg:=gpos _ (uw e1);have ha:a∈l.map (·.1):=uq.mpr ⟨_,hm _ (uw e1),rfl⟩;have hp3:=k3.k _ _ (S2.neR hp2) hp2;refine⟨p1,_,_,_,rfl,rfl,SqL.of hp3,vW q0 ht,_,_,rfl,SqT.of e2,rfl,_,_,rfl,_,_,rfl,rfl,?_⟩;refine(zq rfl rfl (zq rfl rfl (zw rfl rfl (zg rfl ⟨st,3,(zg rfl ⟨S3,by lia,by decide,fun H4 r4 k4 S4 q2 q3=>?_⟩)⟩))));have mx:=zcN (i:=g-10) (j:=r4) (by lia) (by lia) q2;refine⟨_,_,rfl,?_⟩;generalize (if r4 > g-10 then r4 else g-10)=n at *;refine(zg rfl ⟨by lia,by lia,yZ (n:=n.toNat) (fun i τ ys H'=>H4=H'/\(∃x,τ=[sR st,sR sc,sR w0,sR p1,sO (.int r),sO (.str a),sO (.int g),nO,nO,nO,x])/\∃ns:List Int,ys=ns.map V.int/\ns.length=i) ⟨rfl,⟨nO,rfl⟩,[],rfl,rfl⟩ ?_ ?_⟩)
   ·rintro i τ ys H5 hi ⟨rfl,⟨x,rfl⟩,ns,rfl,hln⟩
    exact(zg rfl (zw rfl rfl ⟨(by show(0:Int) < _;decide),by rw[ub];lia,rfl,⟨_,rfl⟩,ns++[_],by rw[ur];rfl,by simp[hln]⟩))
   rintro τ ys H5 ⟨rfl,_,ns,rfl,hln⟩ p5 hp5;have k04:=(k2.trans k3).trans k4;have k5:=k04.new (o:=.lst (ns.map V.int)) hp5;have S5:=S4.new hp5 (.lst (ns.map V.int));refine⟨st,sc,p5,ns,_,l,rfl,S5,by lia,hSc.kp S0 k5,hl0,uX9,by lia,fun H6 p6 xs k6 S6 hp6 hl6 hm6=>?_⟩;refine⟨sN3,fun t1 h7=>⟨sN2,fun t2 h8=>?_⟩⟩;rw[hD];refine q _ t2 t1 (.app "ask" a xs) 0 (((k5.trans k6).new h7).new h8) ((((S6.mono (by lia)).new h7 _)).new h8 _) uX9 (.app ⟨by decide,by decide,by lia⟩ (old h8 uX9) (old h8 (old h7 hp6))) (by decide) (by decide) (fun e=>absurd e (by decide)) fun x hx=>?_;rw[yy]at hx;rcases uy.mp hx with e|e
   ·rw[e];exact ha
   ·exact hm6 x e
  case rest2 =>
   intro H2 k2 S2;obtain⟨⟨tl,dl,tt,ds,hw,htl2,hdl,hTt,hTd⟩,wok⟩:=hW.kp S0 k2;have dlen:=wok.dlen;have hdl2:=hTd.len;refine(zg rfl (ixL hw aI3 (zg rfl ⟨st,3,(zg rfl ⟨S2,by lia,by decide,fun H3 r3 k3 S3 q0 q1=>?_⟩)⟩)));have hi:r3.toNat < ds.length:=by lia
   obtain⟨t,ht⟩:∃t,ds[r3.toNat]?=sO t:=⟨_,ui hi⟩;obtain⟨z,ss,g,sq,e1,e2,e3⟩:=(hTd.kp S2 k3).get ht;have wd:ss.length<=3/\So ss/\0<=g/\g<=2:=wok.ds _ (uw e1);refine⟨dl,_,_,_,rfl,rfl,SqL.of (k3.k _ _ (S2.neR hdl) hdl),vW q0 ht,_,_,rfl,SqT.of e2,rfl,_,_,rfl,_,_,rfl,_,_,rfl,rfl,?_⟩;refine(zq rfl rfl ⟨_,_,rfl,.inl (SqL.of e3),(zw rfl rfl ⟨st,_,_,rfl,S3,by lia,(by rw[ub];lia),fun H4 r4 k4 S4 q2 q3=>?_⟩)⟩);rw[ub]at q3;have e34:=k4.k _ _ (S3.neI e3) e3;refine(zq rfl rfl (zq rfl rfl (zq rfl rfl ⟨_,_,rfl,SqL.of e34,fun p5 hp5=>?_⟩)));rw[Yo q2];have k04:=(k2.trans k3).trans k4;have k5:=k04.new (o:=.lst ((ss.take r4.toNat).map V.int)) hp5;have S5:=S4.new hp5 (.lst ((ss.take r4.toNat).map V.int));refine⟨st,sc,p5,ss.take r4.toNat,_,l,rfl,S5,by lia,hSc.kp S0 k5,hl0,uX9,by rw[ut];lia,fun H6 p6 xs k6 S6 hp6 hl6 hm6=>?_⟩;refine⟨sN3,fun t1 h7=>?_⟩;have e37:=old (o:=.tup [.str "func",.str z,.ref p6]) h7 (k6.k _ _ (S5.neI (old hp5 e34)) (old hp5 e34));refine(zg rfl ⟨_,_,rfl,.inl (SqL.of e37),(zw rfl rfl (zg rfl (zw rfl rfl ⟨sN2,fun t2 h8=>?_⟩)))⟩);rw[ub];refine q _ t2 t1 (.app "func" z xs) _ (((k5.trans k6).new h7).new h8) ((((S6.mono (by lia)).new h7 _)).new h8 _) uX9 (.app ⟨by decide,by decide,by rw[hl6,ut];lia⟩ (old h8 uX9) (old h8 (old h7 hp6))) (by lia) (by lia) (fun e=>absurd e (by decide)) fun x hx=>?_;rw[yi (by decide)]at hx;exact hm6 x hx
theorem scDeed:FnScope ["_law_state","_law_scope","_law_world_here","_law_at","_law_way","_law_word","_law_tag","_law_sorts_here","_law_kind","_law_to","_law_name_here","_law_gives"] lS9 (zt Je):=.ok
theorem zaj(F:Fun K "_law_deed" "_law_deed" Je f fd)(GD:Ca P w K mg base CX0 1 "_law_draw" lS5 (spDraw K))(GK:Ca P w K mg base CX0 2 "_law_pick" lS7 (spPick K))(GP:Ca P w K mg base CX0 3 "_law_picks" lS8 (spPicks K))(GH:Ca P w K mg base CX0 4 "_law_handed" lS17 (spHanded K)):FnOk P w K mg base CX0 5 f fd lS9 (spDeed K):=by
 refine F.by scDeed (fun vs H Q E h=>?_) (fun cdv A outer s H vs Q E hr h=>?_)
 ·obtain⟨st,sc,w,B,l,o,a,rfl,_⟩:=h
  rfl
 obtain⟨st,sc,w0,B,l,o,a,rfl,ha,S0,hB,hSc,hW,q⟩:=h;have hr1:Room 1 _:=hr.mono (by decide);have hr2:Room 2 _:=hr.mono (by decide);have hr3:Room 3 _:=hr.mono (by decide);refine⟨_,
  (zh (sE 4 scDeed.nd (cA GD hr1 (jA2 (jv 0) zo)))
  (zh (zH (jW.pt (vj (tN vk (jv 4) zo) (x9 (tN (Xh hr) (jv 1) (zC zL)))))
   (zn (zv (zA (jA2 (zA (jA2 zz (zx xu (cA GD hr1 (jA2 (jv 0) zo)) zo))) zo)))) zB)
  (zh (zH (tN zM (jv 4) zo)
   (zh (sE 5 scDeed.nd (xX (zV K) (zC (jA7 zz zz zz zz zz zz zz)) (cA GD hr1 (jA2 (jv 0) zo))))
   (zn (zv (zA (jA2 (zA (jA4 zz (jv 5) (cA GK hr2 (jA3 (jv 0) (jv 1) zo)) (cA GK hr2 (jA3 (jv 0) (jv 1) zo)))) zo))))) zB)
  (zh (zH (tN vk (jv 4) zo)
   (zh (xa (xX (zV K) (zU K (jv 2)) (cA GD hr1 (jA2 (jv 0) zo))) (zK K rfl (zu (gN 6 scDeed.nd) (zu (gN 7 scDeed.nd) (zu (gN 8 scDeed.nd) zJ)))))
   (zn (zv (zA (jA2 (zA (jA3 zz (jv 6) (cA GP hr3 (jA3 (jv 0) (jv 1) (jv 7))))) (jv 8)))))) zB)
  (zh (zH (tN zM (jv 4) zo)
   (zn (zv (cA GH hr (jA3 (jv 0) (jv 1) (jv 2))))) zB)
  (zh (sE 9 scDeed.nd (cA GD hr1 (jA2 (jv 0) zo)))
  (zh (zH (jW.pt (xD (tN vk (jv 3) zo) (xt (tN jH (cA GD hr1 (jA2 (jv 0) zo)) zo))))
   (zn (sE 9 scDeed.nd (zx yh (zx yh (jv 3) zo) (cA GD hr1 (jA2 (jv 0) (zx xu zo (jv 3))))))) zB)
  (zh (xa (xX (zV K) (zU K (jv 2)) (jv 9)) (zK K rfl (zu (gN 10 scDeed.nd) (zu (gN 7 scDeed.nd) (zu (gN 11 scDeed.nd) zJ)))))
  (zn (zv (zA (jA2 (zA (jA3 zz (jv 10) (cA GP hr3 (jA3 (jv 0) (jv 1) (jv 7))))) (jv 11))))))))))))),?_⟩
 have sl:=zN;have LM:LIM=4611686018427387904:=rfl;obtain⟨⟨ts,hsc,hT⟩,hn,hs⟩:=id hSc;have htl:=hT.len;refine(zg rfl ⟨st,9,B,rfl,S0,by lia,by decide,fun H1 r k1 S1 r0 r1=>?_⟩);refine(show ∀(u:TS)(D:Ends),D.rt=Q->(∀(H':Hp),l≠[]->Kp st H H'->Sta K H' st (B+1)->u D [sR st,sR sc,sR w0,sO (.int (a:Nat)),sO (.int r),nO,nO,nO,nO,nO,nO,nO] H')->(tSeq _ (tSeq _ u):TS) D _ H1 from ?key) _ _ rfl ?rest
 case key =>
  intro u D hD tail;refine(zg rfl (zw rfl rfl (zg rfl ?_)));refine ite2 (fun _=>?_) (fun _=>?_)
  ·refine(zg rfl ⟨st,9,(zg rfl ⟨S1,by lia,by decide,fun H2 r2 k2 S2 _ _=>(zw rfl rfl ⟨sN2,fun t1 h3=>⟨sN2,fun t2 h4=>?_⟩⟩)⟩)⟩)
   rw[hD];exact q _ t2 t1 (.num (r2-4)) 0 (((k1.trans k2).new h3).new h4) (((S2.mono (by lia)).new h3 _).new h4 _) uX9 (.num (old h4 uX9)) (by decide) (by decide) trivial fun x hx=>by cases hx
  ·refine(zg rfl ⟨sN0,fun pe h2=>?_⟩)
   have k2:=k1.new (o:=.lst []) h2;have S2:=S1.new h2 (.lst []);have hsc2:=k2.k _ _ (S0.neR hsc) hsc;refine⟨_,_,_,rfl,rfl,SqL.of hsc2,SqL.of uX9,(zg rfl ?_)⟩;show if(if fO=tV then !(ts.map V.ref).isEmpty else(ts.map V.ref).isEmpty)=tV then _ else _
   generalize upd H1 pe (.lst [])=H2 at *;by_cases he:ts=[]
   ·have e0:(ts.map V.ref).isEmpty=tV:=by rw[he];rfl
    rw[e0];refine iteT ?_;refine(zg rfl ⟨st,9,(zg rfl ⟨S2,by lia,by decide,fun H3 r2 k3 S3 _ _=>(zw rfl rfl ⟨sN2,fun t1 h3=>⟨sN2,fun t2 h4=>?_⟩⟩)⟩)⟩);rw[hD];exact q _ t2 t1 (.num (r2-4)) 0 (((k2.trans k3).new h3).new h4) (((S3.mono (by lia)).new h3 _).new h4 _) uX9 (.num (old h4 uX9)) (by decide) (by decide) trivial fun x hx=>by cases hx
   ·have e0:(ts.map V.ref).isEmpty=fO:=by
     cases ts with
     |nil=>exact absurd rfl he
     |cons _ _=>rfl
    rw[e0];refine iteF (tail _ (fun e=>he ?_) k2 S2);rw[e]at htl;exact Ug.mp htl.symm
 case rest =>
  intro H2 hl0 k2 S2;have hSc2:=hSc.kp S0 k2;have hW2:=hW.kp S0 k2;refine cut1 fun c_ hc_=>?_;refine(zg rfl ⟨rfl,(zg rfl ?_)⟩);refine ite2 (fun _=>?_) (fun _=>?_)
  ·refine⟨sN7,fun pl h3=>?_⟩
   have S3:=S2.new h3 (.lst [.str "plus",.str "minus",.str "times",.str "over",.str "rest",.str "less",.str "same"]);have k3:=k2.new (o:=.lst [.str "plus",.str "minus",.str "times",.str "over",.str "rest",.str "less",.str "same"]) h3;refine(zg rfl ⟨st,7,(zg rfl ⟨S3,by lia,by decide,fun H4 r4 k4 S4 q0 q1=>?_⟩)⟩);have hpl:=k4.k _ _ (S2.ne h3) (uX9 (H:=H2) (a:=pl) (o:=.lst [.str "plus",.str "minus",.str "times",.str "over",.str "rest",.str "less",.str "same"]));have hi:r4.toNat < (["plus","minus","times","over","rest","less","same"]:lS).length:=by show r4.toNat < 7;lia
   obtain⟨wd,hwd⟩:∃x,(["plus","minus","times","over","rest","less","same"]:lS)[r4.toNat]?=sO x:=⟨_,ui hi⟩;refine⟨pl,_,_,_,rfl,rfl,SqL.of hpl,vW (f:=V.str) q0 hwd,?_⟩;have k34:=k3.trans k4;refine(zq rfl rfl (zg rfl ⟨st,sc,0,_,l,rfl,S4,by lia,hSc.kp S0 k34,hl0,fun H5 x k5 S5 hx=>?_⟩));have k35:=k34.trans k5;refine(zq rfl rfl ⟨st,sc,0,_,l,rfl,S5,by lia,hSc.kp S0 k35,hl0,fun H6 y k6 S6 hy=>?_⟩);refine⟨sN4,fun t1 h7=>⟨sN2,fun t2 h8=>?_⟩⟩;refine q _ t2 t1 (.op wd x y) 0 (((k35.trans k6).new h7).new h8) (((S6.mono (by lia)).new h7 _).new h8 _) uX9 (.op (old h8 uX9)) (by decide) (by decide) trivial fun z hz=>?_;have hz':z∈[x,y]:=hz;rcases uy.mp hz' with e|e
   ·rw[e];exact hx
   ·rw[uk.mp e];exact hy
  subst hc_;refine nxtC ?_;dsimp only
  refine cut1 fun c_ hc_=>?_;refine(zg rfl (zw rfl rfl (zg rfl ?_)));obtain⟨⟨tl,dl,tt,ds,hw,htl2,hdl,hTt,hTd⟩,wok⟩:=hW2;refine ite2 (fun _=>?_) (fun _=>?_)
  ·have tlen:=wok.tlen
   have htl3:=hTt.len;refine(zg rfl (ixL hw aI2 (zg rfl ⟨st,4,(zg rfl ⟨S2,by lia,by decide,fun H3 r3 k3 S3 q0 q1=>?_⟩)⟩)));have hi:r3.toNat < tt.length:=by lia
   obtain⟨t,ht⟩:∃t,tt[r3.toNat]?=sO t:=⟨_,ui hi⟩;obtain⟨z,ss,g,sq,e1,e2,e3⟩:=(hTt.kp S2 k3).get ht;have wd:ss.length<=9/\So ss:=wok.ts _ (uw e1);have hg:g=1\/g=2:=by
    have m:g∈o.tags.map (·.2.2):=uq.mpr ⟨_,uw e1,rfl⟩;rw[wok.tk]at m;simpa using m
   refine⟨tl,_,_,_,rfl,rfl,SqL.of (k3.k _ _ (S2.neR htl2) htl2),vW q0 ht,_,_,rfl,SqT.of e2,rfl,_,_,rfl,_,_,rfl,_,_,rfl,rfl,?_⟩;have k23:=k2.trans k3;refine(zq rfl rfl (zq rfl rfl ⟨st,sc,sq,ss,_,l,rfl,S3,by lia,hSc.kp S0 k23,hl0,e3,by lia,fun H6 p6 xs k6 S6 hp6 hl6 hm6=>?_⟩));refine⟨sN3,fun t1 h7=>(zg rfl ⟨sN2,fun t2 h8=>?_⟩)⟩;refine q _ t2 t1 (.app "make" z xs) g (((k23.trans k6).new h7).new h8) (((S6.mono (by lia)).new h7 _).new h8 _) uX9 (.app ⟨by decide,by decide,by lia⟩ (old h8 uX9) (old h8 (old h7 hp6))) (by lia) (by lia) (fun e=>absurd e (by decide)) fun x hx=>?_;rw[yi (by decide)]at hx;exact hm6 x hx
  subst hc_;refine nxtC ?_;dsimp only
  refine cut1 fun c_ hc_=>?_;refine(zg rfl ⟨rfl,(zg rfl ?_)⟩);refine ite2 (fun _=>?_) (fun _=>?_)
  ·refine(zq rfl rfl (zg rfl ⟨st,sc,w0,_,l,o,rfl,S2,by lia,hSc2,hl0,⟨⟨tl,dl,tt,ds,hw,htl2,hdl,hTt,hTd⟩,wok⟩,fun H3 p q' d g k3 S3 h1 h2 h3 h4 h5 h6=>?_⟩))
   exact q _ p q' d g (k2.trans k3) (S3.mono (by lia)) h1 h2 h3 h4 h5 h6
  subst hc_;refine(zg rfl ⟨st,3,(zg rfl ⟨S2,by lia,by decide,fun H3 r3 k3 S3 q0 q1=>?_⟩)⟩);have k23:=k2.trans k3;refine(show ∀(u:TS)(D:Ends),(∀(H':Hp)(x:Int),Kp st H H'->Sta K H' st (B+4)->0<=x->x < 3->u D [sR st,sR sc,sR w0,sO (.int (a:Nat)),sO (.int r),nO,nO,nO,nO,sO (.int x),nO,nO] H')->(tSeq _ (tSeq _ u):TS) D _ H3 from ?key3) _ _ ?rest3
  case key3 =>
   intro u D tail;refine(zg rfl (zw rfl rfl (zg rfl ?_)));refine ite2 (fun c=>?_) (fun _=>tail _ r3 k23 (S3.mono (by lia)) q0 q1);rw[dA]at c;refine(zg rfl ⟨st,4,(zg rfl ⟨S3,by lia,by decide,fun H4 r4 k4 S4 _ _=>(zw rfl rfl (zg rfl ?_))⟩)⟩);refine ite2 (fun _=>?_) (fun _=>tail _ r3 (k23.trans k4) (S4.mono (by lia)) q0 q1);refine(zg rfl (zw rfl rfl (zq rfl rfl (zw rfl rfl ⟨st,_,_,rfl,S4,by lia,by lia,fun H5 r5 k5 S5 p0 p1=>(zw rfl rfl ?_)⟩))));exact tail _ _ ((k23.trans k4).trans k5) (S5.mono (by lia)) (by lia) (by lia)
  case rest3 =>
   intro H4 x k4 S4 x0 x1;obtain⟨⟨tl,dl,tt,ds,hw,htl2,hdl,hTt,hTd⟩,wok⟩:=hW.kp S0 k4;have dlen:=wok.dlen;have hdl2:=hTd.len;have hi:x.toNat < ds.length:=by lia
   obtain⟨t,ht⟩:∃t,ds[x.toNat]?=sO t:=⟨_,ui hi⟩;obtain⟨z,ss,g,sq,e1,e2,e3⟩:=hTd.get ht;have wd:ss.length<=3/\So ss/\0<=g/\g<=2:=wok.ds _ (uw e1);refine(zg rfl (ixL hw aI3 (zg rfl ⟨dl,_,_,_,rfl,rfl,SqL.of hdl,vW x0 ht,_,_,rfl,SqT.of e2,rfl,_,_,rfl,_,_,rfl,_,_,rfl,rfl,?_⟩)));refine(zq rfl rfl (zq rfl rfl ⟨st,sc,sq,ss,_,l,rfl,S4,by lia,hSc.kp S0 k4,hl0,e3,by lia,fun H6 p6 xs k6 S6 hp6 hl6 hm6=>?_⟩));refine⟨sN3,fun t1 h7=>(zg rfl ⟨sN2,fun t2 h8=>?_⟩)⟩;refine q _ t2 t1 (.app "call" z xs) g (((k4.trans k6).new h7).new h8) (((S6.mono (by lia)).new h7 _).new h8 _) uX9 (.app ⟨by decide,by decide,by lia⟩ (old h8 uX9) (old h8 (old h7 hp6))) (by lia) (by lia) (fun _=>⟨_,uw e1,rfl,hl6.symm⟩) fun x hx=>?_;rw[yi (by decide)]at hx;exact hm6 x hx
mutual
inductive Bd
 |give (x:Str)
 |lt (x:Str) (d:De) (b:Bd)
 |iff (x:Str) (a b:Bd)
 |case(x:Str) (as:Arms)
inductive Arms
 |nil
 |cons (t:Str) (ns:lS) (b:Bd) (r:Arms)
end
mutual
def Bd.sz:Bd->Nat
 |.give _=>1
 |.lt _ _ b=>b.sz+1
 |.iff _ a b=>a.sz+b.sz+1
 |.case _ as=>as.sz+1
def Arms.sz:Arms->Nat
 |.nil=>0
 |.cons _ ns b r=>ns.length+b.sz+r.sz+1
end
mutual
def Bd.dp:Bd->Nat
 |.give _=>1
 |.lt _ _ b=>b.dp+1
 |.iff _ a b=>max a.dp b.dp+1
 |.case _ as=>as.dp+1
def Arms.dp:Arms->Nat
 |.nil=>0
 |.cons _ _ b r=>max b.dp r.dp
end
def Arms.app:Arms->Arms->Arms
 |.nil,b=>b
 |.cons t ns d r,b=>.cons t ns d (Arms.app r b)
def Arms.rev:Arms->Arms
 |.nil=>.nil
 |.cons t ns d r=>Arms.app (Arms.rev r) (.cons t ns d .nil)
theorem Arms.sz_app:∀(a b:Arms),(Arms.app a b).sz=a.sz+b.sz
 |.nil,b=>by unfold Arms.app;rw[Arms.sz];lia
 |.cons t ns d r,b=>by unfold Arms.app;rw[Arms.sz,Arms.sz,Arms.sz_app r b];lia
theorem Arms.dp_app:∀(a b:Arms),(Arms.app a b).dp=max a.dp b.dp
 |.nil,b=>by unfold Arms.app;rw[Arms.dp];lia
 |.cons t ns d r,b=>by unfold Arms.app;rw[Arms.dp,Arms.dp,Arms.dp_app r b];lia
theorem Arms.dp_rev:∀(a:Arms),(Arms.rev a).dp=a.dp
 |.nil=>rfl
 |.cons t ns d r=>by unfold Arms.rev;rw[Arms.dp_app,Arms.dp_rev r,Arms.dp,Arms.dp,Arms.dp];lia
theorem Arms.sz_rev:∀(a:Arms),(Arms.rev a).sz=a.sz
 |.nil=>rfl
 |.cons t ns d r=>by unfold Arms.rev;rw[Arms.sz_app,Arms.sz_rev r,Arms.sz,Arms.sz,Arms.sz];lia
mutual
inductive IsB(H:Hp):Bd->aO->Prop
 |give {x:Str} {p:aO}:H p=sO (.tup [.str "give",.str x])->IsB H (.give x) p
 |lt {x:Str} {d:De} {b:Bd} {p q r:aO}:H p=sO (.tup [.str "let",.str x,.ref q,.ref r])->IsDe H d q->IsB H b r->IsB H (.lt x d b) p
 |iff {x:Str} {a b:Bd} {p q r:aO}:H p=sO (.tup [.str "if",.str x,.ref q,.ref r])->IsB H a q->IsB H b r->IsB H (.iff x a b) p
 |case{x:Str} {as:Arms} {ps:List aO} {p q:aO}:H p=sO (.tup [.str "case",.str x,.ref q])->H q=sO (.tup (ps.map V.ref))->0 < ps.length->IsA H as ps->IsB H (.case x as) p
inductive IsA(H:Hp):Arms->List aO->Prop
 |nil:IsA H .nil []
 |cons {t:Str} {ns:lS} {b:Bd} {r:Arms} {p q s:aO} {ps:List aO}:H p=sO (.tup [.str t,.ref q,.ref s])->H q=sO (.tup (ns.map V.str))->IsB H b s->IsA H r ps->IsA H (.cons t ns b r) (p::ps)
end
mutual
theorem IsB.keep{H H':Hp}(t:Tups H H'):∀{b:Bd}{p:aO},IsB H b p->IsB H' b p
 |_,_,.give a=>.give (t _ _ a)
 |_,_,.lt a d b=>.lt (t _ _ a) (d.keep t) (IsB.keep t b)
 |_,_,.iff a b c=>.iff (t _ _ a) (IsB.keep t b) (IsB.keep t c)
 |_,_,.case a b l c=>.case (t _ _ a) (t _ _ b) l (IsA.keep t c)
theorem IsA.keep{H H':Hp}(t:Tups H H'):∀{b:Arms}{p:List aO},IsA H b p->IsA H' b p
 |_,_,.nil=>.nil
 |_,_,.cons a b c d=>.cons (t _ _ a) (t _ _ b) (IsB.keep t c) (IsA.keep t d)
end
theorem IsA.app{H:Hp}{b:Arms}{q:List aO}(g:IsA H b q):∀{a:Arms}{p:List aO},IsA H a p->IsA H (Arms.app a b) (p++q)
 |_,_,.nil=>by unfold Arms.app;exact g
 |_,_,.cons x y z r=>by unfold Arms.app;exact .cons x y z (IsA.app g r)
theorem IsA.rev{H:Hp}:∀{a:Arms}{p:List aO},IsA H a p->IsA H (Arms.rev a) p.reverse
 |_,_,.nil=>.nil
 |_,_,.cons x y z r=>by
  unfold Arms.rev;rw[tj];exact IsA.app (.cons x y z .nil) (IsA.rev r)
def CB:Nat->Nat
 |0=>0
 |n+1=>3*CB n+300
def SZ:Nat->Nat
 |0=>0
 |n+1=>3*SZ n+40
mutual
def Bd.binds:Bd->lS
 |.give _=>[]
 |.lt x _ b=>x::b.binds
 |.iff _ a b=>a.binds++b.binds
 |.case _ as=>as.binds
def Arms.binds:Arms->lS
 |.nil=>[]
 |.cons _ ns b r=>ns++(b.binds++r.binds)
end
mutual
def SndB(o:Wo):lS->Bd->Prop
 |l,.give x=>x∈l
 |l,.lt x d b=>((∀y∈d.uses,y∈l)/\x∉l/\Yp o d)/\SndB o (l++[x]) b
 |l,.iff x a b=>x∈l/\SndB o l a/\SndB o l b
 |l,.case x as=>x∈l/\SndA o l as
def SndA(o:Wo):lS->Arms->Prop
 |_,.nil=>True
 |l,.cons _ ns b r=>(((ns.Nodup/\ns.length<=16)/\∀y∈ns,y∉l)/\SndB o (l++ns) b)/\SndA o l r
end
theorem SndA.app{o:Wo}{l:lS}:∀{a b:Arms},SndA o l a->SndA o l b->SndA o l (Arms.app a b)
 |.nil,b,_,h=>by unfold Arms.app;exact h
 |.cons t ns d r,b,h,h'=>by
  unfold Arms.app;rw[SndA]at h ⊢;exact⟨h.1,SndA.app h.2 h'⟩
theorem SndA.rev{o:Wo}{l:lS}:∀{a:Arms},SndA o l a->SndA o l a.rev
 |.nil,h=>h
 |.cons t ns d r,h=>by
  unfold Arms.rev;rw[SndA]at h;refine SndA.app (SndA.rev h.2) ?_;rw[SndA,SndA];exact⟨h.1,trivial⟩
def Bnm(o:Wo)(k m:Nat)(l:lS):Prop:=∀x∈l,∃j,k<=j/\j < m/\x=nm o.z o.b j
theorem Bnm.mono{o:Wo}{k k':Nat}{l:lS}(h:Bnm o k m l)(e:k'<=k):Bnm o k' m l:=fun x hx=>let ⟨j,a,b,c⟩:=h x hx;⟨j,uH e a,b,c⟩
theorem Bnm.app{o:Wo}{k:Nat}{l l':lS}(h:Bnm o k m l)(h':Bnm o k m l'):Bnm o k m (l++l'):=fun x hx=>(ux.mp hx).elim (h x) (h' x)
theorem Bnm.nil{o:Wo}{k:Nat}:Bnm o k m []:=fun x hx=>by cases hx
theorem vX(k:Nat):cl (ys k)=uQ (k % 2) 121:=by
 unfold ys;rcases(show k % 2=0\/k % 2=1 by lia)with e|e
 ·rw[e];decide +kernel
 ·rw[e];decide +kernel
theorem vA{b:Bool}{k:Nat}(hj:j < 1352)(hk:k < 1352)(h:nm z b j=nm z b k):j=k:=by
 have hl:∀i:Nat,(cl (core i)).length=3:=fun i=>by rw[wG];rfl
 have cinj:cl (core j)=cl (core k)->j % 2=k % 2->j=k:=fun e e0=>by
  rw[wG,wG]at e;injection e with e1 e2
  injection e2 with _ e3
  injection e3 with e3 _
  lia
 have e:=congrArg cl h;unfold nm at e;cases b with
 |true =>
  rw[iP rfl,iP rfl,zY,zY,zY,zY]at e;have el:=congrArg tU e;rw[uf,uf,uf,uf,hl,hl,vX,vX,Uq,Uq]at el;rw[UC,UC]at e;exact cinj (List.append_inj_left e (by rw[hl,hl])) (by lia)
 |false =>
  rw[iN (by decide),iN (by decide),zY,zY,zY,zY]at e;have el:=congrArg tU e;rw[uf,uf,uf,uf,hl,hl,vX,vX,Uq,Uq]at el;exact cinj (List.append_inj_right' e (by rw[hl,hl])) (by lia)
theorem zbq{o:Wo}{k:Nat}(h:k+n<=1352):((uM n).map fun i=>nm o.z o.b (k+i)).Nodup:=by
 unfold List.Nodup;rw[List.pairwise_map];refine List.Pairwise.imp_of_mem (fun{a b} ha hb hab e=>hab ?_) List.nodup_range
 have:=Uu.mp ha
 have:=Uu.mp hb
 have:=vA (by lia) (by lia) e
 lia
theorem zcO{o:Wo}{k:Nat}(h:k+n<=1352){l:lS}(hl:Bnm o 0 k l):∀y∈(uM n).map (fun i=>nm o.z o.b (k+i)),y∉l:=fun y hy hm=>by
 obtain⟨i,hi,rfl⟩:=uq.mp hy
 have:=Uu.mp hi
 obtain⟨j,_,hj,e⟩:=hl _ hm
 have:=vA (by lia) (by lia) e
 lia
theorem zdO{o:Wo}{k:Nat}{l:lS}(hl:Bnm o 0 k l):Bnm o 0 (k+n) (l++(uM n).map fun i=>nm o.z o.b (k+i)):=fun y hy=>by
 rcases ux.mp hy with hy|hy
 ·obtain⟨j,a,b,c⟩:=hl y hy
  exact⟨j,a,by lia,c⟩
 ·obtain⟨i,hi,rfl⟩:=uq.mp hy
  have:=Uu.mp hi
  exact⟨k+i,uK _,by lia,rfl⟩
theorem zak{o:Wo}{k:Nat}(h:k < 1352){l:lS}(hl:Bnm o 0 k l)(hy:nm o.z o.b k=y):y∉l:=fun hm=>by
 obtain⟨j,_,hj,e⟩:=hl _ hm
 have:=vA (by lia) (by lia) (hy.trans e)
 lia
theorem zcP{o:Wo}{k:Nat}{l:lS}(hl:Bnm o 0 k l)(hy:nm o.z o.b k=y):Bnm o 0 (k+1) (l++[y]):=fun z hz=>by
 rcases ux.mp hz with hz|hz
 ·obtain⟨j,a,b,c⟩:=hl z hz
  exact⟨j,a,by lia,c⟩
 ·rw[uk.mp hz]
  exact⟨k,uK _,by lia,hy.symm⟩
theorem Arms.binds_app:∀(a b:Arms),(Arms.app a b).binds=a.binds++b.binds
 |.nil,b=>by unfold Arms.app;rw[Arms.binds];rfl
 |.cons t ns d r,b=>by unfold Arms.app;rw[Arms.binds,Arms.binds,Arms.binds_app r b,UC,UC]
theorem Bnm.rev{o:Wo}{k m:Nat}:∀{a:Arms},Bnm o k m a.binds->Bnm o k m a.rev.binds
 |.nil,h=>h
 |.cons t ns d r,h=>by
  unfold Arms.rev;rw[Arms.binds_app];rw[Arms.binds]at h;refine Bnm.app (Bnm.rev fun x hx=>h x (uv _ (uv _ hx))) ?_;rw[Arms.binds,Arms.binds,uU];exact fun x hx=>h x ((ux.mp hx).elim (uz _) fun y=>uv _ (uz _ y))
inductive spRooms(K:uc)(vs:List V)(H:Hp)(Q:VK)(e_3:XK):Prop
 |mk (st:aO) (room:Int) (m:Nat):(∃B:Nat,vs=[.ref st,.int room,.int (m:Nat)]/\1<=room/\1<=m/\m<=10/\Sta K H st B/\B+1 < LIM/\∀(H':Hp)(p:aO)(rs:List Int),Kp st H H'->Sta K H' st (B+1)->H p=nO->H' p=sO (.lst (rs.map V.int))->rs.length=m->(∀x∈rs,0<=x/\x<=room-1)->Q (.ref p) H')->spRooms K vs H Q e_3
inductive spBody(K:uc)(n:Nat)(vs:List V)(H:Hp)(Q:VK)(e_3:XK):Prop
 |mk (st:aO) (sc:aO) (w:aO) (k:Nat) (a:Nat) (B:Nat) (room:Int) (l:List (Str×Int)):(∃o:Wo,vs=[.ref st,.ref sc,.int (k:Nat),.int room,.ref w,.int (a:Nat)]/\a < 3/\Sta K H st B/\B+CB n < LIM/\Sc H l sc/\IsW H o w/\room.toNat+(if l=[]then 1 else 0)+1<=n/\l.length+10*n<=900/\(k+10*n<=900/\Bnm o 0 k (l.map (·.1)))/\∀(H':Hp)(p:aO)(b:Bd),Kp st H H'->Sta K H' st (B+CB n)->IsB H' b p->b.sz<=SZ n->b.dp<=n->Bnm o k 900 b.binds->SndB o (l.map (·.1)) b->Q (.ref p) H')->spBody K n vs H Q e_3
inductive spCase(K:uc)(n:Nat)(vs:List V)(H:Hp)(Q:VK)(e_3:XK):Prop
 |mk (st:aO) (sc:aO) (w:aO) (k:Nat) (a:Nat) (B:Nat) (room:Int) (l:List (Str×Int)):(∃o:Wo,vs=[.ref st,.ref sc,.int (k:Nat),.int room,.ref w,.int (a:Nat)]/\a < 3/\Sta K H st B/\B+(3*CB n+10) < LIM/\Sc H l sc/\l≠[]/\IsW H o w/\1<=room/\room.toNat<=n/\l.length+10*(n+1)<=900/\(k+10*(n+1)<=900/\Bnm o 0 k (l.map (·.1)))/\∀(H':Hp)(p:aO)(b:Bd),Kp st H H'->Sta K H' st (B+(3*CB n+10))->IsB H' b p->b.sz<=3*SZ n+31->b.dp<=n+1->Bnm o k 900 b.binds->SndB o (l.map (·.1)) b->Q (.ref p) H')->spCase K n vs H Q e_3
theorem Zw{H:Hp}:∀{xs:lS}{ys:List Int}{ps:List aO},ps.length=min (xs.map V.str).length (ys.map V.int).length->(∀(i:Nat) x y,(xs.map V.str)[i]?=sO x->(ys.map V.int)[i]?=sO y->∃t,ps[i]?=sO t/\H t=sO (.tup [x,y]))->Tps H (xs.zip ys) ps
 |[],_,ps,hl,_=>by
  have:ps=[]:=Ug.mp (by simpa using hl)
  rw[this];exact .nil
 |_::_,[],ps,hl,_=>by
  have:ps=[]:=Ug.mp (by simpa using hl)
  rw[this];exact .nil
 |x::xs,y::ys,[],hl,_=>by simp at hl
 |x::xs,y::ys,p::ps,hl,h=>by
  obtain⟨t,h1,h2⟩:=h 0 (.str x) (.int y) rfl rfl;have e:p=t:=by simpa using h1
  refine .cons (by rw[e];exact h2) (Zw (by simp only[uF,um]at hl;lia) fun i u v hu hv=>?_);obtain⟨t,h1,h2⟩:=h (i+1) u v (by simpa using hu) (by simpa using hv);exact⟨t,by simpa using h1,h2⟩
theorem scRooms:FnScope ["_law_state","_law_room","_law_many","_law_rooms_here"] lS14 (zt Xs):=.ok
theorem zal:(["_law_state","_law_room","_law_many","_law_rooms_here","_law_k"]:lS).Nodup:=by decide +kernel
theorem Jo(F:Fun K "_law_rooms" "_law_rooms" Xs f fd)(GD:Ca P w K mg base CX0 1 "_law_draw" lS5 (spDraw K))(m_range:mg "range"=nO):FnOk P w K mg base CX0 2 f fd lS14 (spRooms K):=by
 refine F.by scRooms (fun vs H Q E h=>?_) (fun cdv A outer s H vs Q E hr h=>?_)
 ·obtain⟨st,room,m,B,rfl,_⟩:=h
  rfl
 obtain⟨st,room,m,B,rfl,h1,m1,m2,S0,hB,q⟩:=h;refine⟨_,
  (zh (yu ["_law_k"] (i:=3) scRooms.nd rfl (Or.inl rfl) rfl (yz rfl m_range (jA1 (jv 2))) (fun _ _ _ _ _=>(gN 4 zal)) (fun _ _ _ _ _=>zW) (fun _ _ _ _ _=>(zx yU (zx xu (jv 1) zo) zo)))
  (zh (xa (zx xu (jv 1) zo) (vz (jv 3) (cA GD hr (jA2 (jv 0) (jv 2)))))
  (zn (zv (jv 3))))),?_⟩
 have sl:=zN;have LM:LIM=4611686018427387904:=rfl;refine(zq rfl rfl ⟨by lia,by lia,yZ (n:=m) (fun i τ ys H'=>H=H'/\(∃x,τ=[sR st,sO (.int room),sO (.int (m:Nat)),nO,x])/\∃rs:List Int,ys=rs.map V.int/\rs.length=i/\∀x∈rs,0<=x/\x<=room-1) ⟨rfl,⟨nO,rfl⟩,[],rfl,rfl,fun x hx=>by cases hx⟩ ?_ ?_⟩)
 ·rintro i τ ys H1 hi ⟨rfl,⟨x,rfl⟩,rs,rfl,hl,hx⟩
  refine(zg rfl (zw rfl rfl (zw rfl rfl ⟨⟨by decide,by decide⟩,by rw[ub];lia,rfl,⟨_,rfl⟩,rs++[(room-1) / 3],by rw[ur];rfl,by simp[hl],fun y hy=>?_⟩)));rcases ux.mp hy with hy|hy
  ·exact hx y hy
  ·rw[uk.mp hy]
   lia
 rintro τ ys H1 ⟨rfl,_,rs,rfl,hl,hx⟩ p hp;have S1:=S0.new hp (.lst (rs.map V.int));refine(zg rfl (zw rfl rfl (zq rfl rfl (zg rfl ⟨st,_,_,rfl,S1,by lia,by lia,fun H2 r k2 S2 r0 r1=>?_⟩))));have hp2:=k2.k _ _ (S0.ne hp) (uX9 (H:=H) (a:=p) (o:=.lst (rs.map V.int)));have k02:=(Kp.refl.new (o:=.lst (rs.map V.int)) hp).trans k2;have ix:ixN (rs.map V.int).length r=sO r.toNat:=by
  unfold ixN;rw[iP r0,iP (by rw[ub];lia)]
 refine⟨p,_,r,r.toNat,rfl,rfl,hp2,ix,(zg rfl ?_)⟩;have es:(rs.map V.int).set r.toNat (.int (room-1))=(rs.set r.toNat (room-1)).map V.int:=by rw[List.map_set]
 show Q (.ref p) (upd H2 p (.lst ((rs.map V.int).set r.toNat (.int (room-1)))));rw[es];refine q _ p _ (k02.put hp) (Sta.put S0 hp k02 S2) hp uX9 (by simp[hl]) fun y hy=>?_;rcases List.mem_or_eq_of_mem_set hy with hy|hy
 ·exact hx y hy
 ·rw[hy]
  lia
theorem WJ{o:Wo}(h:WOk o){s:Int}(hs:s=1\/s=2):1<=(o.tags.filter fun p=>decide (V.int p.2.2=V.int s)).length/\(o.tags.filter fun p=>decide (V.int p.2.2=V.int s)).length<=3:=by
 have e:(o.tags.filter fun p=>decide (V.int p.2.2=V.int s)).length=((o.tags.map (·.2.2)).filter fun x=>decide (V.int x=V.int s)).length:=by
  rw[List.filter_map,ub]
  rfl
 rw[e,h.tk];rcases hs with rfl|rfl
 ·exact⟨by decide,by decide⟩
 ·exact⟨by decide,by decide⟩
theorem scCase:FnScope ["_law_state","_law_scope","_law_k","_law_room","_law_world_here","_law_at","_law_sort","_law_x","_law_arms","_law_tags","_law_one","_law_left","_law_names","_law_more"] lS0 (zt Jf):=.ok
theorem zcQ:(["_law_state","_law_scope","_law_k","_law_room","_law_world_here","_law_at","_law_sort","_law_x","_law_arms","_law_tags","_law_one","_law_left","_law_names","_law_more","_law_j"]:lS).Nodup:=by decide +kernel
theorem zam(F:Fun K "_law_case" "_law_case" Jf f fd)(GD:Ca P w K mg base CX0 1 "_law_draw" lS5 (spDraw K))(GN':Ca P w K mg base CX0 1 "_law_name" lS13 spNm)(GK:Ca P w K mg base CX0 2 "_law_pick" lS7 (spPick K))(GR:Ca P w K mg base CX0 2 "_law_rooms" lS14 (spRooms K))(GB:Ca P w K mg base CX0 (6+2*n) "_law_body" lS0 (spBody K n))(m_len:mg "len"=nO)(m_range:mg "range"=nO)(m_zip:mg "zip"=nO)(m_list:mg "list"=nO)(m_tuple:mg "tuple"=nO):FnOk P w K mg base CX0 (7+2*n) f fd lS0 (spCase K n):=by
 rw[show 7+2*n=(6+2*n)+1 by lia];refine F.by scCase (fun vs H Q E h=>?_) (fun cdv A outer s H vs Q E hr h=>?_)
 ·obtain⟨st,sc,w,k,a,B,room,l,o,rfl,_⟩:=h
  rfl
 obtain⟨st,sc,w0,k,a,B,room,l,o,rfl,ha,S0,hB,hSc,hl0,hW,hroom,hrn,hln,⟨hkn,hbl⟩,q⟩:=h;have hr1:Room 1 _:=hr.mono (by lia);have hr2:Room 2 _:=hr.mono (by lia);refine⟨_,
  (zh (sE 6 scCase.nd (zx yh zo (zx yU (cA GD hr1 (jA2 (jv 0) zo)) zo)))
  (zh (sE 7 scCase.nd (cA GK hr2 (jA3 (jv 0) (jv 1) (jv 6))))
  (zh (sE 8 scCase.nd (zC zL))
  (zh (VD [10] [] (i:=9) scCase.nd rfl (Or.inl rfl) rfl (zP K (zU K (jv 4))) (fun _ _ _ _ _=>(gN 10 scCase.nd)) (fun _ _ _ _ _=>(yt (tN zM (zp K (jv 10)) (jv 6)))) (fun _ _ _ _ _=>(jv 10)))
  (zh (ya PassesOwn.never rfl (yG K rfl m_zip (jA2 (jv 9) (cA GR hr2 (jA3 (jv 0) (jv 3) (yj (zD K) rfl m_len Ud (jA1 (jv 9))))))) (zK K rfl (zu (gN 10 scCase.nd) (zu (gN 11 scCase.nd) zJ)))
   (zh (yu ["_law_j"] (i:=12) scCase.nd rfl (Or.inl rfl) rfl (yz rfl m_range (jA1 (yj (zD K) rfl m_len Ud (jA1 (zp K (jv 10)))))) (fun _ _ _ _ _=>(gN 14 zcQ)) (fun _ _ _ _ _=>zW) (fun _ _ _ _ _=>(cA GN' hr1 (jA2 (jv 4) (zx yh (jv 2) (jv 14))))))
   (zh (sE 13 scCase.nd (zx yw (jv 1) (XW rfl rfl m_list rfl m_zip (jA2 (jv 12) (zp K (jv 10))))))
   (zn (yr (xg uN uV uW z6 (jv 8) (jA1 (zA (jA3 (zp K (jv 10)) (zS (zF K) rfl m_tuple uO (jA1 (jv 12))) (cA GB hr (jA6 (jv 0) (jv 13) (zx yh (jv 2) (yj (zD K) rfl m_len Ud (jA1 (jv 12)))) (jv 11) (jv 4) (jv 5))))))))))))
  (zh (zH (tN zM (cA GD hr1 (jA2 (jv 0) zo)) zo)
   (zn (yr (Xd uN PySem.F.slot_list_reverse PySem.F.type_list_reverse Xx (jv 8)))) zB)
  (zn (zv (zA (jA3 zz (jv 7) (zS (zF K) rfl m_tuple uO (jA1 (jv 8))))))))))))),?_⟩
 have sl:=zN;have LM:LIM=4611686018427387904:=rfl;refine cut4 fun r1_ hr1_=>?_;refine(zg rfl ⟨st,4,B,rfl,S0,by lia,by decide,fun H1 r k1 S1 r0 r1=>(zw rfl rfl ⟨⟨by decide,by decide⟩,(zw rfl rfl ?_)⟩)⟩);have hsort:1+r / 3=1\/1+r / 3=2:=by lia
 show(tSeq _ _:TS) _ [sR st,sR sc,sO (.int (k:Nat)),sO (.int room),sR w0,sO (.int (a:Nat)),sO (.int (1+r / 3)),nO,nO,nO,nO,nO,nO,nO] H1;generalize 1+r / 3=so at *;refine(zq rfl rfl (zg rfl ⟨st,sc,so,_,l,rfl,S1,by lia,hSc.kp S0 k1,hl0,fun H2 x k2 S2 hx=>?_⟩));refine⟨sN0,fun pa h3=>?_⟩;have k12:=k1.trans k2;have k3:=k12.new (o:=.lst []) h3;have S3:=S2.new h3 (.lst []);have npa:=S2.ne h3;have fpa:H pa=nO:=k12.free npa h3;have hpa:=uX9 (H:=H2) (a:=pa) (o:=.lst []);generalize upd H2 pa (.lst [])=H3 at *;obtain⟨⟨tl,dl,tt,ds,hw0,htl0,hdl0,hTt,hTd⟩,wok⟩:=id hW;have hw:=k3.k _ _ (S0.neW hw0) hw0;have htl:=k3.k _ _ (S0.neR htl0) htl0;have tlen:=wok.tlen;have htt:=hTt.len;refine(zg rfl (ixL hw aI2 ⟨tl,rfl,⟨_,SqL.of htl⟩,yp (xs:=tt.map V.ref) (fun j τ ys H'=>H3=H'/\(∃v,τ=[sR st,sR sc,sO (.int (k:Nat)),sO (.int room),sR w0,sO (.int (a:Nat)),sO (.int so),sO (.str x),sR pa,nO,v,nO,nO,nO])/\∃fs:List aO,ys=fs.map V.ref/\fs.length<=j/\Tri H ((o.tags.take j).filter fun p=>decide (V.int p.2.2=V.int so)) fs) ⟨rfl,⟨nO,rfl⟩,[],rfl,uK _,.nil⟩ (fun j τ ys H' _ h=>by rw[<- h.1];exact SqL.of htl) ?_ ?_⟩))
 ·rintro j v τ ys H4 hv ⟨rfl,⟨v',rfl⟩,fs,rfl,hj,hf⟩
  obtain⟨t,ht,rfl⟩:=L2.gM hv;obtain⟨z,ss,g,sq,e1,e2,e3⟩:=hTt.get ht;have hjl:j < o.tags.length:=(ud.mp e1).1;have tf:=Yn (fun p:Str×List Int×Int=>decide (V.int p.2.2=V.int so)) e1;refine(zg rfl (ixT (k3.tups S0 _ _ e2) aI2 (zg rfl ⟨rfl,(zg rfl ?_)⟩)));refine ite2 (fun c=>?_) (fun c=>?_)
  ·refine(zg rfl ⟨by rw[ub];lia,rfl,⟨_,rfl⟩,fs++[t],by simp,by simp;lia,?_⟩)
   rw[tf,iP c];exact hf.app (.cons e2 e3 .nil)
  ·refine⟨rfl,⟨_,rfl⟩,fs,rfl,by lia,?_⟩
   rw[tf,iN c,uU];exact hf
 rintro τ ys H4 ⟨rfl,_,fs,rfl,_,hf⟩ pt h4;rw[ub,<- htt,uo (uj _)]at hf;obtain⟨fl1,fl2⟩:=WJ wok hsort;have ftl:∀p∈o.tags.filter (fun p=>decide (V.int p.2.2=V.int so)),p.2.1.length<=9/\So p.2.1:=fun p hp=>wok.ts p (uI.mp hp).1;generalize o.tags.filter (fun p=>decide (V.int p.2.2=V.int so))=fl at *;have hfl:=hf.len;have S4:=S3.new h4 (.lst (fs.map V.ref));have k4:=k3.new (o:=.lst (fs.map V.ref)) h4;have hpt:=uX9 (H:=H3) (a:=pt) (o:=.lst (fs.map V.ref));have npt:pt≠pa:=(zi hpa h4).symm
 replace hpa:=old (o:=.lst (fs.map V.ref)) h4 hpa
 generalize upd H3 pt (.lst (fs.map V.ref))=H4 at *;subst hr1_;refine(zq rfl rfl (zq rfl rfl ⟨_,_,rfl,.inl (SqL.of hpt),st,room,(fs.map V.ref).length,(zg rfl ⟨hroom,by rw[ub];lia,by rw[ub];lia,S4,by lia,fun H5 pr rs k5 S5 fpr hpr hrl hrs=>?_⟩)⟩));rw[ub]at hrl;have npr:pr≠pa:=(zi hpa fpr).symm;have npt':=S4.neR hpt
 replace hpt:=k5.k _ _ npt' hpt
 replace hpa:=k5.k _ _ npa hpa
 replace k5:=k4.trans k5
 clear hw htl k4 S4;have hSc5:=hSc.kp S0 k5;have hW5:=hW.kp S0 k5;have npr':=S5.neI hpr
 let Fx:Hp->Prop:=fun H'=>(∀b u,b≠st->b≠pa->H5 b=sO u->H' b=sO u)
 have Fx.kp:∀{H1 H2:Hp},Fx H1->Kp st H1 H2->Fx H2:=fun f k b u n1 n2 h=>k.k _ _ n1 (f b u n1 n2 h);have Fx.pa:∀{H1:Hp}{o:HO},Fx H1->Fx (upd H1 pa o):=fun f b u n1 n2 h=>by rw[zj n2];exact f b u n1 n2 h
 refine⟨_,_,tV,tV,_,_,rfl,SqK.l hpt,SqK.l hpr,vw (xs:=fs.map V.ref) (ys:=rs.map V.int) (by rw[ub,ub];lia) (fun i σ H'=>Fx H'/\Kp st H H'/\Sta K H' st (B+4+i*CB n)/\(∃(as:List aO)(ar:Arms),H' pa=sO (.lst (as.map V.ref))/\as.length=i/\IsA H' ar as/\ar.sz<=i*(SZ n+10)/\ar.dp<=n/\Bnm o k 900 ar.binds/\SndA o (l.map (·.1)) ar)/\∃v1 v2 v3 v4,σ=[sR st,sR sc,sO (.int (k:Nat)),sO (.int room),sR w0,sO (.int (a:Nat)),sO (.int so),sO (.str x),sR pa,sR pt,v1,v2,v3,v4])
  ⟨fun b u _ _ h=>h,k5,(S5.mono (by lia)),⟨[],.nil,hpa,rfl,.nil,by rw[Arms.sz];lia,by rw[Arms.dp];lia,by rw[Arms.binds];exact Bnm.nil,by rw[SndA];trivial⟩,nO,nO,nO,nO,rfl⟩ (fun i σ H' _ h=>⟨SqK.l (h.1 _ _ npt' npt hpt),SqK.l (h.1 _ _ npr' npr hpr)⟩) ?_ ?_⟩
 ·rintro i v y T σ H1 hv hy hT ⟨fx,kp,S1,⟨as,ar,hpa1,hal,hA,hz,hdp,hbn,hsn⟩,v1,v2,v3,v4,rfl⟩
  rw[uh]at hv hy;obtain⟨t,ht,rfl⟩:=ug.mp hv;obtain⟨rr,hrr,rfl⟩:=ug.mp hy;have hi:i < fs.length:=(ud.mp ht).1;have hrx:=hrs rr (uw hrr);refine⟨_,_,rfl,SqT.of uX9,rfl,_,_,rfl,_,_,rfl,rfl,?_⟩;refine cutD (fun D' fin=>?_) (fun _ _ h=>h);refine cut2 fun r2_ hr2_=>?_
  replace fx:=Fx.kp fx (Kp.refl.new (o:=.tup [.ref t,.int rr]) hT)
  replace kp:=kp.new (o:=.tup [.ref t,.int rr]) hT
  replace S1:=S1.new hT (.tup [.ref t,.int rr])
  replace hpa1:=old (o:=.tup [.ref t,.int rr]) hT hpa1
  replace hA:=hA.keep (.of (zk hT (.tup [.ref t,.int rr])))
  generalize upd H1 T (.tup [.ref t,.int rr])=H6 at *;obtain⟨z,ss,g,sq,e1,e2,e3⟩:=(hf.kp S0 kp).get ht;have hss:ss.length<=9/\So ss:=ftl _ (uw e1);have hw6:=kp.k _ _ (S0.neW hw0) hw0;refine(zg rfl (ixT e2 aI1 ⟨_,_,rfl,.inl (SqL.of e3),(zg rfl ⟨by rw[ub];lia,by rw[ub];lia,yZ (n:=(ss.map V.int).length) (fun j τ ys H'=>H6=H'/\(∃v,τ=[sR st,sR sc,sO (.int (k:Nat)),sO (.int room),sR w0,sO (.int (a:Nat)),sO (.int so),sO (.str x),sR pa,sR pt,sR t,sO (.int rr),v3,v4,v])/\ys=((uM j).map fun i=>nm o.z o.b (k+i)).map V.str) ⟨rfl,⟨nO,rfl⟩,rfl⟩ ?_ ?_⟩)⟩))
  ·rintro j τ ys H7 hj ⟨rfl,⟨v,rfl⟩,rfl⟩
   rw[ub]at hj;have ek:((k:Nat):Int)+(0+(j:Nat))=((k+j:Nat):Int):=by lia
   refine(zq rfl rfl (zg rfl (zw rfl rfl ⟨w0,o.z,o.b,_,k+j,(by show[V.ref w0,V.int (((k:Nat):Int)+(0+(j:Nat)))]=_;rw[ek]),hw6,wok.z,by rw[ub,ub,US];lia,rfl,⟨_,rfl⟩,?_⟩)));rw[List.range_succ,ur,ur]
   rfl
  rintro τ ys H7 ⟨rfl,_,rfl⟩ pn hpn;rw[ub];have nl:((uM ss.length).map fun i=>nm o.z o.b (k+i)).length=ss.length:=by rw[ub,US]
  have nb:Bnm o k 900 ((uM ss.length).map fun i=>nm o.z o.b (k+i)):=fun x hx=>by
   obtain⟨j,hj,rfl⟩:=uq.mp hx
   have:=Uu.mp hj
   exact⟨k+j,UX _ _,by lia,rfl⟩
  have nnd:((uM ss.length).map fun i=>nm o.z o.b (k+i)).Nodup/\((uM ss.length).map fun i=>nm o.z o.b (k+i)).length<=16:=⟨zbq (by lia),by rw[ub,US];lia⟩;have nnw:=zcO (n:=ss.length) (by lia) hbl;have nup:=zdO (n:=ss.length) hbl;generalize (uM ss.length).map (fun i=>nm o.z o.b (k+i))=NS at *
  replace fx:=Fx.kp fx (Kp.refl.new (o:=.lst (NS.map V.str)) hpn)
  have kp7:=kp.new (o:=.lst (NS.map V.str)) hpn
  replace S1:=S1.new hpn (.lst (NS.map V.str))
  replace hpa1:=old (o:=.lst (NS.map V.str)) hpn hpa1
  replace hA:=hA.keep (.of (zk hpn (.lst (NS.map V.str))))
  replace e2:=old (o:=.lst (NS.map V.str)) hpn e2
  replace e3:=old (o:=.lst (NS.map V.str)) hpn e3
  have hpn7:=uX9 (H:=H6) (a:=pn) (o:=.lst (NS.map V.str));generalize upd H6 pn (.lst (NS.map V.str))=H7 at *;obtain⟨⟨ts,hsc,hTs⟩,scn,scs⟩:=id hSc;have htl2:=hTs.len;have npn:=S1.neS hpn7;refine(zq rfl rfl (zg rfl (ixT e2 aI1 ⟨pn,sq,_,_,rfl,.inl (SqL.of hpn7),.inl (SqL.of e3),fun H8 pz zs s8 f8 hpz hzl _ _ hpair=>?_⟩)));have tz:=Zw hzl hpair;have hzl2:zs.length=ss.length:=by rw[hzl,ub,ub];lia
  have kp8:=kp7.trans (.of s8);refine⟨sc,pz,(zw rfl rfl ⟨kp8.k _ _ (S0.neR hsc) hsc,hpz,by rw[ub,ub];lia,fun pm h9=>?_⟩)⟩;rw[<- ur];have kp9:=kp8.new (o:=.lst ((ts++zs).map V.ref)) h9;have s79:Same H7 (upd H8 pm (.lst ((ts++zs).map V.ref))):=s8.new h9;have hpm:=uX9 (H:=H8) (a:=pm) (o:=.lst ((ts++zs).map V.ref));have tz9:=tz.keep (.of (zk h9 (.lst ((ts++zs).map V.ref))));have sc9:Sc (upd H8 pm (.lst ((ts++zs).map V.ref))) (l++NS.zip ss) pm:=by
   refine⟨⟨ts++zs,hpm,(hTs.keep (kp9.tups S0)).app tz9⟩,?_,fun p hp=>?_⟩
   ·rw[uf,Ub]
    lia
   ·rcases ux.mp hp with hp|hp
    ·exact scs p hp
    ·have:=hss.2 p.2 (Uv hp).2
     lia
  replace fx:=Fx.kp fx (.of s79)
  replace S1:=S1.same s79
  replace hpa1:=s79 _ _ hpa1
  replace hA:=hA.keep (.of s79)
  replace e2:=s79 _ _ e2
  replace hpn7:=s79 _ _ hpn7
  generalize upd H8 pm (.lst ((ts++zs).map V.ref))=H9 at *;subst hr2_;refine(zg rfl ⟨.inl ⟨rfl,_,SqL.of hpa1⟩,(zg rfl (ixT e2 aI0 (zg rfl ⟨pn,(zg rfl (.inl ⟨SqL.of hpn7,fun pu h10=>?_⟩))⟩)))⟩)
  replace fx:=Fx.kp fx (Kp.refl.new (o:=.tup (NS.map V.str)) h10)
  have kp10:=kp9.new (o:=.tup (NS.map V.str)) h10
  replace S1:=S1.new h10 (.tup (NS.map V.str))
  replace hpa1:=old (o:=.tup (NS.map V.str)) h10 hpa1
  replace hA:=hA.keep (.of (zk h10 (.tup (NS.map V.str))))
  replace hpn7:=old (o:=.tup (NS.map V.str)) h10 hpn7
  replace sc9:=sc9.same (zk h10 (.tup (NS.map V.str)))
  have hpu:=uX9 (H:=H9) (a:=pu) (o:=.tup (NS.map V.str));generalize upd H9 pu (.tup (NS.map V.str))=H10 at *;have hne:l++NS.zip ss≠[]:=fun e=>hl0 (List.append_eq_nil_iff.mp e).1;have hbnd:B+4+i*CB n+CB n<=B+4+3*CB n:=by
   have:i+1<=3:=by lia
   have:=U0 (CB n) this
   rw[tw]at this;lia
  refine(zq rfl rfl (zq rfl rfl ⟨_,_,rfl,.inl (SqL.of hpn7),(zw rfl rfl (zq rfl rfl (zg rfl ⟨st,pm,w0,k+(NS.map V.str).length,a,_,rr,l++NS.zip ss,o,rfl,ha,S1,by lia,sc9,hW.kp S0 kp10,?_,?_,⟨by rw[ub];lia,by rw[ub,nl,ur,List.map_fst_zip (by lia)];exact nup⟩,fun H11 pb b k11 S11 hb hbz hbd hbb hsb=>?_⟩)))⟩))
  ·rw[iN hne]
   lia
  ·rw[uf,Ub]
   lia
  refine⟨sN3,fun tt h12=>?_⟩;have hpa11:=k11.k _ _ npa hpa1;have tp:Tups H10 (upd (upd H11 tt (.tup [.str z,.ref pu,.ref pb])) pa (.lst (as.map V.ref++[.ref tt]))):=fun p xs hp=>by
   have g:=k11.tups S1 _ _ hp;rw[zj (yn g hpa11 (by intro e;cases e))];exact old h12 g
  have tp2:Tups H11 (upd (upd H11 tt (.tup [.str z,.ref pu,.ref pb])) pa (.lst (as.map V.ref++[.ref tt]))):=fun p xs g=>by
   rw[zj (yn g hpa11 (by intro e;cases e))];exact old h12 g
  have kp12:=(kp10.trans k11).new (o:=.tup [.str z,.ref pu,.ref pb]) h12;refine⟨pa,(zw rfl rfl ⟨old h12 hpa11,by rw[ub];lia,fin _ _ ⟨Fx.pa (Fx.kp fx (k11.new h12)),kp12.put fpa,Sta.put S0 fpa kp12 ((S11.mono ?_).new h12 _),⟨as++[tt],Arms.app ar (.cons z NS b .nil),by rw[uX9];simp,by simp[hal],?_,?_,by rw[Arms.dp_app,Arms.dp,Arms.dp];lia,by rw[Arms.binds_app,Arms.binds,Arms.binds,uU];exact hbn.app (nb.app (hbb.mono (UX _ _))),hsn.app (by rw[SndA,SndA];rw[ur,List.map_fst_zip (by lia)]at hsb;exact⟨⟨⟨nnd,nnw⟩,hsb⟩,trivial⟩)⟩,_,_,_,_,rfl⟩⟩)⟩
  ·rw[tw]
   lia
  ·refine IsA.app (.cons ?_ (tp _ _ hpu) (hb.keep tp2) .nil) (hA.keep tp)
   rw[zj (zi hpa11 h12).symm];exact uX9
  ·rw[Arms.sz_app,Arms.sz,Arms.sz,tw]
   lia
 rintro σ H6 ⟨fx,kp,S6,⟨as,ar,hpa6,hal,hA,hz,hdp,hbn,hsn⟩,v1,v2,v3,v4,rfl⟩;rw[ub]at hal S6 hz;have hl3:fs.length<=3:=by lia
 have hc3:=U0 (CB n) hl3;have hz3:=U0 (SZ n+10) hl3;refine(show ∀(u:TS)(D:Ends),(∀(H':Hp)(as:List aO)(ar:Arms),Kp st H H'->Sta K H' st (B+(3*CB n+10))->H' pa=sO (.lst (as.map V.ref))->IsA H' ar as->0 < as.length->ar.sz<=3*SZ n+30->ar.dp<=n->Bnm o k 900 ar.binds->SndA o (l.map (·.1)) ar->u D [sR st,sR sc,sO (.int (k:Nat)),sO (.int room),sR w0,sO (.int (a:Nat)),sO (.int so),sO (.str x),sR pa,sR pt,v1,v2,v3,v4] H')->(tSeq _ (tSeq _ u):TS) D _ H6 from ?key) _ _ ?rest
 case key =>
  intro u D tail;refine(zg rfl ⟨st,2,(zg rfl ⟨S6,by lia,by decide,fun H7 r7 k7 S7 _ _=>?_⟩)⟩);have hpa7:=k7.k _ _ npa hpa6;have hA7:=hA.keep (k7.tups S6);have kp7:=kp.trans k7;refine⟨rfl,(zg rfl ?_)⟩;refine ite2 (fun _=>?_) (fun _=>?_)
  ·refine(zg rfl ⟨.inl ⟨rfl,_,SqL.of hpa7⟩,pa,(zg rfl ⟨rfl,hpa7,?_⟩)⟩)
   have tp:Tups H7 (upd H7 pa (.lst (as.map V.ref).reverse)):=fun p xs g=>by rw[zj (yn g hpa7 (by intro e;cases e))];exact g
   exact tail _ as.reverse ar.rev (kp7.put fpa) (Sta.put S0 fpa kp7 (S7.mono (by lia))) (by rw[uX9,List.map_reverse]) ((hA7.rev).keep tp) (by rw[UA];lia) (by rw[Arms.sz_rev];lia) (by rw[Arms.dp_rev];exact hdp) hbn.rev hsn.rev
  ·exact tail _ as ar kp7 (S7.mono (by lia)) hpa7 hA7 (by lia) (by lia) hdp hbn hsn
 case rest =>
  intro H8 as ar k8 S8 hpa8 hA8 hl8 hz8 hd8 hb8 hs8;refine(zq rfl rfl ⟨pa,(zg rfl (.inl ⟨SqL.of hpa8,fun p9 h9=>⟨sN3,fun t h10=>?_⟩⟩))⟩);refine q _ t (.case x ar) ((k8.new h9).new h10) ((S8.new h9 _).new h10 _) (.case uX9 (old h10 uX9) hl8 ((hA8.keep (.of (zk h9 _))).keep (.of (zk h10 _)))) ?_ ?_ (by rw[Bd.binds];exact hb8) (by rw[SndB];exact⟨hx,hs8⟩)
  ·rw[Bd.sz]
   lia
  ·rw[Bd.dp]
   lia
theorem scBody:FnScope ["_law_state","_law_scope","_law_k","_law_room","_law_world_here","_law_at","_law_way","_law_deed_here","_law_sort","_law_name_here","_law_rooms_here","_law_first"] lS0 (zt X3):=.ok
theorem zan(F:Fun K "_law_body" "_law_body" X3 f fd)(GD:Ca P w K mg base CX0 1 "_law_draw" lS5 (spDraw K))(GN':Ca P w K mg base CX0 1 "_law_name" lS13 spNm)(GK:Ca P w K mg base CX0 2 "_law_pick" lS7 (spPick K))(GR:Ca P w K mg base CX0 2 "_law_rooms" lS14 (spRooms K))(GE:Ca P w K mg base CX0 5 "_law_deed" lS9 (spDeed K))(GC:Ca P w K mg base CX0 (7+2*n) "_law_case" lS0 (spCase K n))(GB:Ca P w K mg base CX0 (6+2*n) "_law_body" lS0 (spBody K n)):FnOk P w K mg base CX0 (6+2*(n+1)) f fd lS0 (spBody K (n+1)):=by
 rw[show 6+2*(n+1)=(7+2*n)+1 by lia];refine F.by scBody (fun vs H Q E h=>?_) (fun cdv A outer s H vs Q E hr h=>?_)
 ·obtain⟨st,sc,w,k,a,B,room,l,o,rfl,_⟩:=h
  rfl
 obtain⟨st,sc,w0,k,a,B,room,l,o,rfl,ha,S0,hB,hSc,hW,hme,hln,⟨hkn,hbl⟩,q⟩:=h;have hr1:Room 1 _:=hr.mono (by lia);have hr2:Room 2 _:=hr.mono (by lia);have hr5:Room 5 _:=hr.mono (by lia);have hrB:Room (6+2*n) _:=hr.mono (by lia);refine⟨_,
  (zh (sE 6 scBody.nd (cA GD hr1 (jA2 (jv 0) zo)))
  (zh (zH (jW.pt (xD (tN (VH hr) (jv 1) (zC zL)) (xt (jW.pt (vj (tN zbd (jv 3) zo) (x9 (tN zM (jv 6) zo)))))))
   (zn (zv (zA (jA2 zz (cA GK hr2 (jA3 (jv 0) (jv 1) (zp K (xX (zV K) (zU K (jv 4)) (jv 5))))))))) zB)
  (zh (zH (jW.pt (vj (tN (Xh hr) (jv 1) (zC zL)) (vj (tN zbd (jv 3) zo) (x9 (tN vk (jv 6) zo)))))
   (zh (xa (cA GE hr5 (jA4 (jv 0) (jv 1) (jv 4) (jv 5))) (zK K rfl (zu (gN 7 scBody.nd) (zu (gN 8 scBody.nd) zJ))))
   (zh (sE 9 scBody.nd (cA GN' hr1 (jA2 (jv 4) (jv 2))))
   (zn (zv (zA (jA4 zz (jv 9) (jv 7) (cA GB hrB (jA6 (jv 0) (zx yw (jv 1) (zC (jA1 (zA (jA2 (jv 9) (jv 8)))))) (zx yh (jv 2) zo) (zx xu (jv 3) zo) (jv 4) (jv 5))))))))) zB)
  (zh (zH (tN jH (jv 6) zo)
   (zn (zv (cA GC hr (jA6 (jv 0) (jv 1) (jv 2) (jv 3) (jv 4) (jv 5))))) zB)
  (zh (sE 10 scBody.nd (cA GR hr2 (jA3 (jv 0) (jv 3) zo)))
  (zh (sE 11 scBody.nd (cA GB hrB (jA6 (jv 0) (jv 1) (jv 2) (zU K (jv 10)) (jv 4) (jv 5))))
  (zn (zv (zA (jA4 zz (cA GK hr2 (jA3 (jv 0) (jv 1) zo)) (jv 11) (cA GB hrB (jA6 (jv 0) (jv 1) (jv 2) (zU K (jv 10)) (jv 4) (jv 5))))))))))))),?_⟩
 have sl:=zN;have LM:LIM=4611686018427387904:=rfl;have cb:CB (n+1)=3*CB n+300:=rfl;have sz:SZ (n+1)=3*SZ n+40:=rfl;rw[cb]at hB q;rw[sz]at q;obtain⟨⟨ts,hsc,hT⟩,scn,scs⟩:=id hSc;have htl:=hT.len;have h0:l=[]↔ts=[]:=by
  rw[<- Ug,<- Ug,htl]
 refine(show ∀(uG uL uR:TS)(D:Ends),D.rt=Q->(∀(D':Ends)(H':Hp)(r:Int),D'.rt=Q->l≠[]->Kp st H H'->Sta K H' st (B+1)->uG D' [sR st,sR sc,sO (.int (k:Nat)),sO (.int room),sR w0,sO (.int (a:Nat)),sO (.int r),nO,nO,nO,nO,nO] H')->(∀(D':Ends)(H':Hp)(r:Int),D'.rt=Q->(l≠[]->1<=room)->Kp st H H'->Sta K H' st (B+1)->uL D' [sR st,sR sc,sO (.int (k:Nat)),sO (.int room),sR w0,sO (.int (a:Nat)),sO (.int r),nO,nO,nO,nO,nO] H')->(∀(H':Hp)(r:Int),l≠[]->1<=room->Kp st H H'->Sta K H' st (B+1)->uR D [sR st,sR sc,sO (.int (k:Nat)),sO (.int room),sR w0,sO (.int (a:Nat)),sO (.int r),nO,nO,nO,nO,nO] H')->(tSeq _ (tSeq (tIfS _ uG xA) (tSeq (tIfS _ uL xA) uR)):TS) D _ H from ?key) _ _ _ _ rfl ?g ?l ?r
 case key =>
  intro uG uL uR D hD hG hL hR;refine(zg rfl ⟨st,8,B,rfl,S0,by lia,by decide,fun H1 r k1 S1 r0 r1=>?_⟩);refine(zg rfl ⟨sN0,fun pe h2=>?_⟩);have k2:=k1.new (o:=.lst []) h2;have S2:=S1.new h2 (.lst []);have hsc2:=k2.k _ _ (S0.neR hsc) hsc;refine⟨_,_,_,rfl,rfl,SqL.of hsc2,SqL.of uX9,(zg rfl ?_)⟩;show if(if tV=tV then !(ts.map V.ref).isEmpty else(ts.map V.ref).isEmpty)=tV then _ else _
  generalize upd H1 pe (.lst [])=H2 at *;have test3:∀(b:Bool),(ts.map V.ref).isEmpty=b->True:=fun _ _=>trivial;by_cases he:ts=[]
  ·have e0:(ts.map V.ref).isEmpty=tV:=by rw[he];rfl
   rw[e0];refine iteF ?_;refine(zg rfl ⟨sN0,fun pe3 h3=>?_⟩);have k3:=k2.new (o:=.lst []) h3;have S3:=S2.new h3 (.lst []);refine⟨_,_,_,rfl,rfl,SqL.of (old h3 hsc2),SqL.of uX9,(zg rfl ?_)⟩;show if(if fO=tV then !(ts.map V.ref).isEmpty else(ts.map V.ref).isEmpty)=tV then _ else _
   rw[e0];exact iteT (hL _ _ r hD (fun e=>absurd (h0.mpr he) e) k3 S3)
  ·have e0:(ts.map V.ref).isEmpty=fO:=by
    cases ts with
    |nil=>exact absurd rfl he
    |cons _ _=>rfl
   have hl0:l≠[]:=fun e=>he (h0.mp e);rw[e0];refine iteT ?_;refine(zg rfl (zw rfl rfl (zg rfl ?_)));refine ite2 (fun _=>hG _ _ r hD hl0 k2 S2) (fun c=>?_);rw[dA]at c;have hroom:1<=room:=by lia
   refine(zg rfl ⟨rfl,(zg rfl ?_)⟩);refine ite2 (fun _=>hG _ _ r hD hl0 k2 S2) (fun _=>?_);refine(zg rfl ⟨sN0,fun pe3 h3=>?_⟩);have k3:=k2.new (o:=.lst []) h3;have S3:=S2.new h3 (.lst []);refine⟨_,_,_,rfl,rfl,SqL.of (old h3 hsc2),SqL.of uX9,(zg rfl ?_)⟩;show if(if fO=tV then !(ts.map V.ref).isEmpty else(ts.map V.ref).isEmpty)=tV then _ else _
   rw[e0];refine iteF ?_;refine(zg rfl (zw rfl rfl (zg rfl ?_)));refine ite2 (fun _=>hL _ _ r hD (fun _=>hroom) k3 S3) (fun _=>?_);refine(zg rfl (zw rfl rfl (zg rfl ?_)));exact ite2 (fun _=>hL _ _ r hD (fun _=>hroom) k3 S3) (fun _=>hR _ r hl0 hroom k3 S3)
 case g =>
  intro D' H1 r hD hl0 k1 S1;obtain⟨⟨tl,dl,tt,ds,hw,htl1,hdl,hTt,hTd⟩,wok⟩:=hW.kp S0 k1;have dlen:=wok.dlen;have hdl2:=hTd.len;obtain⟨t,ht⟩:∃t,ds[a]?=sO t:=⟨_,ui (by lia)⟩;obtain⟨z,ss,g,sq,e1,e2,e3⟩:=hTd.get ht;have htr:(ds.map V.ref)[a]?=sO (.ref t):=by rw[uh,ht];rfl
  refine(zq rfl rfl (zg rfl (ixL hw aI3 (zg rfl ⟨dl,_,_,_,rfl,rfl,SqL.of hdl,yo htr,ixT e2 aI2 ⟨st,sc,g,_,l,rfl,S1,by lia,hSc.kp S0 k1,hl0,fun H2 x k2 S2 hx=>⟨sN2,fun t1 h3=>?_⟩⟩⟩))));rw[hD];exact q _ t1 (.give x) ((k1.trans k2).new h3) ((S2.mono (by lia)).new h3 _) (.give uX9) (by rw[Bd.sz];lia) (by rw[Bd.dp];lia) (by rw[Bd.binds];exact Bnm.nil) (by rw[SndB];exact hx)
 case l =>
  intro D' H1 r hD hroom k1 S1;refine(zq rfl rfl (zq rfl rfl ⟨st,sc,w0,_,l,o,a,rfl,ha,S1,by lia,hSc.kp S0 k1,hW.kp S0 k1,fun H2 p p' d g k2 S2 hp hd g0 g1 hcal hu=>?_⟩));refine⟨_,_,rfl,SqT.of hp,rfl,_,_,rfl,_,_,rfl,rfl,?_⟩;have k12:=k1.trans k2;obtain⟨⟨tl,dl,tt,ds,hw,htl1,hdl,hTt,hTd⟩,wok⟩:=hW.kp S0 k12;refine(zq rfl rfl ⟨w0,o.z,o.b,_,k,rfl,hw,wok.z,?_⟩);generalize hy:nm o.z o.b k=y;refine(zq rfl rfl (zq rfl rfl (zq rfl rfl ⟨sN2,fun t1 h3=>⟨sN1,fun pl h4=>?_⟩⟩)));have k3:=k12.new (o:=.tup [.str y,.int g]) h3;have k4:=k3.new (o:=.lst [.ref t1]) h4;refine⟨sc,pl,(zw rfl rfl ⟨k4.k _ _ (S0.neR hsc) hsc,uX9,by rw[ub];show _+1<=_;lia,fun pm h5=>?_⟩)⟩;have em:ts.map V.ref++[V.ref t1]=(ts++[t1]).map V.ref:=by rw[ur];rfl
  rw[em];have k5:=k4.new (o:=.lst ((ts++[t1]).map V.ref)) h5;have S5:=((S2.new h3 (.tup [.str y,.int g])).new h4 (.lst [.ref t1])).new h5 (.lst ((ts++[t1]).map V.ref));have hd5:=(((hd.keep (.of (zk h3 (.tup [.str y,.int g])))).keep (.of (zk h4 (.lst [.ref t1])))).keep (.of (zk h5 (.lst ((ts++[t1]).map V.ref)))));have ht1:=old (o:=.lst ((ts++[t1]).map V.ref)) h5 (old (o:=.lst [.ref t1]) h4 (uX9 (H:=H2) (a:=t1) (o:=.tup [.str y,.int g])));have hpm:=uX9 (H:=upd (upd H2 t1 (.tup [.str y,.int g])) pl (.lst [.ref t1])) (a:=pm) (o:=.lst ((ts++[t1]).map V.ref));generalize upd (upd (upd H2 t1 (.tup [.str y,.int g])) pl (.lst [.ref t1])) pm (.lst ((ts++[t1]).map V.ref))=H5 at *;have sc5:Sc H5 (l++[(y,g)]) pm:=by
   refine⟨⟨ts++[t1],hpm,(hT.keep (k5.tups S0)).app (.cons ht1 .nil)⟩,?_,fun x hx=>?_⟩
   ·rw[uf,uY]
    lia
   ·rcases ux.mp hx with hx|hx
    ·exact scs x hx
    ·rw[uk.mp hx]
     exact⟨g0,g1⟩
  refine(zg rfl (zw rfl rfl (zg rfl (zw rfl rfl (zq rfl rfl ⟨st,pm,w0,k+1,a,_,room-1,l++[(y,g)],o,rfl,ha,S5,by lia,sc5,hW.kp S0 k5,?_,?_,⟨by lia,by rw[ur];exact zcP hbl hy⟩,fun H6 pb b k6 S6 hb hbz hbd hbb hsb=>⟨sN4,fun t2 h7=>?_⟩⟩)))))
  ·rw[iN (by simp)]
   by_cases e:l=[]
   ·rw[iP e]at hme
    lia
   ·rw[iN e]at hme
    have:=hroom e
    lia
  ·rw[uf,uY]
   lia
  rw[hD];exact q _ t2 (.lt y d b) ((k5.trans k6).new h7) ((S6.mono (by lia)).new h7 _) (.lt uX9 ((hd5.keep (k6.tups S5)).keep (.of (zk h7 _))) (hb.keep (.of (zk h7 _)))) (by rw[Bd.sz];lia) (by rw[Bd.dp];lia) (by rw[Bd.binds];exact fun x hx=>(uy.mp hx).elim (fun e=>⟨k,uj _,by lia,by rw[e,hy]⟩) (hbb.mono (Nat.le_succ _) x)) (by rw[SndB];rw[ur]at hsb;exact⟨⟨hu,zak (by lia) hbl hy,hcal⟩,hsb⟩)
 case r =>
  intro H1 r hl0 hroom k1 S1;rw[iN hl0]at hme;refine(zg rfl (zw rfl rfl (zg rfl ?_)));refine ite2 (fun _=>?_) (fun _=>?_)
  ·refine(zq rfl rfl (zq rfl rfl (zq rfl rfl ⟨st,sc,w0,k,a,_,room,l,o,rfl,ha,S1,by lia,hSc.kp S0 k1,hl0,hW.kp S0 k1,hroom,by lia,by lia,⟨by lia,hbl⟩,fun H2 p b k2 S2 hb hbz hbd hbb hsb=>?_⟩)))
   exact q _ p b (k1.trans k2) (S2.mono (by lia)) hb (by lia) hbd hbb hsb
  refine(zq rfl rfl ⟨st,room,2,(zg rfl ⟨hroom,by decide,by decide,S1,by lia,fun H2 pr rs k2 S2 f2 hpr hrl hrs=>?_⟩)⟩);have k12:=k1.trans k2;obtain⟨r1,r2,rfl⟩:∃r1 r2,rs=[r1,r2]:=by
   match rs,hrl with
   |[x,y],_=>exact⟨x,y,rfl⟩
  have hr1':=hrs r1 (by simp);have hr2':=hrs r2 (by simp);refine(zq rfl rfl (zq rfl rfl (ixL hpr aI0 (zq rfl rfl ⟨st,sc,w0,k,a,_,r1,l,o,rfl,ha,S2,by lia,hSc.kp S0 k12,hW.kp S0 k12,?_,by lia,⟨by lia,hbl⟩,fun H3 p1 b1 k3 S3 hb1 hz1 hd1 hn1 hs1=>?_⟩))))
  ·rw[iN hl0]
   lia
  have k13:=k12.trans k3;have hpr3:=k3.k _ _ (S2.neI hpr) hpr;refine(zq rfl rfl ⟨st,sc,0,_,l,rfl,S3,by lia,hSc.kp S0 k13,hl0,fun H4 x k4 S4 hx=>?_⟩);have k14:=k13.trans k4;refine(zq rfl rfl (zq rfl rfl (zg rfl (ixL (k4.k _ _ (S3.neI hpr3) hpr3) aI1 (zq rfl rfl ⟨st,sc,w0,k,a,_,r2,l,o,rfl,ha,S4,by lia,hSc.kp S0 k14,hW.kp S0 k14,?_,by lia,⟨by lia,hbl⟩,fun H5 p2 b2 k5 S5 hb2 hz2 hd2 hn2 hs2=>⟨sN4,fun t2 h7=>?_⟩⟩)))))
  ·rw[iN hl0]
   lia
  exact q _ t2 (.iff x b1 b2) ((k14.trans k5).new h7) ((S5.mono (by lia)).new h7 _) (.iff uX9 (((hb1.keep (k4.tups S3)).keep (k5.tups S4)).keep (.of (zk h7 _))) (hb2.keep (.of (zk h7 _)))) (by rw[Bd.sz];lia) (by rw[Bd.dp];lia) (by rw[Bd.binds];exact hn1.app hn2) (by rw[SndB];exact⟨hx,hs1,hs2⟩)
structure Df where
 z:Str
 ns:lS
 b:Bd
structure IsF(H:Hp)(d:Df)(p:aO):Prop where
 ex:∃q pb,H p=sO (.tup [.str d.z,.ref q,.ref pb])/\H q=sO (.tup (d.ns.map V.str))/\IsB H d.b pb
theorem IsF.keep{d:Df}(h:IsF H d p)(t:Tups H H'):IsF H' d p:=by obtain⟨q,pb,h1,h2,h3⟩:=h.ex;exact⟨q,pb,t _ _ h1,t _ _ h2,h3.keep t⟩
inductive IsFs(H:Hp):List Df->List aO->Prop
 |nil:IsFs H [] []
 |cons {d:Df} {p:aO} {ds:List Df} {ps:List aO}:IsF H d p->IsFs H ds ps->IsFs H (d::ds) (p::ps)
theorem IsFs.keep{d:List Df}{p:List aO}(h:IsFs H d p)(t:Tups H H'):IsFs H' d p:=by
 induction h with
 |nil=>exact .nil
 |cons a _ ih=>exact .cons (a.keep t) ih
theorem IsFs.app{a b:List Df}{p:List aO}(h:IsFs H a p)(g:IsFs H b q):IsFs H (a++b) (p++q):=by
 induction h with
 |nil=>exact g
 |cons x _ ih=>exact .cons x ih
theorem IsFs.len{l:List Df}(h:IsFs H l ts):l.length=ts.length:=by
 induction h with
 |nil=>rfl
 |cons _ _ ih=>rw[um,um,ih]
theorem IsFs.get{H:Hp}:∀{l:List Df}{ts:List aO}{i:Nat}{t:aO},IsFs H l ts->ts[i]?=sO t->∃d,l[i]?=sO d/\IsF H d t
 |_,_,_,_,.nil,e=>by simp at e
 |_,_,0,_,.cons a _,e=>by
  simp at e
  subst e;exact(zg rfl (a))
 |_,_,i+1,_,.cons _ b,e=>by
  obtain⟨d,h1,h2⟩:=IsFs.get (i:=i) b (by simpa using e);exact⟨d,by simpa using h1,h2⟩
def FOk(n:Nat)(d:Df):Prop:=d.ns.length<=3/\d.b.sz<=SZ n/\d.b.dp<=n
structure FNm(o:Wo)(d:Df):Prop where
 n:d.ns=(uM d.ns.length).map fun i=>nm o.z o.b i
 b:Bnm o d.ns.length 900 d.b.binds
 sn:SndB o d.ns d.b
 s:∃s∈o.defs,s.1=d.z/\s.2.1.length=d.ns.length
inductive spDef(K:uc)(n:Nat)(vs:List V)(H:Hp)(Q:VK)(e_3:XK):Prop
 |mk (st:aO) (w:aO) (a:Nat) (B:Nat) (room:Int):(∃o:Wo,vs=[.ref st,.ref w,.int (a:Nat),.int room]/\a < 3/\Sta K H st B/\B+CB n < LIM/\IsW H o w/\room.toNat+2<=n/\10*n<=800/\∀(H':Hp)(p:aO)(d:Df),Kp st H H'->Sta K H' st (B+CB n)->IsF H' d p->FOk n d/\FNm o d->d.z=nm o.z o.b (2-a)->Q (.ref p) H')->spDef K n vs H Q e_3
def kd(o:Wo):List (Str×Int):=o.tags.map fun t=>(t.1,((t.2.1.length:Nat):Int))
inductive spKinds(vs:List V)(H:Hp)(Q:VK)(e_3:XK):Prop
 |mk (w:aO):(∃o:Wo,vs=[.ref w]/\IsW H o w/\∀(H':Hp)(p p1 p2:aO)(t1 t2:List aO),Same H H'->H' p=sO (.tup [.ref p1,.ref p2])->H' p1=sO (.tup (t1.map V.ref))->H' p2=sO (.tup (t2.map V.ref))->Tps H' ((kd o).take 3) t1->Tps H' ((kd o).drop 3) t2->Q (.ref p) H')->spKinds vs H Q e_3
inductive spProgram(K:uc)(n:Nat)(vs:List V)(H:Hp)(Q:VK)(e_3:XK):Prop
 |mk (st:aO) (w:aO) (B:Nat) (room:Int):(∃o:Wo,vs=[.ref st,.ref w,.int room]/\Sta K H st B/\B+3*CB n < LIM/\IsW H o w/\room.toNat+2<=n/\10*n<=800/\∀(H':Hp)(p pk pd p1 p2:aO)(t1 t2 ds:List aO)(dfs:List Df),Kp st H H'->Sta K H' st (B+3*CB n)->H' p=sO (.tup [.ref pk,.ref pd])->H' pk=sO (.tup [.ref p1,.ref p2])->H' p1=sO (.tup (t1.map V.ref))->H' p2=sO (.tup (t2.map V.ref))->Tps H' ((kd o).take 3) t1->Tps H' ((kd o).drop 3) t2->H' pd=sO (.tup (ds.map V.ref))->IsFs H' dfs ds->ds.length=3->(∀d∈dfs,FOk n d/\FNm o d)->dfs.map (·.z)=(uM 3).map (fun k=>nm o.z o.b (2-k))->Q (.ref p) H')->spProgram K n vs H Q e_3
theorem Tps.take{l:List (Str×Int)}(h:Tps H l ts)(n:Nat):Tps H (l.take n) (ts.take n):=by
 induction h generalizing n with
 |nil=>rw[List.take_nil,List.take_nil];exact .nil
 |cons a _ ih =>
  cases n with
  |zero=>exact .nil
  |succ n=>rw[List.take_succ_cons,List.take_succ_cons];exact .cons a (ih n)
theorem Tps.drop{l:List (Str×Int)}(h:Tps H l ts)(n:Nat):Tps H (l.drop n) (ts.drop n):=by
 induction h generalizing n with
 |nil=>rw[List.drop_nil,List.drop_nil];exact .nil
 |cons a b ih =>
  cases n with
  |zero=>exact .cons a b
  |succ n=>rw[List.drop_succ_cons,List.drop_succ_cons];exact ih n
theorem Yq{α:Type}{f:α->V}{s:List α}{m:Int}(h:0<=m):cutV (s.map f) (sO m) nO=(s.drop m.toNat).map f:=by
 unfold cutV;have c2:HT.sIx (s.map f).length (s.map f).length nO=(s.map f).length:=rfl;have c1:HT.sIx (s.map f).length 0 (sO m)=min m.toNat (s.map f).length:=by
  show(if m < 0 then(m+((s.map f).length:Nat)).toNat else min m.toNat (s.map f).length)=_;rw[iN (by lia)]
 rw[c1,c2,List.map_drop];rcases Nat.le_total m.toNat (s.map f).length with c|c
 ·rw[Nat.min_eq_left c]
  exact uo (by simp)
 ·rw[Nat.min_eq_right c,List.drop_of_length_le (uj _),List.drop_of_length_le c]
  exact List.take_nil
theorem Jp(F:Fun K "_law_body" "_law_body" X3 f fd):FnOk P w K mg base CX0 (6+2*0) f fd lS0 (spBody K 0):=by
 refine F.by scBody (fun vs H Q E h=>?_) (fun cdv A outer s H vs Q E hr h=>?_)
 ·obtain⟨st,sc,w,k,a,B,room,l,o,rfl,_⟩:=h
  rfl
 ·obtain⟨st,sc,w,k,a,B,room,l,o,rfl,_,_,_,_,_,hme,_⟩:=h
  lia
theorem scDef:FnScope ["_law_state","_law_world_here","_law_at","_law_room","_law_name_here","_law_sorts_here","_law_gives","_law_params"] lS11 (zt sDef):=.ok
theorem zdP:(["_law_state","_law_world_here","_law_at","_law_room","_law_name_here","_law_sorts_here","_law_gives","_law_params","_law_k"]:lS).Nodup:=by decide +kernel
theorem zcR(F:Fun K "_law_def" "_law_def" sDef f fd)(GN':Ca P w K mg base CX0 1 "_law_name" lS13 spNm)(GB:Ca P w K mg base CX0 (6+2*n) "_law_body" lS0 (spBody K n))(m_len:mg "len"=nO)(m_range:mg "range"=nO)(m_zip:mg "zip"=nO)(m_list:mg "list"=nO)(m_tuple:mg "tuple"=nO):FnOk P w K mg base CX0 (7+2*n) f fd lS11 (spDef K n):=by
 rw[show 7+2*n=(6+2*n)+1 by lia];refine F.by scDef (fun vs H Q E h=>?_) (fun cdv A outer s H vs Q E hr h=>?_)
 ·obtain⟨st,w,a,B,room,o,rfl,_⟩:=h
  rfl
 obtain⟨st,w0,a,B,room,o,rfl,ha,S0,hB,hW,hroom,hn,q⟩:=h;have hr1:Room 1 _:=hr.mono (by lia);refine⟨_,
  (zh (xa (xX (zV K) (zU K (jv 1)) (jv 2)) (zK K rfl (zu (gN 4 scDef.nd) (zu (gN 5 scDef.nd) (zu (gN 6 scDef.nd) zJ)))))
  (zh (yu ["_law_k"] (i:=7) scDef.nd rfl (Or.inl rfl) rfl (yz rfl m_range (jA1 (yj (zD K) rfl m_len Ud (jA1 (jv 5))))) (fun _ _ _ _ _=>(gN 8 zdP)) (fun _ _ _ _ _=>zW) (fun _ _ _ _ _=>(cA GN' hr1 (jA2 (jv 1) (jv 8)))))
  (zn (zv (zA (jA3 (jv 4) (zS (zF K) rfl m_tuple uO (jA1 (jv 7))) (cA GB hr (jA6 (jv 0) (XW rfl rfl m_list rfl m_zip (jA2 (jv 7) (jv 5))) (yj (zD K) rfl m_len Ud (jA1 (jv 5))) (jv 3) (jv 1) (jv 2))))))))),?_⟩
 have sl:=zN;have LM:LIM=4611686018427387904:=rfl;obtain⟨⟨tl,dl,tt,ds,hw,htl1,hdl,hTt,hTd⟩,wok⟩:=id hW;have dlen:=wok.dlen;have hdl2:=hTd.len;obtain⟨t,ht⟩:∃t,ds[a]?=sO t:=⟨_,ui (by lia)⟩;obtain⟨z,ss,g,sq,e1,e2,e3⟩:=hTd.get ht;have wd:ss.length<=3/\So ss/\0<=g/\g<=2:=wok.ds _ (uw e1);have htr:(ds.map V.ref)[a]?=sO (.ref t):=by rw[uh,ht];rfl
 refine(zg rfl (ixL hw aI3 (zg rfl ⟨dl,_,_,_,rfl,rfl,SqL.of hdl,yo htr,_,_,rfl,SqT.of e2,rfl,_,_,rfl,_,_,rfl,_,_,rfl,rfl,?_⟩)));refine(zg rfl ⟨_,_,rfl,.inl (SqL.of e3),(zg rfl ⟨by rw[ub];lia,by rw[ub];lia,yZ (n:=(ss.map V.int).length) (fun j τ ys H'=>H=H'/\(∃v,τ=[sR st,sR w0,sO (.int (a:Nat)),sO (.int room),sO (.str z),sR sq,sO (.int g),nO,v])/\ys=((uM j).map fun i=>nm o.z o.b i).map V.str) ⟨rfl,⟨nO,rfl⟩,rfl⟩ ?_ ?_⟩)⟩)
 ·rintro j τ ys H7 hj ⟨rfl,⟨v,rfl⟩,rfl⟩
  rw[ub]at hj;refine(zq rfl rfl ⟨w0,o.z,o.b,_,j,(by show[V.ref w0,V.int (0+(j:Nat))]=_;rw[Int.zero_add]),hw,wok.z,by rw[ub,ub,US];lia,rfl,⟨_,rfl⟩,?_⟩);rw[List.range_succ,ur,ur]
  rfl
 rintro τ ys H7 ⟨rfl,_,rfl⟩ pn hpn;rw[ub];have nl:((uM ss.length).map fun i=>nm o.z o.b i).length=ss.length:=by rw[ub,US]
 generalize eNS:(uM ss.length).map (fun i=>nm o.z o.b i)=NS at *;refine(zq rfl rfl ⟨pn,(zg rfl (.inl ⟨SqL.of uX9,fun pu hpu=>?_⟩))⟩);have s2:Same H (upd (upd H pn (.lst (NS.map V.str))) pu (.tup (NS.map V.str))):=(zk hpn _).new hpu;have hpn2:=old (o:=.tup (NS.map V.str)) hpu (uX9 (H:=H) (a:=pn) (o:=.lst (NS.map V.str)));have hpu2:=uX9 (H:=upd H pn (.lst (NS.map V.str))) (a:=pu) (o:=.tup (NS.map V.str));generalize upd (upd H pn (.lst (NS.map V.str))) pu (.tup (NS.map V.str))=H2 at *;refine(zq rfl rfl (zg rfl ⟨pn,sq,_,_,rfl,.inl (SqL.of hpn2),.inl (SqL.of (s2 _ _ e3)),fun H3 pz zs s3 f3 hpz hzl _ _ hpair=>?_⟩));have tz:=Zw hzl hpair;have s13:=s2.trans s3;have sc3:Sc H3 (NS.zip ss) pz:=by
  refine⟨⟨zs,hpz,tz⟩,?_,fun p hp=>?_⟩
  ·rw[Ub]
   lia
  ·have:=wd.2.1 p.2 (Uv hp).2
   lia
 refine(zg rfl ⟨_,_,rfl,.inl (SqL.of (s13 _ _ e3)),(zq rfl rfl (zg rfl ⟨st,pz,w0,(ss.map V.int).length,a,B,room,NS.zip ss,o,rfl,ha,S0.same s13,hB,sc3,hW.same s13,?_,?_,⟨by rw[ub];lia,(by rw[ub,List.map_fst_zip (by lia)];intro x hx;rw[<- eNS]at hx;obtain⟨j,hj,rfl⟩:=uq.mp hx;exact⟨j,uK _,Uu.mp hj,rfl⟩)⟩,fun H4 pb b k4 S4 hb hbz hbd hbb hsb=>⟨sN3,fun t4 h5=>?_⟩⟩))⟩)
 ·split<;>lia
 ·rw[Ub]
  lia
 have ez:z=nm o.z o.b (2-a):=by
  have h1:(o.defs.map (·.1))[a]?=sO z:=by rw[uh,e1];rfl
  rw[wok.dn,uh,tM ha]at h1;exact(uX.inj h1).symm
 refine q _ t4 ⟨z,NS,b⟩ (((Kp.of s13).trans k4).new h5) (S4.new h5 _) ⟨pu,pb,uX9,old h5 (k4.tups (S0.same s13) _ _ (s3 _ _ hpu2)),hb.keep (.of (zk h5 _))⟩ ⟨⟨by show NS.length<=3;lia,hbz,hbd⟩,⟨by show NS=(uM NS.length).map _;rw[nl];exact eNS.symm,by show Bnm o NS.length 900 b.binds;rw[ub]at hbb;rw[nl];exact hbb,(by show SndB o NS b;rw[List.map_fst_zip (by lia)]at hsb;exact hsb),⟨_,uw e1,rfl,nl.symm⟩⟩⟩ ez
theorem scKinds:FnScope ["_law_world_here","_law_some"] ["_law_world_here"] (zt Xq):=.ok
theorem Zx:(["_law_world_here","_law_some","_law_tag","_law_sorts_here","_law_kind"]:lS).Nodup:=by decide +kernel
theorem Jq(F:Fun K "_law_kinds" "_law_kinds" Xq f fd)(m_len:mg "len"=nO)(m_tuple:mg "tuple"=nO):FnOk P w K mg base CX0 1 f fd ["_law_world_here"] spKinds:=by
 refine F.by scKinds (fun vs H Q E h=>?_) (fun cdv A outer s H vs Q E hr h=>?_)
 ·obtain⟨w,o,rfl,_⟩:=h
  rfl
 obtain⟨w0,o,rfl,hW,q⟩:=h;refine⟨_,
  (zh (yu ["_law_tag","_law_sorts_here","_law_kind"] (i:=1) scKinds.nd rfl (Or.inl rfl) rfl (zP K (zU K (jv 0))) (fun _ _ _ _ _=>(zK K (n:=3) rfl (zu (gN 2 Zx) (zu (gN 3 Zx) (zu (gN 4 Zx) zJ))))) (fun _ _ _ _ _=>zW) (fun _ _ _ _ _=>(zA (jA2 (jv 2) (yj (zD K) rfl m_len Ud (jA1 (jv 3)))))))
  (zn (zv (zA (jA2 (zS (zF K) rfl m_tuple uO (jA1 (yC (xF K) (jv 1) yM (yN zo)))) (zS (zF K) rfl m_tuple uO (jA1 (yC (xF K) (jv 1) (yN zo) yM)))))))),?_⟩
 have sl:=zN;obtain⟨⟨tl,dl,tt,ds,hw,htl1,hdl,hTt,hTd⟩,wok⟩:=id hW;have tlen:=wok.tlen;have htt:=hTt.len;refine(zg rfl (ixL hw aI2 ⟨tl,rfl,⟨_,SqL.of htl1⟩,yp (xs:=tt.map V.ref) (fun j τ ys H'=>Same H H'/\(∃u v x,τ=[sR w0,nO,u,v,x])/\∃ps:List aO,ys=ps.map V.ref/\Tps H' ((kd o).take j) ps) ⟨Same.refl _,⟨nO,nO,nO,rfl⟩,[],rfl,.nil⟩ (fun j τ ys H' _ h=>SqL.of (h.1 _ _ htl1)) ?_ ?_⟩))
 ·rintro j v τ ys H1 hv ⟨s1,⟨u,v',x,rfl⟩,ps,rfl,hp⟩
  obtain⟨t,ht,rfl⟩:=L2.gM hv;obtain⟨z,ss,g,sq,e1,e2,e3⟩:=hTt.get ht;have hj:j < o.tags.length:=(ud.mp e1).1;have hpl:=hp.len;rw[ut]at hpl;refine⟨_,_,rfl,SqT.of (s1 _ _ e2),rfl,_,_,rfl,_,_,rfl,_,_,rfl,rfl,(zq rfl rfl ⟨_,_,rfl,.inl (SqL.of (s1 _ _ e3)),sN2,fun t1 h2=>⟨?_,s1.new h2,⟨_,_,_,rfl⟩,ps++[t1],by simp,?_⟩⟩)⟩
  ·rw[ub]
   lia
  ·have ek:(kd o)[j]?=sO (z,((ss.length:Nat):Int)):=by
    unfold kd;rw[uh,e1]
    rfl
   rw[uD,ek];refine(hp.keep (.of (zk h2 _))).app (.cons ?_ .nil);rw[uX9,ub]
 rintro τ ys H1 ⟨s1,_,ps,rfl,hp⟩ p1 h1;have kl:(kd o).length=4:=by unfold kd;rw[ub];exact tlen
 rw[ub,<- htt,uo (by lia)]at hp;refine(zq rfl rfl ⟨_,_,rfl,SqL.of uX9,fun pa ha=>⟨pa,(zg rfl (.inl ⟨SqL.of uX9,fun pb hb=>?_⟩))⟩⟩);refine(zq rfl rfl ⟨_,_,rfl,SqL.of (old hb (old ha uX9)),fun pc hc=>⟨pc,(zg rfl (.inl ⟨SqL.of uX9,fun pe he=>⟨sN2,fun pf hf=>?_⟩⟩))⟩⟩);rw[Yo (by decide),Yq (by decide)]at *;have s2:Same H1 _:=(((((zk h1 (.lst (ps.map V.ref))).new (o:=.lst ((ps.take 3).map V.ref)) ha).new (o:=.tup ((ps.take 3).map V.ref)) hb).new (o:=.lst ((ps.drop 3).map V.ref)) hc).new (o:=.tup ((ps.drop 3).map V.ref)) he).new (o:=.tup [.ref pb,.ref pe]) hf;exact q _ pf pb pe (ps.take 3) (ps.drop 3) (s1.trans s2) uX9 (old hf (old he (old hc uX9))) (old hf uX9) ((hp.keep (.of s2)).take 3) ((hp.keep (.of s2)).drop 3)
theorem WK:FnScope lS10 lS10 (zt vT):=.ok
theorem WL:(["_law_state","_law_world_here","_law_room","_law_at"]:lS).Nodup:=by decide +kernel
theorem Xz(F:Fun K "_law_program" "_law_program" vT f fd)(GKs:Ca P w K mg base CX0 1 "_law_kinds" ["_law_world_here"] spKinds)(GF:Ca P w K mg base CX0 (7+2*n) "_law_def" lS11 (spDef K n))(m_range:mg "range"=nO)(m_tuple:mg "tuple"=nO):FnOk P w K mg base CX0 (8+2*n) f fd lS10 (spProgram K n):=by
 rw[show 8+2*n=(7+2*n)+1 by lia];refine F.by WK (fun vs H Q E h=>?_) (fun cdv A outer s H vs Q E hr h=>?_)
 ·obtain⟨st,w,B,room,o,rfl,_⟩:=h
  rfl
 obtain⟨st,w0,B,room,o,rfl,S0,hB,hW,hroom,hn,q⟩:=h;have hr1:Room 1 _:=hr.mono (by lia);refine⟨_,
  (zn (zv (zA (jA2 (cA GKs hr1 (jA1 (jv 1))) (zS (zF K) rfl m_tuple uO (jA1 (yg ["_law_at"] rfl (yz rfl m_range (jA1 zo)) (fun _ _ _ _ _=>(gN 3 WL)) (fun _ _ _ _ _=>zW) (fun _ _ _ _ _=>(cA GF hr (jA4 (jv 0) (jv 1) (jv 3) (jv 2))))))))))),?_⟩
 have sl:=zN;have LM:LIM=4611686018427387904:=rfl;refine(zg rfl ⟨w0,o,rfl,hW,fun H1 pk p1 p2 t1 t2 s1 hpk hp1 hp2 hk1 hk2=>?_⟩);refine(zg rfl ⟨by decide,by decide,yZ (n:=3) (fun i τ ys H'=>Kp st H1 H'/\Sta K H' st (B+i*CB n)/\(∃x,τ=[sR st,sR w0,sO (.int room),x])/\∃(ps:List aO)(dfs:List Df),ys=ps.map V.ref/\ps.length=i/\IsFs H' dfs ps/\(∀d∈dfs,FOk n d/\FNm o d)/\dfs.map (·.z)=(uM i).map (fun k=>nm o.z o.b (2-k))) ⟨Kp.refl,(S0.same s1).mono (by lia),⟨nO,rfl⟩,[],[],rfl,rfl,.nil,(fun d hd=>by cases hd),rfl⟩ ?_ ?_⟩)
 ·rintro i τ ys H2 hi ⟨k2,S2,⟨x,rfl⟩,ps,dfs,rfl,hl,hF,hok,hnm⟩
  have hb:i*CB n+CB n<=3*CB n:=by
   have:=U0 (CB n) (show i+1<=3 by lia)
   rw[tw]at this;lia
  refine(zq rfl rfl (zq rfl rfl ⟨st,w0,i,_,room,o,(by show[V.ref st,V.ref w0,V.int (0+(i:Nat)),V.int room]=_;rw[Int.zero_add]),hi,S2,by lia,(hW.same s1).kp (S0.same s1) k2,hroom,hn,fun H3 p d k3 S3 hd hdk hdz=>⟨by rw[ub];lia,k2.trans k3,S3.mono (by rw[tw];lia),⟨_,rfl⟩,ps++[p],dfs++[d],by simp,by simp[hl],(hF.keep (k3.tups S2)).app (.cons hd .nil),(fun e he=>?_),by rw[List.range_succ,ur,ur,hnm];show _++[d.z]=_++[_];rw[hdz]⟩⟩));rcases ux.mp he with he|he
  ·exact hok e he
  ·rw[uk.mp he]
   exact hdk
 rintro τ ys H2 ⟨k2,S2,_,ps,dfs,rfl,hl,hF,hok,hnm⟩ p3 h3;refine⟨p3,(zg rfl (.inl ⟨SqL.of uX9,fun p4 h4=>⟨sN2,fun p5 h5=>?_⟩⟩))⟩;have s25:Same H2 _:=((zk h3 (.lst (ps.map V.ref))).new (o:=.tup (ps.map V.ref)) h4).new (o:=.tup [.ref pk,.ref p4]) h5;have tp:Tups H1 _:=(k2.tups (S0.same s1)).trans (.of s25);exact q _ p5 pk p4 p1 p2 t1 t2 ps dfs (((Kp.of s1).trans k2).trans (.of s25)) (S2.same s25) uX9 (tp _ _ hpk) (tp _ _ hp1) (tp _ _ hp2) (hk1.keep tp) (hk2.keep tp) (old h5 uX9) (hF.keep (.of s25)) hl hok hnm
end
end GN
variable{dfs:List GN.Df}
namespace L2
open PySem PySem.Spec PyProof.Rows
theorem Yr:∀{xs:List V}{us:List aA},xs.length=us.length->(∀(j:Nat) x u,xs[j]?=sO x->us[j]?=sO u->RelV x u)->Vals xs us
 |[],[],_,_=>.nil
 |[],_::_,h,_=>by simp at h
 |_::_,[],h,_=>by simp at h
 |x::xs,u::us,h,g=>.cons (g 0 x u rfl rfl) (Yr (by simpa using h) fun j a b h1 h2=>g (j+1) a b (by simpa using h1) (by simpa using h2))
def Jr:List V->Hp->VK->Prop:=fun xs H Q=>∃d kvs,xs=[.ref d]/\H d=sO (.dK kvs)/\∀l,H l=nO->Q (.ref l) (upd H l (.lst (kvs.map fun kv=>kV kv.1)))
theorem vY(hc:X.calm=tV):xB X (.type "list") Jr:=by
 intro pins s σ H xs us Q I r h;obtain⟨d,kvs,rfl,hd,q⟩:=h;obtain⟨u,rfl,rx⟩:=jt r;cases rx;obtain⟨z,hs,ws,rel,dd⟩:=V2 I.hok hd;obtain⟨ep,da⟩:=dd.dictAt;have wl:=rel.length;refine PySem.W.kdl_call (PySem.W.kdl_dict (knd:=zR X.prog X.w) (kvs:=ws) (ep:=ep) hs) (I.ok.hd hc) da (by lia) fun h' tk acc c hk hS hacc=>?_;obtain⟨a1,a2⟩:=hacc;refine⟨.ref s.heap.objs.size,_,I.laid (t':=tk) hk (uj _) (show ObjOk X.prog X.w _ h' _ (.lst (kvs.map fun kv=>kV kv.1))from⟨by rw[ub];exact z,acc.toList,c,?_,by rw[Array.toArray_toList];exact hS⟩),rfl,q _ (I.hok.fresh (uj _))⟩;have al:acc.toList.length=acc.size:=Array.length_toList;refine Yr (by rw[ub,al];lia) fun j x v h1 h2=>?_;obtain⟨k,y,e1,e2⟩:=a2 j v (by rw[<- Array.getElem?_toList];exact h2);obtain⟨y',e3,_⟩:=rel.get e1;rw[uh,e3]at h1;cases h1;exact zbp e2
theorem Zy(hc:X.calm=tV):jCa X (.type "list") Jr:=⟨vY hc⟩
end L2
namespace GN
open PySem L2 K11
variable{p:List aO}
mutual
theorem Bd.binds_len:∀b:Bd,b.binds.length<=b.sz
 |.give _=>by unfold Bd.binds Bd.sz;decide
 |.lt x d b=>by unfold Bd.binds Bd.sz;have:=Bd.binds_len b;rw[um];lia
 |.iff x a b=>by unfold Bd.binds Bd.sz;have:=Bd.binds_len a;have:=Bd.binds_len b;rw[uf];lia
 |.case x as=>by unfold Bd.binds Bd.sz;have:=Arms.binds_len as;lia
theorem Arms.binds_len:∀a:Arms,a.binds.length<=a.sz
 |.nil=>by unfold Arms.binds Arms.sz;decide
 |.cons t ns b r=>by unfold Arms.binds Arms.sz;have:=Bd.binds_len b;have:=Arms.binds_len r;rw[uf,uf];lia
end
def once(acc:lS):lS->lS
 |[]=>acc
 |x::r=>once (if x∈acc then acc else acc++[x]) r
theorem vZ:∀(a b acc:lS),once acc (a++b)=once (once acc a) b
 |[],b,acc=>rfl
 |x::a,b,acc=>by
  show once (if x∈acc then acc else acc++[x]) (a++b)=once (once (if x∈acc then acc else acc++[x]) a) b;exact vZ a b _
theorem WM{l:lS}{acc:lS}(h:l[i]?=sO x):once acc (l.take (i+1))=if x∈once acc (l.take i)then once acc (l.take i)else once acc (l.take i)++[x]:=by
 rw[uD,h,vZ]
 rfl
theorem ja:∀(l acc:lS),(once acc l).length<=acc.length+l.length
 |[],acc=>uj _
 |x::r,acc=>by
  unfold once
  have:=ja r (if x∈acc then acc else acc++[x])
  rw[um];split at this
  ·split
   ·lia
   ·contradiction
  ·split
   ·contradiction
   ·rw[uf,uY]at this
    lia
abbrev Wy:=List (lS×Bd)
inductive IsY(H:Hp):Wy->List aO->Prop
 |nil:IsY H [] []
 |cons {ns:lS} {b:Bd} {p q r:aO} {l:Wy} {ps:List aO}:H p=sO (.tup [.ref q,.ref r])->H q=sO (.tup (ns.map V.str))->IsB H b r->IsY H l ps->IsY H ((ns,b)::l) (p::ps)
theorem IsY.keep{l:Wy}(h:IsY H l p)(t:Tups H H'):IsY H' l p:=by
 induction h with
 |nil=>exact .nil
 |cons a b c _ ih=>exact .cons (t _ _ a) (t _ _ b) (c.keep t) ih
theorem IsY.app{a b:Wy}(h:IsY H a p)(g:IsY H b q):IsY H (a++b) (p++q):=by
 induction h with
 |nil=>exact g
 |cons x y z _ ih=>exact .cons x y z ih
theorem IsY.len{l:Wy}(h:IsY H l p):l.length=p.length:=by
 induction h with
 |nil=>rfl
 |cons _ _ _ _ ih=>rw[um,um,ih]
def Arms.ways:Arms->Wy
 |.nil=>[]
 |.cons _ ns b r=>(ns,b)::r.ways
def Bd.ways:Bd->Wy
 |.give _=>[]
 |.lt x _ b=>[([x],b)]
 |.iff _ a b=>[([],a),([],b)]
 |.case _ as=>as.ways
def pend(l:Wy):lS:=l.flatMap fun p=>p.1++p.2.binds
theorem Arms.pend:∀as:Arms,GN.pend as.ways=as.binds
 |.nil=>by unfold Arms.ways Arms.binds;rfl
 |.cons t ns b r=>by
  unfold Arms.ways Arms.binds GN.pend;rw[List.flatMap_cons]
  have:=Arms.pend r
  unfold GN.pend at this;rw[this,UC]
theorem Bd.pend(b:Bd):GN.pend b.ways=b.binds:=by
 cases b with
 |give x=>unfold Bd.ways Bd.binds;rfl
 |lt x d b=>unfold Bd.ways Bd.binds GN.pend;simp
 |iff x a b=>unfold Bd.ways Bd.binds GN.pend;simp
 |case x as=>unfold Bd.ways Bd.binds;exact Arms.pend as
def wsz(l:Wy):Nat:=(l.map fun p=>p.2.sz).sum
theorem Arms.wsz:∀as:Arms,GN.wsz as.ways<=as.sz
 |.nil=>by unfold Arms.ways Arms.sz GN.wsz;decide
 |.cons t ns b r=>by
  unfold Arms.ways Arms.sz GN.wsz
  have:=Arms.wsz r
  unfold GN.wsz at this;rw[uF,Uy];show b.sz+_<=_;lia
theorem Bd.wsz(b:Bd):GN.wsz b.ways < b.sz:=by
 cases b with
 |give x=>rw[Bd.sz];show(0:Nat) < 1;decide
 |lt x d b=>rw[Bd.sz];show b.sz+0 < b.sz+1;lia
 |iff x a b=>rw[Bd.sz];show a.sz+(b.sz+0) < a.sz+b.sz+1;lia
 |case x as=>rw[Bd.sz];have:=Arms.wsz as;show GN.wsz as.ways < as.sz+1;lia
theorem vB(a b:Wy):wsz (a++b)=wsz a+wsz b:=by unfold wsz;rw[ur,List.sum_append]
theorem Ys(a b:Wy):pend (a++b)=pend a++pend b:=by unfold pend;rw[List.flatMap_append]
theorem IsA.get{H:Hp}:∀{as:Arms}{ps:List aO}{i:Nat}{p:aO},IsA H as ps->ps[i]?=sO p->∃t q r ns b,as.ways[i]?=sO (ns,b)/\H p=sO (.tup [.str t,.ref q,.ref r])/\H q=sO (.tup (ns.map V.str))/\IsB H b r
 |_,_,_,_,.nil,e=>by simp at e
 |_,_,0,_,.cons a b c _,e=>by
  simp at e
  subst e;exact⟨_,_,_,_,_,by unfold Arms.ways;rfl,a,b,c⟩
 |_,_,i+1,_,.cons _ _ _ d,e=>by
  obtain⟨t,q,r,ns,b,h1,h2⟩:=IsA.get (i:=i) d (by simpa using e);exact⟨t,q,r,ns,b,by unfold Arms.ways;simpa using h1,h2⟩
theorem IsA.len{H:Hp}:∀{as:Arms}{ps:List aO},IsA H as ps->as.ways.length=ps.length
 |_,_,.nil=>by unfold Arms.ways;rfl
 |_,_,.cons _ _ _ d=>by unfold Arms.ways;rw[um,um,IsA.len d]
theorem X5:∀a:Arms,a.ways.length<=a.sz
 |.nil=>by unfold Arms.ways Arms.sz;decide
 |.cons t ns b r=>by
  unfold Arms.ways Arms.sz
  have:=X5 r
  rw[um];lia
inductive spWays(vs:List V)(H:Hp)(Q:VK)(e_3:XK):Prop
 |mk (p:aO):(∃b:Bd,vs=[.ref p]/\IsB H b p/\b.sz<=1000000/\∀(H':Hp)(r:aO)(ps:List aO),Same H H'->H r=nO->H' r=sO (.lst (ps.map V.ref))->IsY H' b.ways ps->Q (.ref r) H')->spWays vs H Q e_3
section
variable{K:uc}
theorem zcS:FnScope ["body"] ["body"] (zt V8):=.ok
theorem zcT:(["body","arm"]:lS).Nodup:=by decide +kernel
theorem zao(F:Fun K "ways_on" "ways_on" V8 f fd):FnOk P w K mg base CX0 1 f fd ["body"] spWays:=by
 refine F.by zcS (fun vs H Q E h=>?_) (fun cdv A outer s H vs Q E hr h=>?_)
 ·obtain⟨p,b,rfl,_⟩:=h
  rfl
 obtain⟨p,b,rfl,hb,hz,q⟩:=h;refine⟨_,
  (zh (zH (tN zM (zp K (jv 0)) zz)
   (zn (zv (zC zL))) zB)
  (zh (zH (tN zM (zp K (jv 0)) zz)
   (zn (zv (zC (jA2 (zA (jA2 (zA zL) (zp K (jv 0)))) (zA (jA2 (zA zL) (zp K (jv 0)))))))) zB)
  (zh (zH (tN zM (zp K (jv 0)) zz)
   (zn (zv (yg ["arm"] rfl (yF K (zp K (jv 0))) (fun _ _ _ _ _=>(gN 1 zcT)) (fun _ _ _ _ _=>zW) (fun _ _ _ _ _=>(zA (jA2 (zp K (jv 1)) (xX (wx K) (jv 1) (y0 zo)))))))) zB)
  (zh (zH (Xl K (zp K (jv 0)) (zA (jA2 zz zz)))
   (zn (zv (zC (jA1 (zA (jA2 (zA (jA1 (zp K (jv 0)))) (xX (wx K) (jv 0) (y0 zo)))))))) zB)
  (zn (zv (zC (jA1 (zA (jA2 (zA zL) (xX (wx K) (jv 0) (y0 zo)))))))))))),?_⟩
 have sl:=zN;cases hb with
 |@give x _ hp =>
  refine(zg rfl ⟨p,_,_,_,rfl,rfl,SqT.of hp,aI0,rfl,(zg rfl ?_)⟩);refine ite2 (fun _=>?_) aB;refine⟨sN0,fun r hr=>q _ r [] (zk hr _) hr uX9 ?_⟩;unfold Bd.ways;exact .nil
 |@iff x a b _ p1 p2 hp ha hb =>
  refine(zg rfl ⟨p,_,_,_,rfl,rfl,SqT.of hp,aI0,rfl,(zg rfl ?_)⟩);refine ite2 aB (fun _=>?_);refine(zg rfl ⟨p,_,_,_,rfl,rfl,SqT.of hp,aI0,rfl,(zg rfl ?_)⟩);refine ite2 (fun _=>?_) aB;refine⟨sN0,fun t1 h1=>(zg rfl ⟨p,_,_,_,rfl,rfl,SqT.of (old h1 hp),aI2,sN2,fun t2 h2=>⟨sN0,fun t3 h3=>(zg rfl ⟨p,_,_,_,rfl,rfl,SqT.of (old h3 (old h2 (old h1 hp))),aI3,sN2,fun t4 h4=>⟨sN2,fun t5 h5=>?_⟩⟩)⟩⟩)⟩;have s4:Same H _:=(((zk h1 (.tup [])).new (o:=.tup [.ref t1,.ref p1]) h2).new (o:=.tup []) h3).new (o:=.tup [.ref t3,.ref p2]) h4;have s5:=s4.new (o:=.lst [.ref t2,.ref t4]) h5;refine q _ t5 [t2,t4] s5 (s4.free h5) uX9 ?_;unfold Bd.ways;exact .cons (old h5 (old h4 (old h3 uX9))) (old h5 (old h4 (old h3 (old h2 uX9)))) (ha.keep (.of s5)) (.cons (old h5 uX9) (old h5 (old h4 uX9)) (hb.keep (.of s5)) .nil)
 |@case x as ps _ p1 hp hp1 hl0 hA =>
  refine(zg rfl ⟨p,_,_,_,rfl,rfl,SqT.of hp,aI0,rfl,(zg rfl ?_)⟩);refine ite2 aB (fun _=>?_);refine(zg rfl ⟨p,_,_,_,rfl,rfl,SqT.of hp,aI0,rfl,(zg rfl ?_)⟩);refine ite2 aB (fun _=>?_);refine(zg rfl ⟨p,_,_,_,rfl,rfl,SqT.of hp,aI0,rfl,(zg rfl ?_)⟩);refine ite2 (fun _=>?_) aB;have hl:=hA.len;have hsz:as.ways.length<=1000000:=by
   have e:∀a:Arms,a.ways.length<=a.sz:=by
    intro a;exact X5 a
   have:=e as
   rw[Bd.sz]at hz;lia
  refine(zg rfl ⟨p,_,_,_,rfl,rfl,SqT.of hp,aI2,p1,rfl,⟨_,SqT.of hp1⟩,vO (xs:=ps.map V.ref) (fun j τ ys H'=>Same H H'/\(∃v,τ=[sR p,v])/\∃rs:List aO,ys=rs.map V.ref/\IsY H' (as.ways.take j) rs) ⟨Same.refl _,⟨nO,rfl⟩,[],rfl,.nil⟩ (fun j τ ys H' _ h=>SqT.of (h.1 _ _ hp1)) ?_ ?_⟩)
  ·rintro j v τ ys H1 hv ⟨s1,⟨v',rfl⟩,rs,rfl,hy⟩
   obtain⟨pa,hpa,rfl⟩:=L2.gM hv;obtain⟨t,q1,r1,ns,b,e1,e2,e3,e4⟩:=hA.get hpa;have hj:j < as.ways.length:=(ud.mp e1).1;have hyl:=hy.len;rw[ut]at hyl;refine(zg rfl ⟨pa,_,_,_,rfl,rfl,SqT.of (s1 _ _ e2),aI1,(zq rfl rfl ⟨pa,_,_,_,rfl,rfl,SqT.of (s1 _ _ e2),rfl,sN2,fun t1 h1=>⟨by rw[ub];lia,s1.new h1,⟨_,rfl⟩,rs++[t1],by simp,?_⟩⟩)⟩);rw[uD,e1];exact(hy.keep (.of (zk h1 _))).app (.cons uX9 (old h1 (s1 _ _ e3)) (e4.keep (.of (s1.new h1))) .nil)
  ·rintro τ ys H1 ⟨s1,_,rs,rfl,hy⟩ r hr
   rw[ub,<- hl,uo (uj _)]at hy;refine q _ r rs (s1.new hr) (s1.free hr) uX9 ?_;unfold Bd.ways;exact hy.keep (.of (zk hr _))
 |@lt x d b _ p1 p2 hp hd hb =>
  refine(zg rfl ⟨p,_,_,_,rfl,rfl,SqT.of hp,aI0,rfl,(zg rfl ?_)⟩);refine ite2 aB (fun _=>?_);refine(zg rfl ⟨p,_,_,_,rfl,rfl,SqT.of hp,aI0,rfl,(zg rfl ?_)⟩);refine ite2 aB (fun _=>?_);refine(zg rfl ⟨p,_,_,_,rfl,rfl,SqT.of hp,aI0,rfl,(zg rfl ?_)⟩);refine ite2 aB (fun _=>?_);refine(zg rfl ⟨p,_,_,_,rfl,rfl,SqT.of hp,aI0,sN2,fun t0 h0=>?_⟩);refine⟨t0,(zg rfl ⟨.inr (SqT.of uX9),rfl,rfl,(zg rfl ?_)⟩)⟩;refine ite2 (fun _=>?_) (fun c=>absurd (show(if fO=tV then !inV (V.str "let") [V.str "let",V.str "hold"]else inV (V.str "let") [V.str "let",V.str "hold"])=tV by decide) c);have hp0:=old (o:=.tup [.str "let",.str "hold"]) h0 hp;refine(zg rfl ⟨p,_,_,_,rfl,rfl,SqT.of hp0,aI1,sN1,fun t1 h1=>(zq rfl rfl ⟨p,_,_,_,rfl,rfl,SqT.of (old h1 hp0),rfl,sN2,fun t2 h2=>⟨sN1,fun t3 h3=>?_⟩⟩)⟩);have s2:Same H _:=((zk h0 (.tup [.str "let",.str "hold"])).new (o:=.tup [.str x]) h1).new (o:=.tup [.ref t1,.ref p2]) h2;have s3:=s2.new (o:=.lst [.ref t2]) h3;refine q _ t3 [t2] s3 (s2.free h3) uX9 ?_;unfold Bd.ways;exact .cons (old h3 uX9) (old h3 (old h2 uX9)) (hb.keep (.of s3)) .nil
end
def dif(m n:Nat):Nat:=m-(m &&& n)
theorem and2(m n:Nat):(m &&& n) / 2=m / 2 &&& n / 2/\(m &&& n) % 2=m % 2*(n % 2):=by
 refine⟨Nat.and_div_two,?_⟩;rw[Nat.and_mod_two_pow (n:=1)];rcases(show m % 2=0\/m % 2=1 by lia)with e|e<;>rcases(show n % 2=0\/n % 2=1 by lia)with g|g<;>(show m % 2 &&& n % 2=_)<;>rw[e,g]<;>decide
theorem wI:∀(i m n:Nat),(dif m n).testBit i=(m.testBit i && !n.testBit i)
 |0,m,n=>by
  have h:=and2 m n;have hle:(m &&& n)<=m:=Nat.and_le_left;unfold dif;rw[Nat.testBit_zero,Nat.testBit_zero,Nat.testBit_zero];rcases(show m % 2=0\/m % 2=1 by lia)with e|e<;>rcases(show n % 2=0\/n % 2=1 by lia)with g|g<;>rw[e,g]at h<;>simp[e,g]<;>lia
 |i+1,m,n=>by
  have h:=and2 m n;have hle:(m &&& n)<=m:=Nat.and_le_left;have hle2:(m / 2 &&& n / 2)<=m / 2:=Nat.and_le_left;rw[tJ,tJ,tJ,<- wI i (m / 2) (n / 2)]
  congr 1
  unfold dif;rcases(show m % 2=0\/m % 2=1 by lia)with e|e<;>rcases(show n % 2=0\/n % 2=1 by lia)with g|g<;>rw[e,g]at h<;>lia
theorem Zz(m n:Nat):Builtin.bitOr (m:Int) (n:Int)=((m ||| n:Nat):Int):=by
 unfold Builtin.bitOr;have h1:¬ 0<=Builtin.bitNot (m:Int):=by unfold Builtin.bitNot;lia
 have h2:¬ 0<=Builtin.bitNot (n:Int):=by unfold Builtin.bitNot;lia
 have e:∀x:Int,Builtin.bitNot (Builtin.bitNot x)=x:=fun x=>by unfold Builtin.bitNot;lia
 rw[PyProof.Rows.bitAnd_nn h1 h2,e,e,e]
 rfl
theorem Js(m n:Nat):Builtin.bitAnd (m:Int) (Builtin.bitNot (n:Int))=((dif m n:Nat):Int):=by
 rw[PyProof.Rows.bitAnd_not,PyProof.Rows.bitAnd_pp (tT m) (tT n)];have hle:(m &&& n)<=m:=Nat.and_le_left;unfold dif;rw[UR,UR];lia
def bitN:lS->Str->Nat
 |[],_=>0
 |y::r,x=>if y=x then 1 else 2*bitN r x
theorem Yt{x:Str}:∀{ns:lS},x∉ns->bitN ns x=0
 |[],_=>rfl
 |y::r,h=>by
  unfold bitN;rw[iN (fun e:y=x=>h (e ▸ Uk)),Yt (fun z=>h (.tail _ z))]
theorem zap:∀i:Nat,(1:Nat).testBit i=decide (i=0)
 |0=>rfl
 |i+1=>by
  rw[tJ];simp
theorem zaq(m i:Nat):(2*m).testBit (i+1)=m.testBit i:=by
 rw[tJ]
 congr 1
 lia
theorem Jt(m:Nat):(2*m).testBit 0=fO:=by
 rw[Nat.testBit_zero];simp
theorem wJ{x:Str}:∀{ns:lS}{i:Nat},ns.Nodup->(bitN ns x).testBit i=decide (ns[i]?=sO x)
 |[],i,_=>by unfold bitN;simp
 |y::r,i,nd=>by
  obtain⟨h1,h2⟩:=uP.mp nd;unfold bitN;by_cases e:y=x
  ·rw[iP e,zap]
   cases i with
   |zero=>simp[e]
   |succ i =>
    simp
    intro z;exact h1 (e ▸ uw z)
  ·rw[iN e]
   cases i with
   |zero=>rw[Jt];simp[e]
   |succ i=>rw[zaq,wJ h2];simp
def tog(ns xs:lS):Nat:=xs.foldl (fun f x=>f ||| bitN ns x) 0
theorem Yu{ns:lS}(nd:ns.Nodup)(i:Nat):∀(xs:lS)(f:Nat),(xs.foldl (fun f x=>f ||| bitN ns x) f).testBit i=(f.testBit i || decide (∃x∈xs,ns[i]?=sO x))
 |[],f=>by simp
 |x::r,f=>by
  rw[UJ,Yu nd i r,UQ,wJ nd,Bool.or_assoc]
  congr 1
  rw[<- Bool.decide_or]
  congr 1
  simp
theorem xy(nd:ns.Nodup)(i:Nat)(xs:lS):(tog ns xs).testBit i=decide (∃x∈xs,ns[i]?=sO x):=by
 unfold tog;rw[Yu nd];simp
def yA:lS->Nat->List (Key×V)
 |[],_=>[]
 |x::r,b=>(.inr x,.int (b:Nat))::yA r (b+b)
theorem xS{x:Str}:∀{ns:lS}{b:Nat},valV (yA ns b) (.inr x)=if x∈ns then sO (.int ((b*bitN ns x:Nat):Int))else nO
 |[],b=>rfl
 |y::r,b=>by
  unfold yA bitN;by_cases e:y=x
  ·rw[yk (by rw[e]),iP (by rw[e];exact .head _),iP e,Nat.mul_one]
  ·rw[ym (fun z=>e (Sum.inr.inj z)),xS,iN e]
   have e':¬ x=y:=fun z=>e z.symm;by_cases c:x∈r
   ·rw[iP c,iP (.tail _ c)]
    congr 3
    rw[tw,Nat.mul_left_comm,Nat.two_mul]
   ·rw[iN c,iN (by simp[e',c])]
theorem jM:∀(a:lS)(x:Str)(b:Nat),yA (a++[x]) b=yA a b++[(.inr x,.int ((b*2 ^ a.length:Nat):Int))]
 |[],x,b=>by show[_]=[_];rw[List.length_nil,Nat.pow_zero,Nat.mul_one]
 |y::a,x,b=>by
  show _::yA (a++[x]) (b+b)=_::(yA a (b+b)++_);rw[jM a x (b+b),um,Nat.pow_succ,show(b+b)*2 ^ a.length=b*(2 ^ a.length*2) by rw[<- Nat.two_mul,Nat.mul_comm 2 b,Nat.mul_assoc,Nat.mul_comm 2]]
theorem jN:∀(a:lS)(b:Nat),(yA a b).length=a.length
 |[],_=>rfl
 |_::a,b=>by show(yA a (b+b)).length+1=_;rw[jN a];rfl
def Bd.used:Bd->lS
 |.give x=>[x]
 |.lt _ d _=>d.uses
 |.iff x _ _=>[x]
 |.case x _=>[x]
mutual
def Bd.mk(ns:lS):Bd->Nat
 |.give x=>0 ||| tog ns [x]
 |.lt x d b=>(0 ||| dif (b.mk ns) (tog ns [x])) ||| tog ns d.uses
 |.iff x a b=>((0 ||| dif (a.mk ns) (tog ns [])) ||| dif (b.mk ns) (tog ns [])) ||| tog ns [x]
 |.case x as=>Arms.mk ns as 0 ||| tog ns [x]
def Arms.mk(ns:lS):Arms->Nat->Nat
 |.nil,f=>f
 |.cons _ xs b r,f=>Arms.mk ns r (f ||| dif (b.mk ns) (tog ns xs))
end
def accW(ns:lS)(l:Wy)(f:Nat):Nat:=l.foldl (fun f w=>f ||| dif (w.2.mk ns) (tog ns w.1)) f
theorem Arms.mk_ways(ns:lS):∀(as:Arms)(f:Nat),Arms.mk ns as f=accW ns as.ways f
 |.nil,f=>by unfold Arms.mk Arms.ways accW;rfl
 |.cons t xs b r,f=>by
  unfold Arms.mk Arms.ways accW;rw[UJ];exact Arms.mk_ways ns r _
theorem Bd.mk_ways(ns:lS)(b:Bd):b.mk ns=accW ns b.ways 0 ||| tog ns b.used:=by
 cases b with
 |give x=>unfold Bd.mk Bd.ways Bd.used accW;rfl
 |lt x d b=>rw[Bd.mk];rfl
 |iff x a b=>rw[Bd.mk];rfl
 |case x as=>rw[Bd.mk,Arms.mk_ways];rfl
mutual
def Bd.fr(x:Str):Bd->Prop
 |.give y=>x=y
 |.lt y d b=>(b.fr x/\x≠y)\/x∈d.uses
 |.iff y a b=>(a.fr x\/b.fr x)\/x=y
 |.case y as=>as.fr x\/x=y
def Arms.fr(x:Str):Arms->Prop
 |.nil=>False
 |.cons _ xs b r=>(b.fr x/\x∉xs)\/r.fr x
end
section
variable(nd:ns.Nodup)(i:Nat)
include nd
mutual
theorem Bd.mk_bit:∀b:Bd,((b.mk ns).testBit i=tV)↔∃x,ns[i]?=sO x/\b.fr x
 |.give y=>by
  rw[Bd.mk,UQ,xy nd];simp[Bd.fr]
 |.lt y d b=>by
  have ih:=Bd.mk_bit b;rw[Bd.mk,UQ,UQ,xy nd,wI,xy nd];simp only[tK,tP,Uj,uS,Bool.not_eq_true',dA,decide_eq_false_iff_not,ih,uk,Bd.fr]
  constructor
  ·rintro(⟨⟨x,h1,h2⟩,h3⟩|⟨x,h1,h2⟩)
   ·exact⟨x,h1,.inl ⟨h2,fun e=>h3 ⟨y,rfl,by rw[h1,e]⟩⟩⟩
   ·exact⟨x,h2,.inr h1⟩
  ·rintro⟨x,h1,⟨h2,h3⟩|h2⟩
   ·refine .inl ⟨⟨x,h1,h2⟩,?_⟩
    rintro⟨z,rfl,h4⟩;rw[h1]at h4;exact h3 (uX.inj h4)
   ·exact .inr ⟨x,h2,h1⟩
 |.iff y a b=>by
  have ia:=Bd.mk_bit a;have ib:=Bd.mk_bit b;rw[Bd.mk,UQ,UQ,UQ,xy nd,wI,wI,xy nd];simp only[tK,tP,Uj,uS,Bool.not_eq_true',dA,decide_eq_false_iff_not,ia,ib,uk,Uz,false_and,exists_false,not_false_eq_true,and_true,Bd.fr]
  constructor
  ·rintro((⟨x,h1,h2⟩|⟨x,h1,h2⟩)|⟨x,rfl,h2⟩)
   ·exact⟨x,h1,.inl (.inl h2)⟩
   ·exact⟨x,h1,.inl (.inr h2)⟩
   ·exact⟨x,h2,.inr rfl⟩
  ·rintro⟨x,h1,(h2|h2)|h2⟩
   ·exact .inl (.inl ⟨x,h1,h2⟩)
   ·exact .inl (.inr ⟨x,h1,h2⟩)
   ·exact .inr ⟨x,h2,h1⟩
 |.case y as=>by
  have ia:=Arms.mk_bit as 0;rw[Bd.mk,UQ,xy nd];simp only[Uj,ia,tK,tR,false_or,dA,uk,Bd.fr]
  constructor
  ·rintro(⟨x,h1,h2⟩|⟨x,rfl,h2⟩)
   ·exact⟨x,h1,.inl h2⟩
   ·exact⟨x,h2,.inr rfl⟩
  ·rintro⟨x,h1,h2|h2⟩
   ·exact .inl ⟨x,h1,h2⟩
   ·exact .inr ⟨x,h2,h1⟩
theorem Arms.mk_bit:∀(as:Arms)(f:Nat),((Arms.mk ns as f).testBit i=tV)↔(f.testBit i=tV\/∃x,ns[i]?=sO x/\as.fr x)
 |.nil,f=>by unfold Arms.mk Arms.fr;simp
 |.cons t xs b r,f=>by
  have ib:=Bd.mk_bit b;rw[Arms.mk,Arms.mk_bit r,UQ,wI,xy nd];simp only[Uj,uS,Bool.not_eq_true',decide_eq_false_iff_not,ib,Arms.fr]
  constructor
  ·rintro((h|⟨⟨x,h1,h2⟩,h3⟩)|⟨x,h1,h2⟩)
   ·exact .inl h
   ·exact .inr ⟨x,h1,.inl ⟨h2,fun e=>h3 ⟨x,e,h1⟩⟩⟩
   ·exact .inr ⟨x,h1,.inr h2⟩
  ·rintro(h|⟨x,h1,⟨h2,h3⟩|h2⟩)
   ·exact .inl (.inl h)
   ·refine .inl (.inr ⟨⟨x,h1,h2⟩,?_⟩)
    rintro⟨z,h4,h5⟩;rw[h1]at h5;cases h5;exact h3 h4
   ·exact .inr ⟨x,h1,h2⟩
end
end
theorem Bd.sz_pos'(b:Bd):1<=b.sz:=by
 cases b<;>rw[Bd.sz]<;>lia
theorem Yv:∀l:Wy,l.length<=wsz l
 |[]=>uK _
 |p::l=>by
  have h1:=Bd.sz_pos' p.2;have h2:=Yv l;unfold wsz at h2 ⊢;rw[uF,Uy,um];lia
end GN
namespace GN
open PySem L2
inductive All2{α β:Type}(F:α->β->Prop):List α->List β->Prop
 |nil:All2 F [] []
 |cons {a b l m}:F a b->All2 F l m->All2 F (a::l) (b::m)
section
variable{α β:Type}{F G:α->β->Prop}{l:List α}{m:List β}
theorem All2.imp(h:All2 F l m)(f:∀a b,F a b->G a b):All2 G l m:=by
 induction h with
 |nil=>exact .nil
 |cons a _ ih=>exact .cons (f _ _ a) ih
theorem All2.len(h:All2 F l m):l.length=m.length:=by
 induction h with
 |nil=>rfl
 |cons _ _ ih=>rw[um,um,ih]
theorem All2.app{l':List α}{m':List β}(h:All2 F l m)(g:All2 F l' m'):All2 F (l++l') (m++m'):=by
 induction h with
 |nil=>exact g
 |cons a _ ih=>exact .cons a ih
theorem All2.get(h:All2 F l m):∀{i:Nat}{b:β},m[i]?=sO b->∃a,l[i]?=sO a/\F a b:=by
 induction h with
 |nil=>intro i b e;simp at e
 |cons a _ ih =>
  intro i b e;cases i with
  |zero=>simp at e;subst e;exact(zg rfl (a))
  |succ i=>simp at e;obtain⟨x,h1,h2⟩:=ih e;exact⟨x,by simpa using h1,h2⟩
end
theorem iteN{b:Bool}{A B:Prop}(e:b=fO)(h:B):if b=tV then A else B:=by rw[iN (by rw[e];decide)];exact h
def KM(M:aO->Prop)(H H':Hp):Prop:=∀b u,¬ M b->H b=sO u->H' b=sO u
def Kz(M R:aO->Prop)(H H':Hp):Prop:=∀b u,H b=sO u->¬ M b->(∀xs,u=.lst xs->R b)->H' b=sO u
def KO(M:aO->Prop)(H H':Hp):Prop:=∀b u,H b=sO u->(∀xs,u=.lst xs->M b)->H' b=sO u
theorem KM.refl{M:aO->Prop}:KM M H H:=fun _ _ _ h=>h
theorem KM.trans{M:aO->Prop}(a:KM M H H1)(b:KM M H1 H2):KM M H H2:=fun c u n h=>b c u n (a c u n h)
theorem KM.of{M:aO->Prop}(a:Same H H1):KM M H H1:=fun c u _ h=>a c u h
theorem KM.free{M:aO->Prop}(a:KM M H H1)(n:¬ M b)(h:H1 b=nO):H b=nO:=by
 cases e:H b with
 |none=>rfl
 |some u=>rw[a b u n e]at h;cases h
theorem KM.put{M:aO->Prop}{o:HO}(a:KM M H H1)(h:H p=nO):KM M H (upd H1 p o):=fun b u n e=>by rw[zj (zi e h)];exact a b u n e
def CanC(P:Program)(w:World)(K:uc)(mg:Str->Option aA)(base:Heap)(k:Nat)(H:Hp)(f:aO)(vs:List V)(Q:VK)(E:XK):Prop :=
 ∃fd ps sp,FnOk P w K mg base CX0 k f fd ps sp/\Binds K fd ps []/\sp vs H Q E/\(H f=sO (FunO f fd)\/u5 K (.ref f)=tV)
def Chn{T S:Type}(pre post:T->S):S->List T->S->Prop
 |s,[],s'=>s=s'
 |s,t::ts,s'=>pre t=s/\Chn pre post (post t) ts s'
set_option genInjectivity false in
structure WoD(P:Program)(w:World)(K:uc)(mg:Str->Option aA)(base:Heap)(k:Nat) where
 Tk:Type
 M:aO->Prop
 fb:aO
 wt:Tk->Nat
 kids:Tk->List Tk
 wk:∀t,((kids t).map wt).sum+2<=wt t
 IT:Hp->(aO->Prop)->Tk->V->Prop
 IR:Hp->(aO->Prop)->Tk->V->Prop
 IF:Hp->(aO->Prop)->Tk->V->Prop
 S:Type
 pre:Tk->S
 mid:Tk->S
 post:Tk->S
 chn:∀t,Chn pre post (mid t) (kids t) (post t)
 Ok:S->Hp->Prop
 itk:∀{H H' R R' t v s},IT H R t v->Ok s H->Kz M R H H'->(∀b,R b->R' b)->IT H' R' t v
 irk:∀{H H' R R' t v s},IR H R t v->Ok s H->Kz M R H H'->(∀b,R b->R' b)->IR H' R' t v
 ifk:∀{H H' R R' t v s},IF H R t v->Ok s H->Kz M R H H'->(∀b,R b->R' b)->IF H' R' t v
 okk:∀{H H' s},Ok s H->KO M H H'->Ok s H'
 okM:∀{H b s},Ok s H->M b->H b≠nO
 beg:∀{H R t v Q},IT H R t v->Ok (pre t) H->(∀b,R b->H b≠nO)->(∀b,R b->¬ M b) ->
  (∀H' q l fl vs R',KM M H H'->Ok (mid t) H'->H' q=sO (.tup [.ref l,.ref fl])->H l=nO->H' l=sO (.lst vs)->(∀b,R b->R' b)->(∀b,R' b->R b\/H b=nO)->(∀b,R' b->H' b≠nO)->R' l->All2 (IT H' R') (kids t) vs->IF H' R' t (.ref fl)->Q (.ref q) H') ->
  CanC P w K mg base k H fb [v] Q E0
 fin:∀{H R t fl rl rs Q},IF H R t (.ref fl)->Ok (post t) H->(∀b,R b->H b≠nO)->(∀b,R b->¬ M b)->R rl->H rl=sO (.lst rs)->All2 (IR H R) (kids t) rs ->
  (∀H' v R',KM M H H'->Ok (post t) H'->(∀b,R b->R' b)->(∀b,R' b->R b\/H b=nO)->(∀b,R' b->H' b≠nO)->IR H' R' t v->Q v H') ->
  CanC P w K mg base k H fl [.ref rl] Q E0
structure Bn(K:uc)(cB:aO):Prop where
 cl:Cls K cB
 b1:NoAttr K cB "within"
 b2:NoAttr K cB "finish"
 b3:NoAttr K cB "results"
def BO(cB dx wa fl ra:aO):HO:=.ins cB dx [("within",.ref wa),("finish",.ref fl),("results",.ref ra)]
inductive spBInit(cB:aO)(vs:List V)(H:Hp)(Q:VK)(e_3:XK):Prop
 |mk (x:aO) (dx:aO) (wa:aO):(∃fl:aO,vs=[.ref x,.ref wa,.ref fl]/\H x=sO (.ins cB dx [])/\∀H' ra,(∀b u,b≠x->H b=sO u->H' b=sO u)->H ra=nO->H' ra=sO (.lst [])->H' x=sO (BO cB dx wa fl ra)->Q .non H')->spBInit cB vs H Q e_3
inductive spOnly(vs:List V)(H:Hp)(Q:VK)(e_3:XK):Prop
 |mk (p:aO) (v:V):(∃xs:List V,vs=[.ref p]/\H p=sO (.lst (v::xs))/\Q v H)->spOnly vs H Q e_3
section
variable{K:uc}
theorem zar:FnScope lS22 lS22 (zt Xn):=.ok
theorem Ju(F:Fun K "__init__" "Begun.__init__" Xn f fd)(N:Bn K cB):FnOk P w K mg base CX0 1 f fd lS22 (spBInit cB):=by
 refine F.by zar (fun vs H Q E h=>?_) (fun cdv A outer s H vs Q E hr h=>?_)
 ·obtain⟨x,dx,wa,fl,rfl,_⟩:=h
  rfl
 obtain⟨x,dx,wa,fl,rfl,hx,q⟩:=h;refine⟨_,(zh (xj (jv 0) (jv 1)) (zh (xj (jv 0) (jv 2)) (zn (xj (jv 0) (zC zL))))),?_⟩;refine(zq rfl rfl ⟨x,cB,dx,(zg rfl ⟨hx,N.cl,N.b1,by show 0 < 1000;decide,?_⟩)⟩);refine(zq rfl rfl ⟨x,cB,dx,(zg rfl ⟨uX9,N.cl,N.b2,by show 1 < 1000;decide,?_⟩)⟩);refine⟨sN0,fun ra hra=>?_⟩;have nx:ra≠x:=fun z=>by
  rw[z,uX9]at hra;cases hra
 have hra':H ra=nO:=by
  rw[zj nx,zj nx]at hra;exact hra
 refine(zg rfl ⟨x,cB,dx,(zg rfl ⟨by rw[zj nx.symm];exact uX9,N.cl,N.b3,by show 2 < 1000;decide,?_⟩)⟩);refine q _ ra (fun b u n e=>?_) hra' (by rw[zj nx];exact uX9) uX9;rw[zj n,zj (zi e hra'),zj n,zj n];exact e
theorem zcU:FnScope ["results"] ["results"] (zt V9):=.ok
theorem zas(F:Fun K "only_one" "only_one" V9 f fd):FnOk P w K mg base CX0 1 f fd ["results"] spOnly:=by
 refine F.by zcU (fun vs H Q E h=>?_) (fun cdv A outer s H vs Q E hr h=>?_)
 ·obtain⟨p,v,xs,rfl,_⟩:=h
  rfl
 obtain⟨p,v,xs,rfl,hp,q⟩:=h;exact⟨_,(zn (zv (zU K (jv 0)))),(zg rfl (ixL hp aI0 (q)))⟩
end
structure En(Tk:Type) where
 bo:aO
 dx:aO
 wa:aO
 ra:aO
 fl:aO
 tk:Option Tk
 ts:List Tk
 rs:List V
section
variable{K:uc}{k:Nat}(D:WoD P w K mg base k)(cB fo:aO)(root:D.Tk)
structure EnOk(H:Hp)(R:aO->Prop)(e:En D.Tk):Prop where
 o:H e.bo=sO (BO cB e.dx e.wa e.fl e.ra)
 nb:¬ D.M e.bo
 w:∃ws,H e.wa=sO (.lst ws)/\All2 (D.IT H R) e.ts ws
 Rw:R e.wa
 r:H e.ra=sO (.lst e.rs)
 nr:¬ R e.ra
 nM:¬ D.M e.ra
 le:e.rs.length<=e.ts.length
 rr:All2 (D.IR H R) (e.ts.take e.rs.length) e.rs
 fin:match e.tk with
  |none=>e.fl=fo/\e.ts=[root]
  |some t=>D.IF H R t (.ref e.fl)/\e.ts=D.kids t
inductive Lnk:List (En D.Tk)->Prop
 |bot {e:En D.Tk}:e.tk=nO->Lnk [e]
 |up {e e':En D.Tk} {es:List (En D.Tk)} {t:D.Tk}:Lnk (e'::es)->e.tk=sO t->e'.ts[e'.rs.length]?=sO t->Lnk (e::e'::es)
def mlow:List (En D.Tk)->Nat
 |[]=>0
 |e::es=>1+((e.ts.drop (e.rs.length+1)).map D.wt).sum+mlow es
def mall:List (En D.Tk)->Nat
 |[]=>0
 |e::es=>1+((e.ts.drop e.rs.length).map D.wt).sum+mlow D es
theorem Yw:∀es:List (En D.Tk),es.length<=mlow D es
 |[]=>uj _
 |e::es=>by
  unfold mlow
  have:=Yw es
  rw[um];lia
theorem Jv(es:List (En D.Tk)):es.length<=mall D es:=by
 cases es with
 |nil=>exact uj _
 |cons e es =>
  unfold mall
  have:=Yw D es
  rw[um];lia
theorem Jw:∀ts:List D.Tk,ts.length<=(ts.map D.wt).sum
 |[]=>uj _
 |t::ts=>by
  have:=Jw ts
  have:=D.wk t
  rw[um,uF,Uy];lia
def eEnd(e:En D.Tk):D.S:=match e.tk with
 |none=>D.post root
 |some t=>D.post t
def StkL:D.S->List (En D.Tk)->Prop
 |_,[]=>True
 |s,e::es=>Chn D.pre D.post s (e.ts.drop (e.rs.length+1)) (eEnd D root e)/\StkL (eEnd D root e) es
def Stk:D.S->List (En D.Tk)->Prop
 |_,[]=>True
 |s,e::es=>Chn D.pre D.post s (e.ts.drop e.rs.length) (eEnd D root e)/\StkL D root (eEnd D root e) es
variable{D cB fo root}
theorem EnOk.keep{e:En D.Tk}{s:D.S}(h:EnOk D cB fo root H R e)(ok:D.Ok s H)(z:Kz D.M R H H')(rM:∀b,R b->¬ D.M b)(sub:∀b,R b->R' b)(hr:H' e.ra=sO (.lst e.rs))(nr:¬ R' e.ra):EnOk D cB fo root H' R' e:=by
 obtain⟨o,nb,⟨ws,w1,w2⟩,Rw,r,nr',nM,le,rr,fin⟩:=h;refine⟨z _ _ o nb (by intro xs q;unfold BO at q;cases q),nb,⟨ws,z _ _ w1 (rM _ Rw) (fun _ _=>Rw),w2.imp fun a b q=>D.itk q ok z sub⟩,sub _ Rw,hr,nr,nM,le,rr.imp fun a b q=>D.irk q ok z sub,?_⟩;cases q:e.tk with
 |none=>rw[q]at fin;exact fin
 |some t=>rw[q]at fin;exact⟨D.ifk fin.1 ok z sub,fin.2⟩
end
inductive spWorked(P:Program)(w:World)(K:uc)(mg:Str->Option aA)(base:Heap)(k:Nat)(vs:List V)(H:Hp)(Q:VK)(e_3:XK):Prop
 |mk (D:WoD P w K mg base k) (v:V) (root:D.Tk):(∃R:aO->Prop,vs=[v,.ref D.fb]/\D.IT H R root v/\D.Ok (D.pre root) H/\(∀b,R b->H b≠nO)/\(∀b,R b->¬ D.M b)/\D.wt root<=10000000/\((∃fd,H D.fb=sO (FunO D.fb fd))/\¬ D.M D.fb\/u5 K (.ref D.fb)=tV)/\∀H' v' R',KM D.M H H'->D.Ok (D.post root) H'->(∀b,R' b->¬ D.M b)->D.IR H' R' root v'->Q v' H')->spWorked P w K mg base k vs H Q e_3
inductive WkV{P:Program}{w:World}{K:uc}{mg:Str->Option aA}{base:Heap}{k:Nat}(D:WoD P w K mg base k)(cB fo wl:aO)(v:V)(root:D.Tk)(H:Hp)(m:Nat)(σ:St)(H':Hp):Prop
 |mk (es:List (En D.Tk)) (cur:D.S) (R:aO->Prop) (y3 y4 y5 y6:Option V) (_:m=mall D es) (_:σ=[sO v,sO (.ref D.fb),sR wl,y3,y4,y5,y6]) (_:KM D.M H H') (_:D.Ok cur H') (_:H' wl=sO (.lst (es.reverse.map fun e=>V.ref e.bo))) (_:¬ R wl) (_:(∀e∈es,EnOk D cB fo root H' R e)) (_:(∀e∈es,H e.ra=nO)) (_:Lnk D es) (_:(∀b,R b->H' b≠nO)) (_:(∀b,R b->¬ D.M b)) (_:(wl::es.map (·.ra)).Nodup) (_:mall D es<=D.wt root+1) (_:(∀e∈es,e.ts.length<=10000000)) (_:Stk D root cur es):WkV D cB fo wl v root H m σ H'
section
variable{K:uc}{fo:aO}{fdo:FuncData}{k:Nat}
theorem scWorked:FnScope ["task","begin","waiting","last","pair","finish","result"] lS27 (zt Zk):=.ok
theorem wK{t:TA}{Q:VK}{vs:List V}(hi:σ[i]?=sO (sO (.ref f)))(ha:∀R:List V->Hp->Prop,R vs H->t σ H R)(h:CanC P w K mg base k H f vs Q E0):V0 P w K mg base k E0 i t σ H Q:=by
 obtain⟨fd,ps,sp,F,b,q,c⟩:=h;rcases c with c|c
 ·exact⟨f,hi,.inl ⟨⟨fd,c⟩,ha _ ⟨fd,ps,sp,F,b,c,q⟩⟩⟩
 ·exact⟨f,hi,.inr ⟨c,ha _ ⟨fd,ps,sp,F,b,q⟩⟩⟩
theorem jP(F:Fun K "worked_out" "worked_out" Zk f fd)(N:Bn K cB)(GB:Ma P w K mg base CX0 1 "Begun" cB lS22 (spBInit cB))(GO:FnOk P w K mg base CX0 1 fo fdo ["results"] spOnly)(bO:Binds K fdo ["results"] [])(kO:u5 K (.ref fo)=tV)(mO:mg "only_one"=sO (.ref fo))(m_len:mg "len"=nO)(hk:2<=k):FnOk P w K mg base CX0 (k+1) f fd lS27 (spWorked P w K mg base k):=by
 refine F.by scWorked (fun vs H Q E h=>?_) (fun cdv A outer s H vs Q E hr h=>?_)
 ·obtain⟨D,v,root,R,rfl,_⟩:=h
  rfl
 obtain⟨D,v,root,R0,rfl,hIT,hOk,hR0,hRM0,hwt,hfb,q⟩:=h;have hr2:Room (1+1) _:=hr.mono (by lia);refine⟨_,
  (zh (sE 2 scWorked.nd (zC (jA1 (vm GB hr2 rfl yI (jA2 (zC (jA1 (jv 0))) (QR (v:=.ref fo) rfl mO rfl))))))
  (zn (Z6 PassesOwn.never (yv vL)
   (zh (sE 3 scWorked.nd (xX (zV K) (jv 2) (y0 zo)))
   (zn (zH (tN vk (yj (zD K) rfl m_len Ud (jA1 (zI K (jv 3)))) (yj (zD K) rfl m_len Ud (jA1 (zI K (jv 3)))))
    (zh (sE 4 scWorked.nd (vQ hr (jv 1) yI (jA1 (xX (zV K) (zI K (jv 3)) (yj (zD K) rfl m_len Ud (jA1 (zI K (jv 3))))))))
    (zn (yr (xg uN uV uW z6 (jv 2) (jA1 (vm GB hr2 rfl yI (jA2 (zp K (jv 4)) (zp K (jv 4)))))))))
    (zh (sE 5 scWorked.nd (zI K (jv 3)))
    (zh (sE 6 scWorked.nd (vQ hr (jv 5) yI (jA1 (zI K (jv 3)))))
    (zh (yr (Xd uN PySem.F.slot_list_pop PySem.F.type_list_pop VG (jv 2)))
    (zh (zH (tN zM (yj (zD K) rfl m_len Ud (jA1 (jv 2))) zo)
     (zn (zv (jv 6))) zB)
    (zn (yr (xg uN uV uW z6 (zI K (xX (zV K) (jv 2) (y0 zo))) (jA1 (jv 6))))))))))))))),?_⟩
 have sl:=zN;refine(zg rfl ⟨sN1,fun l0 hl0=>?_⟩);have s0:Same H (upd H l0 (.lst [v])):=fun b u e=>by rw[zj (zi e hl0)];exact e
 have hl0':=uX9 (H:=H) (a:=l0) (o:=.lst [v]);generalize upd H l0 (.lst [v])=H1 at *;intro x dx hx hdx nxd;refine⟨x,dx,l0,fo,rfl,uX9,fun H2 ra kp hra hra2 hx2=>⟨rfl,sN1,fun wl hwl=>?_⟩⟩;have hM:∀b,H b=nO->¬ D.M b:=fun b e m=>D.okM hOk m e;have s12:Same H1 H2:=fun b u e=>kp b u (zi e hx) (by rw[zj (zi e hx),zj (zi e hdx)];exact e);have s2:Same H H2:=s0.trans s12;have s3:Same H (upd H2 wl (.lst [.ref x])):=s2.new hwl;have nra:ra≠x:=fun z=>by
  rw[z,uX9]at hra;cases hra
 have nrd:ra≠dx:=fun z=>by
  rw[z,zj nxd,uX9]at hra;cases hra
 have hra1:H1 ra=nO:=by
  rw[zj nra,zj nrd]at hra;exact hra
 have hra0:H ra=nO:=s0.free hra1;have hx0:H x=nO:=s0.free hx;have nl0:l0≠ra:=zi hl0' hra1;have nwr:ra≠wl:=zi hra2 hwl;have nwx:x≠wl:=zi hx2 hwl;have nwl:l0≠wl:=zi (s12 _ _ hl0') hwl;have hwl0:H wl=nO:=s2.free hwl;refine⟨WkV D cB fo wl v root H,
  ⟨_,[⟨x,dx,l0,ra,fo,nO,[root],[]⟩],D.pre root,(fun b=>R0 b\/b=l0),nO,nO,nO,nO,rfl,rfl,.of s3,D.okk hOk (fun b u e _=>s3 b u e),uX9,?_,?_,?_,.bot rfl,?_,?_,?_,?_,?_,⟨⟨rfl,rfl⟩,trivial⟩⟩,?_⟩
 ·rintro(z|z)
  ·exact hR0 _ z hwl0
  ·exact nwl z.symm
 ·intro e he
  rw[uk.mp he];refine⟨by rw[zj nwx];exact hx2,hM _ hx0,⟨[v],by rw[zj nwl];exact s12 _ _ hl0',.cons (D.itk hIT hOk (fun b u e _ _=>s3 b u e) fun b z=>.inl z) .nil⟩,.inr rfl,by rw[zj nwr];exact hra2,?_,hM _ hra0,uK _,.nil,rfl,rfl⟩;rintro(z|z)
  ·exact hR0 _ z hra0
  ·exact nl0 z.symm
 ·intro e he
  rw[uk.mp he];exact hra0
 ·rintro b (z|z)
  ·cases e:H b with
   |none=>exact absurd e (hR0 b z)
   |some u=>rw[s3 b u e];simp
  ·rw[z,zj nwl,s12 _ _ hl0'];simp
 ·rintro b (z|z)
  ·exact hRM0 b z
  ·rw[z];exact hM _ hl0
 ·show[wl,ra].Nodup
  simp[nwr.symm]
 ·unfold mall mlow
  simp
  lia
 ·intro e he
  rw[uk.mp he];show 1<=10000000
  decide
 rintro m σ Ha ⟨es,cur,R,y3,y4,y5,y6,rfl,rfl,kHa,okA,hwlA,nRw,hes,hra,lk,hRd,hRM,nd,hms,hln,stk⟩;refine(zg rfl (iteT ⟨_,fun _ _ h=>h,?_⟩));refine cutR (fun D_ rt_ fin=>?_) (fun _ _ h=>h);have hMA:∀b,Ha b=nO->¬ D.M b:=fun b e m=>D.okM okA m e;have mwl:¬ D.M wl:=hM _ hwl0;cases es with
 |nil=>cases lk
 |cons e es =>
 have he:=hes e (.head _);have eo:=he.o;obtain⟨ws,hw,hIT'⟩:=he.w;have wlen:=hIT'.len;have els:((e::es).reverse.map fun e=>V.ref e.bo)=(es.reverse.map fun e=>V.ref e.bo)++[.ref e.bo]:=by simp
 rw[els]at hwlA;have elen:=Jv D (e::es);rw[um]at elen;have dr:∀t,e.ts[e.rs.length]?=sO t->e.ts.drop e.rs.length=t::e.ts.drop (e.rs.length+1):=fun t ht=>(UG (ud.mp ht).1).trans (by rw[(ud.mp ht).2]);refine(zq rfl rfl ⟨wl,_,_,_,rfl,rfl,SqL.of hwlA,vK _ _,?_⟩);refine(zg rfl ⟨e.bo,cB,e.dx,_,_,rfl,eo,N.cl,N.b3,rfl,_,_,rfl,.inl (SqL.of he.r),(zg rfl ⟨e.bo,cB,e.dx,_,_,rfl,eo,N.cl,N.b1,rfl,_,_,rfl,.inl (SqL.of hw),(zw rfl rfl (zg rfl ?_))⟩)⟩);refine ite2 (fun c=>?_) (fun c=>?_)
 ·rw[dA]at c
  have c:e.rs.length < ws.length:=by lia
  obtain⟨t,ht,hIt⟩:=hIT'.get (ui c);obtain⟨sk1,sk2⟩:=stk;rw[dr t ht]at sk1;obtain⟨spre,sk3⟩:=sk1;refine wK rfl (fun R h=>(zg rfl ⟨e.bo,cB,e.dx,_,_,rfl,eo,N.cl,N.b1,rfl,(zg rfl ⟨e.bo,cB,e.dx,_,_,rfl,eo,N.cl,N.b3,rfl,_,_,rfl,.inl (SqL.of he.r),_,_,_,_,rfl,rfl,SqL.of hw,yo (ui c),h⟩)⟩)) (D.beg hIt (show D.Ok (D.pre t) Ha by rw[spre];exact okA) hRd hRM fun Hb pq l fl vs R' kB okB hq hl hlB sub sub' dom' Rl hks hfin=>?_);refine(zg rfl ⟨.inl ⟨rfl,_,SqL.of (kB _ _ mwl hwlA)⟩,(zg rfl (ixT hq aI0 (zg rfl (ixT hq aI1 (fun x' dx' hx' hdx' nxd'=>?_)))))⟩);refine⟨x',dx',l,fl,rfl,uX9,fun Hc rb kp' hrb hrb2 hxc=>⟨rfl,?_⟩⟩;have sbc:Same Hb Hc:=fun b u e=>kp' b u (zi e hx') (by rw[zj (zi e hx'),zj (zi e hdx')];exact e);have nrx:rb≠x':=fun z=>by
   rw[z,uX9]at hrb;cases hrb
  have nrd':rb≠dx':=fun z=>by
   rw[z,zj nxd',uX9]at hrb;cases hrb
  have hrbB:Hb rb=nO:=by
   rw[zj nrx,zj nrd']at hrb;exact hrb
  have okC:D.Ok (D.mid t) Hc:=D.okk okB fun b u e _=>sbc b u e;have hMB:∀b,Hb b=nO->¬ D.M b:=fun b e m=>D.okM okB m e;have hwlC:Hc wl=sO (.lst ((es.reverse.map fun e=>V.ref e.bo)++[.ref e.bo])):=sbc _ _ (kB _ _ mwl hwlA);refine⟨wl,(zw rfl rfl ⟨hwlC,by rw[uf,ub,UA];show es.length+1 < _;lia,?_⟩)⟩;have nR'w:¬ R' wl:=fun z=>by
   rcases sub' _ z with z|z
   ·exact nRw z
   ·rw[hwlA]at z;cases z
  have kzA:Kz D.M R Ha (upd Hc wl (.lst ((es.reverse.map fun e=>V.ref e.bo)++[.ref e.bo]++[.ref x']))):=fun b u q1 q2 q3=>by
   rw[zj]
   ·exact sbc _ _ (kB _ _ q2 q1)
   ·intro z
    rw[z,hwlA]at q1;cases q1;rw[z]at q3;exact nRw (q3 _ rfl)
  have kzB:Kz D.M R' Hb (upd Hc wl (.lst ((es.reverse.map fun e=>V.ref e.bo)++[.ref e.bo]++[.ref x']))):=fun b u q1 q2 q3=>by
   rw[zj]
   ·exact sbc _ _ q1
   ·intro z
    rw[z,kB _ _ mwl hwlA]at q1;cases q1;rw[z]at q3;exact nR'w (q3 _ rfl)
  have nx':x'≠wl:=zi (by exact kB _ _ mwl hwlA) hx' |>.symm
  have nrb:rb≠wl:=(zi (kB _ _ mwl hwlA) hrbB).symm;have nl:l≠wl:=fun z=>nR'w (z ▸ Rl);have nolds:∀e'∈e::es,Hc e'.ra=sO (.lst e'.rs)/\e'.ra≠wl/\¬ R' e'.ra:=fun e' he'=>by
   have h':=hes e' he';refine⟨sbc _ _ (kB _ _ h'.nM h'.r),fun z=>?_,fun z=>?_⟩
   ·have:=(uP.mp nd).1
    exact this (z ▸ uq.mpr ⟨e',he',rfl⟩)
   ·rcases sub' _ z with z|z
    ·exact h'.nr z
    ·rw[h'.r]at z;cases z
  refine fin _ _ ⟨_,?_,⟨x',dx',l,rb,fl,sO t,D.kids t,[]⟩ :: e::es,D.mid t,R',_,_,_,_,rfl,rfl,?_,D.okk okC ?_,?_,nR'w,?_,?_,.up lk rfl ht,?_,?_,?_,?_,?_,⟨D.chn t,sk3,sk2⟩⟩
  ·show 1+(((D.kids t).drop 0).map D.wt).sum+mlow D (e::es) < 1+((e.ts.drop e.rs.length).map D.wt).sum+mlow D es
   rw[dr t ht]
   have:=D.wk t
   rw[show mlow D (e::es)=1+((e.ts.drop (e.rs.length+1)).map D.wt).sum+mlow D es from rfl];simp only[tD,uF,Uy]
   lia
  ·exact((kHa.trans kB).trans (.of sbc)).put hwl0
  ·intro b u q1 q2
   rw[zj]
   ·exact q1
   ·intro z
    rw[z,hwlC]at q1;cases q1;rw[z]at q2;exact mwl (q2 _ rfl)
  ·rw[uX9]
   simp
  ·intro e' he'
   rcases uy.mp he' with rfl|he'
   ·exact⟨by rw[zj nx'];exact hxc,hMB _ hx',⟨vs,by rw[zj nl];exact sbc _ _ hlB,hks.imp fun a b q=>D.itk q okB kzB fun _ z=>z⟩,Rl,by rw[zj nrb];exact hrb2,fun z=>dom' _ z hrbB,hMB _ hrbB,uK _,.nil,D.ifk hfin okB kzB fun _ z=>z,rfl⟩
   ·obtain⟨n1,n2,n3⟩:=nolds e' he'
    exact(hes e' he').keep okA kzA hRM sub (by rw[zj n2];exact n1) n3
  ·intro e' he'
   rcases uy.mp he' with rfl|he'
   ·exact(kHa.trans kB).free (hMB _ hrbB) hrbB
   ·exact hra e' he'
  ·intro b z
   by_cases hb:b=wl
   ·rw[hb,uX9];simp
   ·rw[zj hb]
    cases q:Hb b with
    |none=>exact absurd q (dom' b z)
    |some u=>rw[sbc _ _ q];simp
  ·intro b z
   rcases sub' b z with z|z
   ·exact hRM b z
   ·exact hMA b z
  ·rw[uF,uP]at *
   refine⟨fun z=>?_,uP.mpr ⟨fun z=>?_,nd.2⟩⟩
   ·rcases uy.mp z with z|z
    ·exact nrb z.symm
    ·exact nd.1 z
   ·obtain⟨e',he',z⟩:=uq.mp z
    have:=kB _ _ (hes e' he').nM (hes e' he').r
    rw[z,hrbB]at this;cases this
  ·refine uH ?_ hms
   show 1+(((D.kids t).drop 0).map D.wt).sum+mlow D (e::es)<=1+((e.ts.drop e.rs.length).map D.wt).sum+mlow D es;rw[dr t ht]
   have:=D.wk t
   rw[show mlow D (e::es)=1+((e.ts.drop (e.rs.length+1)).map D.wt).sum+mlow D es from rfl];simp only[tD,uF,Uy]
   lia
  ·intro e' he'
   rcases uy.mp he' with rfl|he'
   ·have h1:=D.wk t
    have h2:D.wt t<=mall D (e::es):=by
     show _<=1+((e.ts.drop e.rs.length).map D.wt).sum+mlow D es;rw[dr t ht,uF,Uy];lia
    have h3:=Jw D (D.kids t);show(D.kids t).length<=10000000;lia
   ·exact hln e' he'
 ·have c:¬ e.rs.length < ws.length:=fun z=>c (decide_eq_true (by lia))
  have le:=he.le;have rr:=he.rr;obtain⟨sk1,sk2⟩:=stk;rw[List.drop_eq_nil_of_le (by lia)]at sk1;have sk1:cur=eEnd D root e:=sk1;rw[uo (by lia)]at rr;refine(zg rfl ⟨e.bo,cB,e.dx,_,_,rfl,eo,N.cl,N.b2,rfl,?_⟩);have pop:∀{Hb:Hp},Hb wl=sO (.lst ((es.reverse.map fun e=>V.ref e.bo)++[.ref e.bo]))->∀{Q:VK},Q (.ref e.bo) (upd Hb wl (.lst (es.reverse.map fun e=>V.ref e.bo)))->rPop (.ref wl) [] Hb Q:=fun h Q q=>⟨wl,_,.ref e.bo,rfl,rfl,h,by simp,by rw[List.dropLast_concat];exact q⟩;cases htk:e.tk with
  |none =>
   have ecur:cur=D.post root:=by rw[sk1];unfold eEnd;rw[htk]
   subst ecur;have fin:=he.fin;rw[htk]at fin;obtain⟨e1,e2⟩:=fin;have es0:es=[]:=by
    cases lk with
    |bot _=>rfl
    |up _ q _=>rw[htk]at q;cases q
   subst es0;rw[e2]at rr;have hrs:=he.r;generalize e.rs=rs at *;cases rr with
   |cons hv hn =>
   cases hn;rw[e1];refine wK rfl (fun R h=>(zg rfl ⟨e.bo,cB,e.dx,_,_,rfl,eo,N.cl,N.b3,rfl,h⟩)) ⟨fdo,_,_,GO.mono (by lia),bO,⟨e.ra,_,[],rfl,hrs,?_⟩,.inr kO⟩;refine(zg rfl ⟨.inl ⟨rfl,_,SqL.of hwlA⟩,pop hwlA ?_⟩);refine(zg rfl ⟨_,_,rfl,.inl (SqL.of uX9),rfl,(zg rfl (iteT (zg rfl ?_)))⟩);rw[rt_];refine q _ _ R (kHa.put hwl0) (D.okk okA fun b u q1 q2=>?_) hRM (D.irk hv okA (fun b u q1 q2 q3=>?_) fun _ z=>z)
   ·rw[zj]
    ·exact q1
    ·intro z
     rw[z,hwlA]at q1;cases q1;rw[z]at q2;exact mwl (q2 _ rfl)
   ·rw[zj]
    ·exact q1
    ·intro z
     rw[z,hwlA]at q1;cases q1;rw[z]at q3;exact nRw (q3 _ rfl)
  |some t =>
   have eE:eEnd D root e=D.post t:=by unfold eEnd;rw[htk]
   have ecur:cur=D.post t:=sk1.trans eE;subst ecur;rw[eE]at sk2;have fin:=he.fin;rw[htk]at fin;obtain⟨e1,e2⟩:=fin;rw[e2]at rr;cases lk with
   |bot q=>rw[htk]at q;cases q
   |@up _ e' es' t' lk' q ht' =>
   rw[htk]at q;cases q;have he':=hes e' (.tail _ (.head _));have ndA:=nd;rw[uF,uF,uP,uP,uP]at ndA;obtain⟨nd1,nd2,nd3,nd4⟩:=ndA;have nwe:e.ra≠wl:=fun z=>nd1 (z ▸ .head _);have nwe':e'.ra≠wl:=fun z=>nd1 (z ▸ .tail _ (.head _));have nee':e'.ra≠e.ra:=fun z=>nd2 (z ▸ .head _);have kzR:Kz D.M R Ha Ha:=fun b u q _ _=>q;refine wK rfl (fun R h=>(zg rfl ⟨e.bo,cB,e.dx,_,_,rfl,eo,N.cl,N.b3,rfl,h⟩)) (D.fin (R:=fun b=>R b\/b=e.ra) (D.ifk e1 okA kzR fun _ z=>.inl z) okA ?_ ?_ (.inr rfl) he.r (rr.imp fun a b q=>D.irk q okA kzR fun _ z=>.inl z) fun Hb rv R' kB okB sub sub' dom' hIR=>?_)
   ·rintro b (z|z)
    ·exact hRd b z
    ·rw[z,he.r];simp
   ·rintro b (z|z)
    ·exact hRM b z
    ·rw[z];exact he.nM
   have hwlB:=kB _ _ mwl hwlA;have heB:=kB _ _ he'.nM he'.r;have hoB:=kB _ _ he'.nb he'.o;have no':e'.bo≠wl:=yn hoB hwlB (by unfold BO;intro z;cases z);refine(zg rfl ⟨.inl ⟨rfl,_,SqL.of hwlB⟩,pop hwlB ?_⟩);have els':((e'::es').reverse.map fun e=>V.ref e.bo)=(es'.reverse.map fun e=>V.ref e.bo)++[.ref e'.bo]:=by simp
   rw[els'];refine(zg rfl ⟨_,_,rfl,.inl (SqL.of uX9),rfl,(zg rfl (iteN ?_ ?_))⟩)
   ·rw[uf]
    exact eO (by intro z;have:=V.int.inj z;simp at this;lia)
   refine(zq rfl rfl ⟨wl,_,_,_,rfl,rfl,SqL.of uX9,vK _ _,e'.bo,cB,e'.dx,_,.ref e'.ra,rfl,by rw[zj no'];exact hoB,N.cl,N.b3,rfl,.inl ⟨rfl,_,SqL.of (by rw[zj nwe'];exact heB)⟩,(zg rfl ⟨e'.ra,(zw rfl rfl ⟨by rw[zj nwe'];exact heB,?_,?_⟩)⟩)⟩)
   ·have:=(ud.mp ht').1
    have:=hln e' (.tail _ (.head _))
    lia
   have nR'w:¬ R' wl:=fun z=>by
    rcases sub' _ z with(z|z)|z
    ·exact nRw z
    ·exact nwe z.symm
    ·rw[hwlA]at z;cases z
   have nR':∀e1∈e'::es',¬ R' e1.ra:=fun e1 h1 z=>by
    rcases sub' _ z with(z|z)|z
    ·exact(hes e1 (.tail _ h1)).nr z
    ·exact nd2 (z ▸ uq.mpr ⟨e1,h1,rfl⟩)
    ·rw[(hes e1 (.tail _ h1)).r]at z;cases z
   have kzB:Kz D.M R' Hb (upd (upd Hb wl (.lst ((es'.reverse.map fun e=>V.ref e.bo)++[.ref e'.bo]))) e'.ra (.lst (e'.rs++[rv]))):=fun b u q1 q2 q3=>by
    have n1:b≠e'.ra:=fun z=>by
     rw[z,heB]at q1;cases q1;rw[z]at q3;exact nR' e' (.head _) (q3 _ rfl)
    have n2:b≠wl:=fun z=>by
     rw[z,hwlB]at q1;cases q1;rw[z]at q3;exact nR'w (q3 _ rfl)
    rw[zj n1,zj n2];exact q1
   have kzA:Kz D.M R Ha (upd (upd Hb wl (.lst ((es'.reverse.map fun e=>V.ref e.bo)++[.ref e'.bo]))) e'.ra (.lst (e'.rs++[rv]))):=fun b u q1 q2 q3=>kzB b u (kB _ _ q2 q1) q2 fun xs z=>sub _ (.inl (q3 xs z));have subR:∀b,R b->R' b:=fun b z=>sub _ (.inl z);refine fin _ _ ⟨_,?_,{ e' with rs:=e'.rs++[rv] } :: es',D.post t,R',_,_,_,_,rfl,rfl,((kHa.trans kB).put hwl0).put (hra e' (.tail _ (.head _))),D.okk okB ?_,?_,nR'w,?_,?_,?_,?_,?_,?_,?_,?_,?_⟩
   ·show 1+((e'.ts.drop (e'.rs++[rv]).length).map D.wt).sum+mlow D es' < 1+((e.ts.drop e.rs.length).map D.wt).sum+(1+((e'.ts.drop (e'.rs.length+1)).map D.wt).sum+mlow D es')
    rw[uf,uY];lia
   ·intro b u q1 q2
    have n1:b≠e'.ra:=fun z=>by
     rw[z,heB]at q1;cases q1;rw[z]at q2;exact he'.nM (q2 _ rfl)
    have n2:b≠wl:=fun z=>by
     rw[z,hwlB]at q1;cases q1;rw[z]at q2;exact mwl (q2 _ rfl)
    rw[zj n1,zj n2];exact q1
   ·rw[zj nwe'.symm,uX9]
    simp
   ·intro e1 h1
    rcases uy.mp h1 with rfl|h1
    ·obtain⟨o,nb,⟨ws',w1,w2⟩,Rw,r,nr',nM,le',rr',fin⟩:=he'
     refine⟨kzA _ _ o nb (by intro xs q;unfold BO at q;cases q),nb,⟨ws',kzA _ _ w1 (hRM _ Rw) (fun _ _=>Rw),w2.imp fun a b q=>D.itk q okA kzA subR⟩,subR _ Rw,uX9,nR' e' (.head _),nM,?_,?_,?_⟩
     ·show(e'.rs++[rv]).length<=_
      rw[uf,uY];exact(ud.mp ht').1
     ·show All2 _ (e'.ts.take (e'.rs++[rv]).length) (e'.rs++[rv])
      rw[uf,uY,uD,ht'];exact(rr'.imp fun a b q=>D.irk q okA kzA subR).app (.cons (D.irk hIR okB kzB fun _ z=>z) .nil)
     ·show(match e'.tk with|none=>_|some t=>_)
      cases q:e'.tk with
      |none=>rw[q]at fin;exact fin
      |some t=>rw[q]at fin;exact⟨D.ifk fin.1 okA kzA subR,fin.2⟩
    ·have h1':=hes e1 (.tail _ (.tail _ h1))
     have m1:e1.ra≠e'.ra:=fun z=>nd3 (z ▸ uq.mpr ⟨e1,h1,rfl⟩);have m2:e1.ra≠wl:=fun z=>nd1 (z ▸ .tail _ (.tail _ (uq.mpr ⟨e1,h1,rfl⟩)));exact h1'.keep okA kzA hRM subR (by rw[zj m1,zj m2];exact kB _ _ h1'.nM h1'.r) (nR' e1 (.tail _ h1))
   ·intro e1 h1
    rcases uy.mp h1 with rfl|h1
    ·exact hra e' (.tail _ (.head _))
    ·exact hra e1 (.tail _ (.tail _ h1))
   ·cases lk' with
    |bot q=>exact .bot q
    |up a b c=>exact .up a b c
   ·intro b z
    have:=dom' b z
    unfold upd;split
    ·simp
    ·split
     ·simp
     ·exact this
   ·intro b z
    rcases sub' b z with(z|z)|z
    ·exact hRM b z
    ·rw[z];exact he.nM
    ·exact hMA b z
   ·exact uP.mpr ⟨fun z=>nd1 (.tail _ z),uP.mpr ⟨nd3,nd4⟩⟩
   ·refine uH ?_ hms
    show 1+((e'.ts.drop (e'.rs++[rv]).length).map D.wt).sum+mlow D es'<=1+((e.ts.drop e.rs.length).map D.wt).sum+(1+((e'.ts.drop (e'.rs.length+1)).map D.wt).sum+mlow D es');rw[uf,uY];lia
   ·intro e1 h1
    rcases uy.mp h1 with rfl|h1
    ·exact hln e' (.tail _ (.head _))
    ·exact hln e1 (.tail _ (.tail _ h1))
   ·refine⟨?_,sk2.2⟩
    show Chn D.pre D.post (D.post t) (e'.ts.drop (e'.rs++[rv]).length) _;rw[uf,uY];exact sk2.1
end
end GN
namespace HT
open PySem PySem.Spec PyProof.Rows
theorem getItem_tuple_whole{t:aO}{Q:VSP}(ht:IsTup s.heap t items)(hs:s.heap.IsSliceOf sl vl vu .none)(pl:IsPart vl lo)(pu:IsPart vu hi)
  (hw:sIx items.size 0 lo=0/\sIx items.size items.size hi=items.size) (h:Q (.ref t) s):wpAny (model prog w) A (getItem (.ref t) (.ref sl)) Q E s:=by
 obtain⟨os,hos,hcs,hds⟩:=id hs;have hTs:s.TypeIs (.ref sl) "slice":=⟨os,hos,hcs⟩;unfold getItem
 try with_reducible refine wpAny_holding ?_
 first|refine bA (pO ?_)|skip
 refine bA (wpAny_sequenceKey ht.typeIs (by decide) ?_);refine bA (wpAny_callSpecial?_slot (name:=Str.ofString "__getitem__") ht.typeIs Up
  (wpAny_call_entry Up ht.typeIs entry_tuple_getitem ?_ (args_tuple_getitem _ _)))
 show wpAny _ _ (Builtin.Tuple.tupleItemsOf (.ref t) >>= _) _ _ s;refine bA (tupleItemsOf_ ht ?_);refine bA (wpAny_typeOf hTs ?_);rw[iP (by decide)];refine bA (xk hs pl pu ?_);have hyes:(((sIx items.size 0 lo:Nat):Int) == 0 && (1:Int) == 1 && (sIx items.size items.size hi-sIx items.size 0 lo) == items.size)=tV:=by
  rw[hw.1,hw.2];simp
 show wpAny _ _ (if(((sIx items.size 0 lo:Nat):Int) == 0 && (1:Int) == 1 && (sIx items.size items.size hi-sIx items.size 0 lo) == items.size)=tV then _ else _) _ _ s;rw[iP hyes];have hx:wpAny (model prog w) A.in1 (Builtin.Tuple.tupleIsExact (.ref t)) (fun b s'=>b=tV/\s'=s) (fun _ _=>False) s:=by
  unfold Builtin.Tuple.tupleIsExact;exact bA (wpAny_typeOf ht.typeIs (pO ⟨by decide,rfl⟩))
 refine bA (wpAny_mono hx (fun b s' q=>?_) fun _ _ z=>z.elim);obtain⟨rfl,rfl⟩:=q;rw[iP rfl];exact bA (wpAny_rule (pO ⟨_,rfl,pO h⟩))
end HT
namespace L2
open PySem PySem.Spec PyProof.Rows
def rSlW(K:uc):V->Option Int->Option Int->Hp->VK->Prop:=fun x lo hi H Q=>∃a xs,x=.ref a/\SqT K H a xs /\
 (cutV xs lo hi=xs->Q (.ref a) H)/\∀p,H p=nO->Q (.ref p) (upd H p (.tup (cutV xs lo hi)))
theorem zat:SlR X (rSlW X.K):=by
 intro pins s σ H x v vl vu lo hi sl Q I rx hs pl pu h;obtain⟨a,xs,rfl,hx,q1,q⟩:=h;by_cases hw:HT.sIx xs.length 0 lo=0/\HT.sIx xs.length xs.length hi=xs.length
 ·cases rx
  obtain⟨its,r,ht,hz⟩:=I.tuple hx;have hlen:its.toArray.size=xs.length:=by rw[uA];exact r.length.symm
  refine⟨"tuple",_,Up.lookup,ht.typeIs,?_⟩;refine HT.getItem_tuple_whole ht hs pl pu (by rw[hlen];exact hw) ⟨.ref a,H,I,rfl,q1 ?_⟩;unfold cutV;rw[hw.1,hw.2];simp
 ·exact zcg pins s σ H (.ref a) v vl vu lo hi sl Q I rx hs pl pu ⟨a,xs,rfl,hx,hw,q⟩
def rSlO:V->Option Int->Option Int->Hp->VK->Prop:=fun x lo hi H Q=>∃a xs,x=.ref a/\H a=sO (.tup xs)/\∀p H',(∀b o,H b=sO o->H' b=sO o)->H' p=sO (.tup (cutV xs lo hi))->Q (.ref p) H'
theorem zau:SlR X rSlO:=by
 intro pins s σ H x v vl vu lo hi sl Q I rx hs pl pu h;obtain⟨a,xs,rfl,hx,q⟩:=h;refine zat pins s σ H (.ref a) v vl vu lo hi sl Q I rx hs pl pu ⟨a,xs,rfl,SqT.of hx,fun e=>q a H (fun _ _ z=>z) (by rw[e];exact hx),fun p hp=>q p _ (fun b o z=>?_) uX9⟩;rw[zj (zi z hp)];exact z
theorem wL:jSl X rSlO:=⟨zau⟩
inductive TyN(H:Hp):V->Bool->Prop where
 |int (i:Int):TyN H (.int i) fO
 |str (z:Str):TyN H (.str z) fO
 |bl (b:Bool):TyN H (.bl b) fO
 |non:TyN H .non fO
 |lst {a:aO} {xs:List V} (e:H a=sO (.lst xs)):TyN H (.ref a) tV
 |tup {a:aO} {xs:List V} (e:H a=sO (.tup xs)):TyN H (.ref a) tV
section
variable{k:Nat}{E:XK}{m:Str}{p:Pos}{t:TA}
theorem yK{i:Expr}(hr:Room k X.A)(ho:jE X o td)(hi:jE X i ty)(hs:NoSl i:=by intro _ _;rfl):jE X (.Subscript o i pos) (zbn td ty):=⟨Q9 (zbb hr) ho.out hi.out hs⟩
theorem wM{f:Expr}{tx:TE}(hr:Room k X.A)(ho:jE X o td)(he:jE X e ty)(hf:jE X f tx)(m:M2 X o "get" apos e f cpos:=by exact⟨rfl,rfl,rfl,rfl⟩):jE X (.Call (.Attribute o "get" apos) [e,f] [] cpos) (V6 td ty tx):=⟨V7 (zbb hr) ho.out he.out hf.out m⟩
end
section
variable{Q:VK}
theorem xK{K:uc}{k m:Bool}{ys:List V}(hlen:xs.length=ys.length)(Pv:Nat->St->List V->Hp->Prop)(h0:Pv 0 σ [] H)(hl:∀i τ zs H,i<=xs.length->Pv i τ zs H->SqK k K H a xs/\SqK m K H b ys)
  (hs:∀i x y T τ zs H,xs[i]?=sO x->ys[i]?=sO y->H T=nO->Pv i τ zs H->g (.ref T) τ (upd H T (.tup [x,y])) fun τ2 H2=>tt τ2 H2 fun b H3=>if b=tV then te τ2 H3 fun y H4=>zs.length < sizeLine/\Pv (i+1) τ2 (zs++[y]) H4 else Pv (i+1) τ2 zs H3)
  (hd:∀τ zs H,Pv xs.length τ zs H->∀p,H p=nO->Q (.ref p) (upd H p (.lst zs))):∃W,(∃m,W 0 m σ [] H)/\lcBy (Itz K k m a b) g tt te Q W:=by
 refine⟨fun i m τ zs H=>m=xs.length-i/\i<=xs.length/\Pv i τ zs H,⟨xs.length,by simp,uK _,h0⟩,?_⟩;rintro i n τ zs H ⟨rfl,hi,p⟩;obtain⟨q1,q2⟩:=hl i τ zs H hi p;by_cases hlt:i < xs.length
 ·refine .inr ⟨go2 q1 q2 (ui hlt) (ui (hlen ▸ hlt)),Pv (i+1),fun τ' zs' H' p'=>⟨xs.length-(i+1),by lia,rfl,hlt,p'⟩,fun x H' yq=>?_⟩
  obtain⟨T,x,y,rfl,hT,rfl,e1,e2⟩:=yld2 yq q1 q2;exact hs i x y T τ zs H e1 e2 hT p
 ·have e:i=xs.length:=by lia
  subst e;exact .inl ⟨zbh q1 q2 (uj _),hd τ zs H p⟩
end
end L2
namespace L2
open PySem
section
variable{a:Expr}
theorem XA:jOp X (binaryOp .BitOr) (rI0 fun i j=>.int (Builtin.bitOr i j)):=⟨zdw⟩
theorem X6:jOp X (binaryOp .BitAnd) (rI0 fun i j=>.int (Builtin.bitAnd i j)):=⟨zb7⟩
theorem zcV(ha:jE X a ta):jE X (.UnaryOp .Invert a pos) (tUn (rU fun i=>.int (Builtin.bitNot i)) ta):=⟨za4 zb9 ha.out⟩
end
end L2
namespace GN
open PySem L2 K11
variable{v:V}
inductive spBits(vs:List V)(H:Hp)(Q:VK)(e_3:XK):Prop
 |mk (p:aO):(∃ns:lS,vs=[.ref p]/\H p=sO (.lst (ns.map V.str))/\ns.Nodup/\ns.length<=1000/\∀(H':Hp)(d:aO),Same H H'->H d=nO->H' d=sO (.dK (yA ns 1))->Q (.ref d) H')->spBits vs H Q e_3
inductive spTog(vs:List V)(H:Hp)(Q:VK)(e_3:XK):Prop
 |mk (p:aO) (d:aO) (xs:lS):(∃ns:lS,vs=[.ref p,.ref d]/\H p=sO (.tup (xs.map V.str))/\H d=sO (.dK (yA ns 1))/\Q (.int ((tog ns xs:Nat):Int)) H)->spTog vs H Q e_3
inductive spNamesOf(vs:List V)(H:Hp)(Q:VK)(e_3:XK):Prop
 |mk (p:aO):(∃d:De,vs=[.ref p]/\IsDe H d p/\∀(H':Hp)(q:aO),Same H H'->H' q=sO (.tup (d.uses.map V.str))->Q (.ref q) H')->spNamesOf vs H Q e_3
inductive spUsed(vs:List V)(H:Hp)(Q:VK)(e_3:XK):Prop
 |mk (p:aO):(∃b:Bd,vs=[.ref p]/\IsB H b p/\∀(H':Hp)(q:aO),Same H H'->H' q=sO (.tup (b.used.map V.str))->Q (.ref q) H')->spUsed vs H Q e_3
theorem WN{b:Nat}(h:x∉ns):putK (yA ns b) (.inr x) (.int ((b*2 ^ ns.length:Nat):Int))=yA (ns++[x]) b:=by
 unfold putK;rw[xb,xS,iN h,iN (by simp),jM]
theorem Jx{xs:lS}(h:xs[i]?=sO x):tog ns (xs.take (i+1))=tog ns (xs.take i) ||| bitN ns x:=by
 unfold tog;rw[uD,h,List.foldl_append]
 rfl
section
variable{K:uc}
theorem scBits:FnScope ["names","bits","bit","name"] ["names"] (zt Ja):=.ok
theorem zav(F:Fun K "bits_of" "bits_of" Ja f fd):FnOk P w K mg base CX0 1 f fd ["names"] spBits:=by
 refine F.by scBits (fun vs H Q E h=>?_) (fun cdv A outer s H vs Q E hr h=>?_)
 ·obtain⟨p,ns,rfl,_⟩:=h
  rfl
 obtain⟨p,ns,rfl,hp,nd,hl,q⟩:=h;refine⟨_,
  (zh (sE 1 scBits.nd xJ)
  (zh (sE 2 scBits.nd zo)
  (zh (ya PassesOwn.never rfl (zP K (jv 0)) (gN 3 scBits.nd)
   (zh (xw hr (jv 1) (jv 3) (jv 2)) (zn (sE 2 scBits.nd (zx yh (jv 2) (jv 2))))))
  (zn (zv (jv 1)))))),?_⟩
 have sl:=zN;intro d hd;have s1:=zk (o:=.dK []) hd;have npd:p≠d:=zi hp hd;refine(zg rfl ⟨p,rfl,⟨_,SqL.of (s1 _ _ hp)⟩,yX (xs:=ns.map V.str) (fun i σ H'=>Same H H'/\H' d=sO (.dK (yA (ns.take i) 1))/\∃z,σ=[sR p,sR d,sO (.int ((2 ^ i:Nat):Int)),z]) ⟨s1,uX9,nO,rfl⟩ (fun i σ H' _ h=>SqL.of (h.1 _ _ hp)) ?_ ?_⟩)
 ·rintro i v σ H1 hv ⟨s2,hd2,z,rfl⟩
  obtain⟨x,hx,rfl⟩:=L2.gM hv;have hi:=(ud.mp hx).1;have hnx:x∉ns.take i:=fun hm=>by
   obtain⟨j,hj⟩:=U9.mp hm;have hj':j < i:=by
    have:=(ud.mp hj).1
    rw[ut]at this;lia
   rw[List.getElem?_take_of_lt hj']at hj
   have:=(List.getElem?_inj (ud.mp hj).1 nd).mp (hj.trans hx.symm)
   lia
  have tl:(ns.take i).length=i:=by rw[ut];lia
  have e:=WN (b:=1) hnx;rw[tl,Nat.one_mul]at e;refine(zq rfl rfl (zg rfl ⟨d,(zg rfl ⟨DPut.k (k:=.inr x) hd2 (by rw[jN,tl];lia),?_⟩)⟩));refine(zq rfl rfl (zw rfl rfl ⟨s2.put hd,?_,sO (.str x),?_⟩))
  ·rw[uX9,e,uD,hx]
   rfl
  ·show[_,_,sO (V.int (_+_)),_]=_
   rw[<- Int.natCast_add,<- Nat.two_mul,Nat.mul_comm,<- Nat.pow_succ]
 ·rintro σ H1 ⟨s2,hd2,z,rfl⟩
  rw[ub,uo (uj _)]at hd2;exact(zg rfl (q _ d s2 hd hd2))
theorem scTog:FnScope ["names","bits","found","name"] ["names","bits"] (zt sTog):=.ok
theorem zcW(F:Fun K "together" "together" sTog f fd):FnOk P w K mg base CX0 1 f fd ["names","bits"] spTog:=by
 refine F.by scTog (fun vs H Q E h=>?_) (fun cdv A outer s H vs Q E hr h=>?_)
 ·obtain⟨p,d,xs,ns,rfl,_⟩:=h
  rfl
 obtain⟨p,d,xs,ns,rfl,hp,hd,q⟩:=h;refine⟨_,
  (zh (sE 2 scTog.nd zo)
  (zh (ya PassesOwn.never rfl (yF K (jv 0)) (gN 3 scTog.nd)
   (zn (sE 2 scTog.nd (zx XA (jv 2) (wM hr (jv 1) (jv 3) zo)))))
  (zn (zv (jv 2))))),?_⟩
 refine(zg rfl ⟨p,rfl,⟨_,SqT.of hp⟩,xq (xs:=xs.map V.str) (fun i σ H'=>H=H'/\∃z,σ=[sR p,sR d,sO (.int ((tog ns (xs.take i):Nat):Int)),z]) ⟨rfl,nO,rfl⟩ (fun i σ H' _ h=>SqT.of (h.1 ▸ hp)) ?_ ?_⟩)
 ·rintro i v σ H1 hv ⟨rfl,z,rfl⟩
  obtain⟨x,hx,rfl⟩:=L2.gM hv;have e:((valV (yA ns 1) (.inr x)).getD (.int 0))=.int ((bitN ns x:Nat):Int):=by
   rw[xS];by_cases c:x∈ns
   ·rw[iP c,Nat.one_mul];rfl
   ·rw[iN c,Yt c];rfl
  refine(zq rfl rfl ⟨d,rfl,.inl ⟨_,.inl hd⟩,(zg rfl ⟨_,DGet.k (k:=.inr x) hd,?_⟩)⟩);rw[e];refine(zw rfl rfl ⟨rfl,sO (.str x),?_⟩);show[_,_,sO (V.int (Builtin.bitOr _ _)),_]=_;rw[Zz,<- Jx hx]
 ·rintro σ H1 ⟨rfl,z,rfl⟩
  rw[ub,uo (uj _)];exact(zg rfl (q))
theorem WO:FnScope ["deed"] ["deed"] (zt vS):=.ok
theorem XB(F:Fun K "names_of" "names_of" vS f fd):FnOk P w K mg base CX0 1 f fd ["deed"] spNamesOf:=by
 refine F.by WO (fun vs H Q E h=>?_) (fun cdv A outer s H vs Q E hr h=>?_)
 ·obtain⟨p,d,rfl,_⟩:=h
  rfl
 obtain⟨p,d,rfl,hd,q⟩:=h;refine⟨_,
  (zh (zH (tN zM (zp K (jv 0)) zz) (zn (zv (zA zL))) zB)
  (zh (zH (tN zM (zp K (jv 0)) zz) (zn (zv (yC wL (jv 0) (yN zo) yM))) zB)
  (zh (zH (tN zM (zp K (jv 0)) zz) (zn (zv (zx wr (zA (jA1 (zp K (jv 0)))) (zp K (jv 0))))) zB)
  (zn (zv (zp K (jv 0))))))),?_⟩
 have sl:=zN;cases hd with
 |num hp =>
  refine(zg rfl (ixT hp aI0 ⟨rfl,(zg rfl (ite2 (fun _=>?_) aB))⟩));exact⟨sN0,fun r hr=>q _ r (zk hr _) uX9⟩
 |@op w0 a b _ hp =>
  refine(zg rfl (ixT hp aI0 ⟨rfl,(zg rfl (ite2 aB (fun _=>?_)))⟩));refine(zg rfl (ixT hp aI0 ⟨rfl,(zg rfl (ite2 (fun _=>?_) aB))⟩));exact(zq rfl rfl ⟨p,(zg rfl ⟨hp,fun r H' s1 h1=>q H' r s1 h1⟩)⟩)
 |@app w0 g xs _ pq hw hp hq =>
  obtain⟨w1,w2,w3⟩:=hw;have n1:¬ (decide (V.str w0=V.str "num")=tV):=fun c=>w1 (V.str.inj (of_decide_eq_true c));have n2:¬ (decide (V.str w0=V.str "op")=tV):=fun c=>w2 (V.str.inj (of_decide_eq_true c));refine(zg rfl (ixT hp aI0 ⟨rfl,(zg rfl (ite2 (fun c=>absurd c n1) (fun _=>?_)))⟩));refine(zg rfl (ixT hp aI0 ⟨rfl,(zg rfl (ite2 (fun c=>absurd c n2) (fun _=>?_)))⟩));refine(zg rfl (ixT hp aI0 ⟨rfl,(zg rfl (ite2 (fun c=>?_) (fun c=>?_)))⟩))
  ·have e:w0="ask":=V.str.inj (of_decide_eq_true c)
   subst e;rw[yy]at q;refine(zg rfl (ixT hp aI1 ⟨sN1,fun t1 h1=>?_⟩));have s1:=zk (o:=.tup [.str g]) h1;refine(zg rfl (ixT (s1 _ _ hp) aI2 ⟨t1,pq,(zw rfl rfl ⟨SqT.of uX9,SqT.of (s1 _ _ hq),by simp,by rw[ub];show 1+xs.length<=_;lia,fun e=>?_,fun _ r hr=>?_⟩)⟩))
   ·have e:xs=[]:=List.map_eq_nil_iff.mp e
    subst e;exact q _ t1 s1 uX9
   ·exact q _ r (s1.new hr) uX9
  ·have e:w0≠"ask":=fun e=>c (decide_eq_true (by rw[e]))
   rw[yi e]at q;exact(zg rfl (ixT hp aI2 (q _ pq (Same.refl _) hq)))
theorem zcX:FnScope ["body"] ["body"] (zt we):=.ok
theorem zaw(F:Fun K "names_used" "names_used" we f fd)(GN':Ca P w K mg base CX0 1 "names_of" ["deed"] spNamesOf):FnOk P w K mg base CX0 2 f fd ["body"] spUsed:=by
 refine F.by zcX (fun vs H Q E h=>?_) (fun cdv A outer s H vs Q E hr h=>?_)
 ·obtain⟨p,b,rfl,_⟩:=h
  rfl
 obtain⟨p,b,rfl,hb,q⟩:=h;refine⟨_,
  (zh (zH (tN zM (zp K (jv 0)) zz) (zn (zv (cA GN' hr (jA1 (zp K (jv 0)))))) zB)
  (zh (zH (tN zM (zp K (jv 0)) zz) (zn (zv (zA (jA1 (zp K (jv 0)))))) zB)
  (zh (zH (Xl K (zp K (jv 0)) (zA (jA2 zz zz))) (zn (zv (zA zL))) zB)
  (zn (zv (zA (jA1 (zp K (jv 0))))))))),?_⟩
 have sl:=zN
 suffices tail:∀{t x:Str}{xs:List V},H p=sO (.tup (.str t::.str x::xs))->t≠"let"->t≠"hold"->inV (.str t) [V.str "drop",V.str "loose"]=fO->(∀(H':Hp)(q:aO),Same H H'->H' q=sO (.tup [.str x])->Q (.ref q) H') ->
   (tSeq _ (tSeq _ (tSeq _ _)):TS) { nx:=fun _ H'=>Q .non H',rt:=Q } [sR p] H by
  cases hb with
  |give hp=>exact tail hp (by decide) (by decide) (by decide) q
  |iff hp _ _=>exact tail hp (by decide) (by decide) (by decide) q
  |case hp _ _ _=>exact tail hp (by decide) (by decide) (by decide) q
  |@lt x d b _ p1 p2 hp hd hb =>
   refine(zg rfl (ixT hp aI0 ⟨rfl,(zg rfl (ite2 (fun _=>?_) aB))⟩));exact(zg rfl (ixT hp aI2 ⟨p1,d,rfl,hd,fun H' r s1 h1=>q H' r s1 h1⟩))
 intro t x xs hp h1 h2 h3 q;have n1:¬ (decide (V.str t=V.str "let")=tV):=fun c=>h1 (V.str.inj (of_decide_eq_true c));have n2:¬ (decide (V.str t=V.str "hold")=tV):=fun c=>h2 (V.str.inj (of_decide_eq_true c));refine(zg rfl (ixT hp aI0 ⟨rfl,(zg rfl (ite2 (fun c=>absurd c n1) (fun _=>?_)))⟩));refine(zg rfl (ixT hp aI0 ⟨rfl,(zg rfl (ite2 (fun c=>absurd c n2) (fun _=>?_)))⟩));refine(zg rfl (ixT hp aI0 ⟨sN2,fun t0 h0=>?_⟩));have s0:=zk (o:=.tup [.str "drop",.str "loose"]) h0;refine⟨t0,(zg rfl ⟨.inr (SqT.of uX9),rfl,rfl,(zg rfl ?_)⟩)⟩;refine ite2 (fun c=>absurd (show inV (.str t) [V.str "drop",V.str "loose"]=tV from c) (by rw[h3];decide)) (fun _=>?_);exact(zg rfl (ixT (s0 _ _ hp) aI1 ⟨sN1,fun r hr=>q _ r (s0.new hr) uX9⟩))
theorem IsY.get{H:Hp}:∀{l:Wy}{ps:List aO}{i:Nat}{p:aO},IsY H l ps->ps[i]?=sO p->∃ns b q r,l[i]?=sO (ns,b)/\H p=sO (.tup [.ref q,.ref r])/\H q=sO (.tup (ns.map V.str))/\IsB H b r
 |_,_,_,_,.nil,e=>by simp at e
 |_,_,0,_,.cons a b c _,e=>by
  simp at e
  subst e;exact⟨_,_,_,_,rfl,a,b,c⟩
 |_,_,i+1,_,.cons _ _ _ d,e=>by
  obtain⟨ns,b,q,r,h1,h2⟩:=IsY.get (i:=i) d (by simpa using e);exact⟨ns,b,q,r,by simpa using h1,h2⟩
def Nt(H:Hp)(m:Nat)(v:V):Prop:=∃q l,v=.ref q/\H q=sO (.tup [.int ((m:Nat):Int),.ref l])
theorem Nt.keep(h:Nt H m v)(t:Tups H H'):Nt H' m v:=by obtain⟨q,l,e,h⟩:=h;exact⟨q,l,e,t _ _ h⟩
def NtL(H:Hp)(R:aO->Prop)(m:Nat)(v:V)(nv:List V):Prop:=∃q l,v=.ref q/\H q=sO (.tup [.int ((m:Nat):Int),.ref l])/\R l/\H l=sO (.lst nv)
mutual
def IsN(ns:lS)(H:Hp)(R:aO->Prop):Bd->V->Prop
 |.give x,v=>NtL H R ((Bd.give x).mk ns) v []
 |.lt x d b,v=>∃w,NtL H R ((Bd.lt x d b).mk ns) v [w]/\IsN ns H R b w
 |.iff x a b,v=>∃w u,NtL H R ((Bd.iff x a b).mk ns) v [w,u]/\IsN ns H R a w/\IsN ns H R b u
 |.case x as,v=>∃ws,NtL H R ((Bd.case x as).mk ns) v ws/\IsNA ns H R as ws
def IsNA(ns:lS)(H:Hp)(R:aO->Prop):Arms->List V->Prop
 |.nil,ws=>ws=[]
 |.cons _ _ b r,ws=>∃w ws',ws=w::ws'/\IsN ns H R b w/\IsNA ns H R r ws'
end
structure NK(H H':Hp)(R R':aO->Prop):Prop where
 t:Tups H H'
 l:∀a xs,R a->H a=sO (.lst xs)->H' a=sO (.lst xs)
 s:∀a,R a->R' a
theorem NtL.keep{nv:List V}(k:NK H H' R R')(h:NtL H R m v nv):NtL H' R' m v nv:=by obtain⟨q,l,e,a,b,c⟩:=h;exact⟨q,l,e,k.t _ _ a,k.s _ b,k.l _ _ b c⟩
mutual
theorem IsN.keep{ns:lS}{H H':Hp}{R R':aO->Prop}(k:NK H H' R R'):∀{b:Bd}{v:V},IsN ns H R b v->IsN ns H' R' b v
 |.give x,v,h=>NtL.keep k h
 |.lt x d b,v,h=>let ⟨w,a,e⟩:=h;⟨w,a.keep k,IsN.keep k e⟩
 |.iff x a b,v,h=>let ⟨w,u,a,e,g⟩:=h;⟨w,u,a.keep k,IsN.keep k e,IsN.keep k g⟩
 |.case x as,v,h=>let ⟨ws,a,e⟩:=h;⟨ws,a.keep k,IsNA.keep k e⟩
theorem IsNA.keep{ns:lS}{H H':Hp}{R R':aO->Prop}(k:NK H H' R R'):∀{as:Arms}{ws:List V},IsNA ns H R as ws->IsNA ns H' R' as ws
 |.nil,ws,h=>h
 |.cons _ _ b r,ws,h=>let ⟨w,ws',e,g,i⟩:=h;⟨w,ws',e,IsN.keep k g,IsNA.keep k i⟩
end
def IsNs(ns:lS)(H:Hp)(R:aO->Prop)(l:Wy)(nv:List V):Prop:=All2 (fun(w:lS×Bd) v=>IsN ns H R w.2 v) l nv
theorem IsNA.ways{ns:lS}{H:Hp}{R:aO->Prop}:∀{as:Arms}{ws:List V},IsNA ns H R as ws↔IsNs ns H R as.ways ws
 |.nil,ws=>by
  unfold IsNA IsNs Arms.ways
  constructor
  ·rintro rfl;exact .nil
  ·intro h;cases h;rfl
 |.cons t xs b r,ws=>by
  unfold IsNA IsNs Arms.ways
  constructor
  ·rintro⟨w,ws',rfl,h1,h2⟩
   exact .cons h1 (IsNA.ways.mp h2)
  ·intro h
   cases h with
   |cons a c=>exact⟨_,_,rfl,a,IsNA.ways.mpr c⟩
theorem IsN.ways{b:Bd}:IsN ns H R b v↔∃nv,NtL H R (b.mk ns) v nv/\IsNs ns H R b.ways nv:=by
 cases b with
 |give x =>
  unfold IsN Bd.ways
  constructor
  ·intro h;exact⟨_,h,.nil⟩
  ·rintro⟨nv,h1,h2⟩;cases h2;exact h1
 |lt x d b =>
  unfold IsN Bd.ways
  constructor
  ·rintro⟨w,h1,h2⟩;exact⟨_,h1,.cons h2 .nil⟩
  ·rintro⟨nv,h1,h2⟩
   cases h2 with
   |cons a c=>cases c;exact⟨_,h1,a⟩
 |iff x a b =>
  unfold IsN Bd.ways
  constructor
  ·rintro⟨w,u,h1,h2,h3⟩;exact⟨_,h1,.cons h2 (.cons h3 .nil)⟩
  ·rintro⟨nv,h1,h2⟩
   cases h2 with
   |cons a c =>
    cases c with
    |cons d e=>cases e;exact⟨_,_,h1,a,d⟩
 |case x as =>
  unfold IsN Bd.ways
  constructor
  ·rintro⟨ws,h1,h2⟩;exact⟨ws,h1,IsNA.ways.mp h2⟩
  ·rintro⟨ws,h1,h2⟩;exact⟨ws,h1,IsNA.ways.mpr h2⟩
theorem IsN.nt{b:Bd}(h:IsN ns H R b v):Nt H (b.mk ns) v:=by obtain⟨_,⟨q,l,e,a,_⟩,_⟩:=IsN.ways.mp h;exact⟨q,l,e,a⟩
def IsN0(ns:lS)(H:Hp)(l:Wy)(nv:List V):Prop:=All2 (fun(w:lS×Bd) v=>Nt H (w.2.mk ns) v) l nv
inductive spNoteOf(vs:List V)(H:Hp)(Q:VK)(e_3:XK):Prop
 |mk (p:aO) (wl:aO) (nl:aO) (d:aO) (b:Bd) (ps:List aO) (nv:List V):(∃ns:lS,vs=[.ref p,.ref wl,.ref nl,.ref d]/\IsB H b p/\H wl=sO (.lst (ps.map V.ref))/\IsY H b.ways ps/\H nl=sO (.lst nv)/\IsN0 ns H b.ways nv/\H d=sO (.dK (yA ns 1))/\∀H' r,Same H H'->H' r=sO (.tup [.int ((b.mk ns:Nat):Int),.ref nl])->Q (.ref r) H')->spNoteOf vs H Q e_3
theorem WP{l:Wy}{xs:lS}{b:Bd}(h:l[i]?=sO (xs,b)):accW ns (l.take (i+1)) 0=accW ns (l.take i) 0 ||| dif (b.mk ns) (tog ns xs):=by
 unfold accW;rw[uD,h,List.foldl_append]
 rfl
theorem scNoteOf:FnScope ["body","ways","notes","bits","found","way","note"] lS16 (zt Zl):=.ok
theorem WQ(F:Fun K "note_of" "note_of" Zl f fd)(GT:Ca P w K mg base CX0 1 "together" ["names","bits"] spTog)(GU:Ca P w K mg base CX0 2 "names_used" ["body"] spUsed)(m_zip:mg "zip"=nO):FnOk P w K mg base CX0 3 f fd lS16 spNoteOf:=by
 refine F.by scNoteOf (fun vs H Q E h=>?_) (fun cdv A outer s H vs Q E hr h=>?_)
 ·obtain⟨p,wl,nl,d,b,ps,nv,ns,rfl,_⟩:=h
  rfl
 obtain⟨p,wl,nl,d,b,ps,nv,ns,rfl,hb,hw,hy,hn,hnv,hd,q⟩:=h;have hr1:Room 1 _:=hr.mono (by decide);refine⟨_,
  (zh (sE 4 scNoteOf.nd zo)
  (zh (ya PassesOwn.never rfl (yG K rfl m_zip (jA2 (jv 1) (jv 2))) (zK K rfl (zu (gN 5 scNoteOf.nd) (zu (gN 6 scNoteOf.nd) zJ)))
   (zn (sE 4 scNoteOf.nd (zx XA (jv 4) (zx X6 (zp K (jv 6)) (zcV (cA GT hr1 (jA2 (zp K (jv 5)) (jv 3)))))))))
  (zn (zv (zA (jA2 (zx XA (jv 4) (cA GT hr1 (jA2 (cA GU hr (jA1 (jv 0))) (jv 3)))) (jv 2))))))),?_⟩
 have sl:=zN;have yl:=hy.len;have nl':b.ways.length=nv.length:=All2.len hnv;refine(zq rfl rfl ⟨wl,nl,tV,tV,_,_,rfl,SqK.l hw,SqK.l hn,vw (xs:=ps.map V.ref) (ys:=nv) (by rw[ub];lia) (fun i σ H'=>Same H H'/\∃y z,σ=[sR p,sR wl,sR nl,sR d,sO (.int ((accW ns (b.ways.take i) 0:Nat):Int)),y,z]) ⟨Same.refl _,nO,nO,rfl⟩ (fun i σ H' _ h=>⟨SqK.l (h.1 _ _ hw),SqK.l (h.1 _ _ hn)⟩) ?_ ?_⟩)
 ·rintro i v1 v2 T σ H1 hv1 hv2 hT ⟨s1,y,z,rfl⟩
  obtain⟨pw,hpw,rfl⟩:=L2.gM hv1;obtain⟨xs,b',q1,r1,e1,e2,e3,e4⟩:=hy.get hpw;obtain⟨w',e1',qn,ln,rfl,en⟩:=All2.get hnv hv2;rw[e1]at e1';cases e1';have s2:=s1.new (o:=.tup [.ref pw,.ref qn]) hT;refine⟨T,(zg rfl ⟨SqT.of uX9,rfl,_,_,rfl,_,_,rfl,rfl,?_⟩)⟩;refine(zq rfl rfl (ixT (s2 _ _ en) aI0 (zg rfl (ixT (s2 _ _ e2) aI0 (zg rfl ⟨q1,d,xs,ns,rfl,s2 _ _ e3,s2 _ _ hd,(zg rfl (zw rfl rfl (zw rfl rfl ⟨s2,sR pw,sR qn,?_⟩)))⟩)))));show[_,_,_,_,sO (V.int (Builtin.bitOr _ (Builtin.bitAnd _ _))),_,_]=_;rw[Js,Zz,<- WP e1]
 ·rintro σ H1 ⟨s1,y,z,rfl⟩
  rw[ub,<- yl,uo (uj _)];refine(zq rfl rfl ⟨p,b,rfl,hb.keep (.of s1),fun H2 qu s2 hqu=>?_⟩);refine(zg rfl ⟨qu,d,_,ns,rfl,hqu,s2 _ _ (s1 _ _ hd),(zw rfl rfl (zg rfl ⟨sN2,fun r hr=>?_⟩))⟩);refine q _ r ((s1.trans s2).new hr) ?_;rw[uX9];show sO (HO.tup [V.int (Builtin.bitOr _ _),_])=_;rw[Zz,<- Bd.mk_ways]
def X7:Expr:=match zO yQ with
 |[_,.Return (sO (.Tuple [_,l] _ _)) _]=>l
 |_=>.Constant .none 0 ⟨0,0,0,0⟩
def zbr:Arguments:=match X7 with
 |.Lambda a _ _ _=>a
 |_=>yf yQ
def Jy:Expr:=match X7 with
 |.Lambda _ b _ _=>b
 |e=>e
def Jz:Scope:=match X7 with
 |.Lambda _ _ s _=>s
 |_=>zt yQ
def X8:Pos:=match X7 with
 |.Lambda _ _ _ p=>p
 |_=>⟨0,0,0,0⟩
def Yx:Str:=("begun_note":Str)++(".<locals>.":Str)++("<lambda>":Str)
def cl2(c1 c2 c3:aO):List (Str×aO):=[("ways",c3),("body",c1),("bits",c2)]
abbrev jb(mg:Str->Option aA)(c1 c2 c3 c:aO)(ct:aA):FuncData:=lamC mg Yx zbr Jy Jz (cl2 c1 c2 c3) c ct
theorem zcY:LamScope ["notes","bits","body","ways"] ["notes"] ["bits","body","ways"] Jz:=⟨rfl,rfl,rfl,by decide +kernel,rfl,by decide +kernel,by decide +kernel,by decide +kernel,by decide +kernel⟩
theorem JA:∃p0 p1 p2 p3 p4 p5,Jy=.Call (.Name "note_of" p0) [.Name "body" p1,.Name "ways" p2,.Name "notes" p3,.Name "bits" p4] [] p5:=⟨_,_,_,_,_,_,rfl⟩
def Clo2(mg:Str->Option aA)(ns:lS)(H:Hp)(R:aO->Prop)(d:aO)(b:Bd)(f:aO):Prop:=∃c1 c2 c3 c ct p wl ps,H f=sO (FunO f (jb mg c1 c2 c3 c ct))/\H c=sO (CodO c Yx)/\Cel H c1 (.ref p)/\Cel H c2 (.ref d)/\Cel H c3 (.ref wl)/\c1≠c2/\c1≠c3/\c2≠c3/\IsB H b p/\H wl=sO (.lst (ps.map V.ref))/\R wl/\IsY H b.ways ps
inductive spLam2(mg:Str->Option aA)(ns:lS)(f:aO)(fd:FuncData)(vs:List V)(H:Hp)(Q:VK)(e_3:XK):Prop
 |mk (nl:aO) (d:aO) (c1:aO) (c2:aO) (c3:aO) (c:aO) (p:aO) (wl:aO) (ct:aA) (b:Bd) (ps:List aO):(∃nv:List V,vs=[.ref nl]/\fd=jb mg c1 c2 c3 c ct/\H f=sO (FunO f fd)/\H c=sO (CodO c Yx)/\Cel H c1 (.ref p)/\Cel H c2 (.ref d)/\Cel H c3 (.ref wl)/\c1≠c2/\c1≠c3/\c2≠c3/\IsB H b p/\H wl=sO (.lst (ps.map V.ref))/\IsY H b.ways ps/\H nl=sO (.lst nv)/\IsN0 ns H b.ways nv/\H d=sO (.dK (yA ns 1))/\∀H' r,Same H H'->H' r=sO (.tup [.int ((b.mk ns:Nat):Int),.ref nl])->Q (.ref r) H')->spLam2 mg ns f fd vs H Q e_3
theorem clo3{c2 c3:aO}{v1 v2 v3:V}(h1:Cel H c1 v1)(h2:Cel H c2 v2)(h3:Cel H c3 v3)(n1:c1≠c2)(n2:c1≠c3)(n3:c2≠c3):Clo H (cl2 c1 c2 c3) ["bits","body","ways"] [v2,v1,v3]:=by
 have l1:(cl2 c1 c2 c3).lookup ("bits":Str)=sO c2:=rfl;have l2:(cl2 c1 c2 c3).lookup ("body":Str)=sO c1:=rfl;have l3:(cl2 c1 c2 c3).lookup ("ways":Str)=sO c3:=rfl;refine⟨rfl,fun p hp=>?_,fun i x v e1 e2=>?_,fun x hx=>?_,fun x y a e1 e2=>?_⟩
 ·unfold cl2 at hp
  simp only[uy,Uz,or_false]at hp
  rcases hp with rfl|rfl|rfl
  ·exact⟨_,h3⟩
  ·exact⟨_,h1⟩
  ·exact⟨_,h2⟩
 ·match i,e1,e2 with
  |0,e1,e2=>cases e1;cases e2;exact⟨c2,l1,h2⟩
  |1,e1,e2=>cases e1;cases e2;exact⟨c1,l2,h1⟩
  |2,e1,e2=>cases e1;cases e2;exact⟨c3,l3,h3⟩
  |i+3,e1,_=>simp at e1
 ·simp only[uy,Uz,or_false]at hx
  rcases hx with rfl|rfl|rfl
  ·exact⟨_,l1⟩
  ·exact⟨_,l2⟩
  ·exact⟨_,l3⟩
 ·have m1:=u4 e1
  have m2:=u4 e2;unfold cl2 at m1 m2;simp only[uy,Prod.mk.injEq,Uz,or_false]at m1 m2
  rcases m1 with⟨rfl,rfl⟩|⟨rfl,rfl⟩|⟨rfl,rfl⟩<;>rcases m2 with⟨rfl,z⟩|⟨rfl,z⟩|⟨rfl,z⟩<;>first|rfl|exact absurd z (by assumption)|exact absurd z.symm (by assumption)
theorem z7(hc:∀a∈as,∃v,Cel H a v):Tups H (zZ H as):=fun p xs e=>zG hc e (by intro _ _ _ z;cases z)
theorem yW(s:Same (zZ H as) H'):Same H (xm H' H as):=fun b u e=>by
 by_cases z:b∈as
 ·rw[wA z];exact e
 ·rw[yJ z];exact s b u (by rw[zX z];exact e)
theorem yR{u:HO}(hn:∀a∈as,H' a=nO)(e:H' b=sO u):xm H' H as b=sO u:=by
 rw[yJ]
 ·exact e
 ·intro z;rw[hn b z]at e;cases e
theorem zax(GN':Ca P w K mg base CX0 3 "note_of" lS16 spNoteOf)(ns:lS)(f c1 c2 c3 c:aO)(ct:aA):FnOk P w K mg base CX0 4 f (jb mg c1 c2 c3 c ct) ["notes"] (spLam2 mg ns f (jb mg c1 c2 c3 c ct)):=by
 refine Zi (k:=3) zcY (fun vs H Q E h=>?_) (fun A outer s H vs Q E hr h=>?_)
 ·obtain⟨nl,d,_,_,_,_,p,wl,_,b,ps,nv,rfl,_⟩:=h
  rfl
 ·obtain⟨nl,d,d1,d2,d3,d0,p,wl,ct',b,ps,nv,rfl,efd,hf,hc,h1,h2,h3,n1,n2,n3,hb,hw,hy,hn,hnv,hd,q⟩:=h
  have ecl:cl2 c1 c2 c3=cl2 d1 d2 d3:=congrArg FuncData.closure efd;have ec:Value.ref c=Value.ref d0:=congrArg FuncData.code efd;cases ec;have e3:c3=d3:=by injection ecl with a b;exact(Prod.mk.inj a).2
  have e1:c1=d1:=by injection ecl with a b;injection b with a b;exact(Prod.mk.inj a).2
  have e2:c2=d2:=by injection ecl with a b;injection b with a b;injection b with a b;exact(Prod.mk.inj a).2
  subst e1;subst e2;subst e3;refine⟨hf,hc,_,clo3 h1 h2 h3 n1 n2 n3,?_⟩;obtain⟨p0,p1,p2,p3,p4,p5,eb⟩:=JA;rw[eb];have hcA:∀a∈(cl2 c1 c2 c3).map (·.2),∃v,Cel H a v:=fun a ha=>by
   obtain⟨p,hp,rfl⟩:=uq.mp ha;exact(clo3 h1 h2 h3 n1 n2 n3).all p hp
  have tp:=z7 hcA;have ml:∀{b:aO}{xs:List V},H b=sO (.lst xs)->zZ H ((cl2 c1 c2 c3).map (·.2)) b=sO (.lst xs):=fun e=>zG hcA e (by intro _ _ _ z;cases z);refine⟨_,(cA GN' hr (jA4 (jv 2) (jv 3) (jv 0) (jv 1))),?_⟩;refine(zq rfl rfl (zq rfl rfl ⟨p,wl,nl,d,b,ps,nv,ns,rfl,hb.keep tp,ml hw,hy.keep tp,ml hn,hnv.imp fun _ _ h=>h.keep tp,zG hcA hd (by intro _ _ _ z;cases z),fun H' r s1 hr1 hnn=>?_⟩));exact q _ r (yW s1) (yR hnn hr1)
theorem zay(c1 c2 c3 c:aO)(ct:aA):Binds K (jb mg c1 c2 c3 c ct) ["notes"] []:=.all fun us hl=>match us,hl with|[_],_=>rfl
theorem Pub.same{H3:Hp}(h:Pub H H3 cvs):Same H H3:=fun b u e=>by
 rw[h.old b]
 ·exact e
 ·intro z
  obtain⟨p,hp,rfl⟩:=uq.mp z;rw[h.non p hp]at e;cases e
def ls2:List (Pos×Str):=[(X8,Yx)]
def IsKs(H:Hp)(l:Wy)(vs:List V):Prop:=All2 (fun(w:lS×Bd) v=>∃p,v=.ref p/\IsB H w.2 p) l vs
inductive spBegNote(mg:Str->Option aA)(T:aO)(vs:List V)(H:Hp)(Q:VK)(e_3:XK):Prop
 |mk (p:aO) (d:aO) (b:Bd):(∃ns:lS,vs=[.ref p,.ref d]/\IsB H b p/\b.sz<=1000000/\TbG T ls2 H/\∀H' q l fl wl vs,KM (·=T) H H'->TbG T ls2 H'->H' q=sO (.tup [.ref l,.ref fl])->H l=nO->H' l=sO (.lst vs)->IsKs H' b.ways vs->H wl=nO->(∃xs,H' wl=sO (.lst xs))->(∀R:aO->Prop,R wl->Clo2 mg ns H' R d b fl)->Q (.ref q) H')->spBegNote mg T vs H Q e_3
theorem scBegNote:FnScope ["body","bits","ways"] lS18 (zt yQ):=.ok
theorem WR:(["body","bits","ways","way"]:lS).Nodup:=by decide +kernel
theorem XC(F:FunC K "begun_note" yQ c f fd)(hB:BMn mg base)(hc:Ua K c T=tV)(GW:Ca P w K mg base CX0 1 "ways_on" ["body"] spWays):FnOk P w K mg base CX0 2 f fd lS18 (spBegNote mg T):=by
 refine F.byR scBegNote (fun vs H Q E h=>?_) (fun A outer s H vs Q E hr h fresh=>?_)
 ·obtain⟨p,d,b,ns,rfl,_⟩:=h
  rfl
 obtain⟨p,d,b,ns,rfl,hb,hz,hT,q⟩:=h;refine⟨_,
  (zT (sE 2 scBegNote.nd (cA GW hr (jA1 (jv 0))))
  (xH (zA (ja_c (yg ["way"] rfl (zP K (jv 2)) (fun _ _ _ _ _=>(gN 3 WR)) (fun _ _ _ _ _=>zW) (fun _ _ _ _ _=>(zp K (jv 3))))
   (jA1 (xh (params:=zbr) (body:=Jy) (scope:=Jz) (pos:=X8) (T:=T) (qual:=Yx) (cl:=cl2 (s.heap.objs.size+1) (s.heap.objs.size+2) (s.heap.objs.size+3)) hB rfl hc rfl)))))),?_⟩
 have sl:=zN;refine(zg rfl ⟨p,b,rfl,hb,hz,fun H1 wl ps s1 hwl hwl1 hy=>?_⟩);have yl:=hy.len;have wl1:=Yv b.ways;have wl2:=Bd.wsz b;refine(zg rfl ⟨wl,rfl,⟨_,SqL.of hwl1⟩,yp (xs:=ps.map V.ref) (fun j τ ys H'=>H1=H'/\(∃v,τ=[sR p,sR d,sR wl,v])/\IsKs H1 (b.ways.take j) ys) ⟨rfl,⟨nO,rfl⟩,.nil⟩ (fun j τ ys H' _ h=>SqL.of (h.1 ▸ hwl1)) ?_ ?_⟩)
 ·rintro j v τ ys H2 hv ⟨rfl,⟨v',rfl⟩,hk⟩
  obtain⟨pw,hpw,rfl⟩:=L2.gM hv;obtain⟨xs,b',q1,r1,e1,e2,e3,e4⟩:=hy.get hpw;have kl:=All2.len hk;rw[ut]at kl;refine(zg rfl (ixT e2 aI1 ⟨by have:=(ud.mp e1).1;lia,rfl,⟨_,rfl⟩,?_⟩));rw[uD,e1];exact All2.app hk (.cons ⟨r1,rfl,e4⟩ .nil)
 rintro τ ys H2 ⟨rfl,_,hk⟩ l hl;rw[ub,<- yl,uo (uj _)]at hk;have s2:=zk (o:=.lst ys) hl;have hTb:TbG T ls2 (upd H1 l (.lst ys)):=hT.keep (fun ps e=>s2 _ _ (s1 _ _ e)) (fun c q e=>s2 _ _ (s1 _ _ e));refine yP hTb (by unfold ls2;exact .head _) (fun p hp _=>by unfold ls2 at hp;rw[uk.mp hp]) fun H3 fl cc ct k3 T3 hfl nfT ncT hfl3 hcc=>?_;refine⟨sN2,fun r hr=>?_⟩;have nlT:∀{b:aO}{u:HO},upd H1 l (.lst ys) b=sO u->(∀ps,u≠.tbl ps)->b≠T:=fun{b u} e n z=>by
  obtain⟨ps,h,_⟩:=hTb;rw[z,h]at e;exact n _ (uX.inj e).symm
 have k4:∀b u,b≠T->upd H1 l (.lst ys) b=sO u->upd H3 r (.tup [.ref l,.ref fl]) b=sO u:=fun b u n e=>by
  rw[zj (zi (k3 b u n e) hr)];exact k3 b u n e
 have t4:Tups (upd H1 l (.lst ys)) (upd H3 r (.tup [.ref l,.ref fl])):=fun b xs e=>k4 b _ (nlT e (by intro _ z;cases z)) e;have T4:TbG T ls2 (upd H3 r (.tup [.ref l,.ref fl])):=T3.keep (fun ps e=>old hr e) (fun c q e=>old hr e);have e_l:=k4 l _ (nlT uX9 (by intro _ z;cases z)) uX9;have e_w:=k4 wl _ (nlT (s2 _ _ hwl1) (by intro _ z;cases z)) (s2 _ _ hwl1);have k04:KM (·=T) H (upd H3 r (.tup [.ref l,.ref fl])):=fun b u n e=>k4 b u n (s2 _ _ (s1 _ _ e));have tp04:Tups H1 (upd H3 r (.tup [.ref l,.ref fl])):=fun b xs e=>t4 b xs (s2 _ _ e);have hr4:=uX9 (H:=H3) (a:=r) (o:=.tup [.ref l,.ref fl]);have hfl4:=old (o:=.tup [.ref l,.ref fl]) hr hfl3;have hcc4:=old (o:=.tup [.ref l,.ref fl]) hr hcc;generalize upd H3 r (.tup [.ref l,.ref fl])=H4 at *;refine⟨[(s.heap.objs.size+1,.ref p),(s.heap.objs.size+2,.ref d),(s.heap.objs.size+3,.ref wl)],fun x hx=>?_,fun H5 pb=>?_⟩
 ·simp only[uy,Uz,or_false]at hx
  rcases hx with rfl|rfl|rfl
  ·exact⟨0,"body",rfl,rfl,rfl,.inl rfl⟩
  ·exact⟨1,"bits",rfl,rfl,rfl,.inl rfl⟩
  ·exact⟨2,"ways",rfl,rfl,rfl,.inl rfl⟩
 have s5:=Pub.same pb;refine q H5 r l fl wl ys (k04.trans (.of s5)) (T4.keep (fun ps e=>s5 _ _ e) fun c q e=>s5 _ _ e) (s5 _ _ hr4) (s1.free hl) (s5 _ _ e_l) (hk.imp fun _ _ ⟨p,e,h⟩=>⟨p,e,h.keep (tp04.trans (.of s5))⟩) hwl ⟨_,s5 _ _ e_w⟩ fun R hR=>?_;exact⟨_,_,_,cc,ct,p,wl,ps,s5 _ _ hfl4,s5 _ _ hcc4,pb.cel (_,_) (.head _),pb.cel (_,_) (.tail _ (.head _)),pb.cel (_,_) (.tail _ (.tail _ (.head _))),by simp,by simp,by simp,hb.keep ((Tups.of s1).trans (tp04.trans (.of s5))),s5 _ _ e_w,hR,hy.keep (tp04.trans (.of s5))⟩
def X9:Expr:=match zO wZ with
 |[.Return (sO (.Call _ [_,l] _ _)) _]=>l
 |_=>.Constant .none 0 ⟨0,0,0,0⟩
def zbs:Arguments:=match X9 with
 |.Lambda a _ _ _=>a
 |_=>yf wZ
def JB:Expr:=match X9 with
 |.Lambda _ b _ _=>b
 |e=>e
def JC:Scope:=match X9 with
 |.Lambda _ _ s _=>s
 |_=>zt wZ
def Wa:Pos:=match X9 with
 |.Lambda _ _ _ p=>p
 |_=>⟨0,0,0,0⟩
def Yy:Str:=("noted":Str)++(".<locals>.":Str)++("<lambda>":Str)
def ls1:List (Pos×Str):=[(Wa,Yy)]
def cl1(c0:aO):List (Str×aO):=[("bits",c0)]
abbrev jc(mg:Str->Option aA)(c0 c:aO)(ct:aA):FuncData:=lamC mg Yy zbs JB JC (cl1 c0) c ct
theorem zcZ:LamScope ["task","bits"] ["task"] ["bits"] JC:=⟨rfl,rfl,rfl,by decide +kernel,rfl,by decide +kernel,by decide +kernel,by decide +kernel,by decide +kernel⟩
theorem JD:∃p0 p1 p2 p3,JB=.Call (.Name "begun_note" p0) [.Name "task" p1,.Name "bits" p2] [] p3:=⟨_,_,_,_,rfl⟩
theorem clo1{v1:V}(h1:Cel H c1 v1):Clo H (cl1 c1) ["bits"] [v1]:=by
 have l1:(cl1 c1).lookup ("bits":Str)=sO c1:=rfl;refine⟨rfl,fun p hp=>?_,fun i x v e1 e2=>?_,fun x hx=>?_,fun x y a e1 e2=>?_⟩
 ·unfold cl1 at hp
  rw[uk.mp hp];exact⟨_,h1⟩
 ·match i,e1,e2 with
  |0,e1,e2=>cases e1;cases e2;exact⟨c1,l1,h1⟩
  |i+1,e1,_=>simp at e1
 ·rw[uk.mp hx]
  exact⟨_,l1⟩
 ·have m1:=u4 e1
  have m2:=u4 e2;unfold cl1 at m1 m2;rw[uk]at m1 m2;exact(Prod.mk.inj m1).1.trans (Prod.mk.inj m2).1.symm
theorem Clo2.same{b:Bd}(h:Clo2 mg ns H R d b f)(s:Same H H'):Clo2 mg ns H' R d b f:=by
 obtain⟨c1,c2,c3,c,ct,p,wl,ps,h1,h2,⟨o3,h3⟩,⟨o4,h4⟩,⟨o5,h5⟩,n1,n2,n3,h6,h7,h8,h9⟩:=h;exact⟨c1,c2,c3,c,ct,p,wl,ps,s _ _ h1,s _ _ h2,⟨o3,s _ _ h3⟩,⟨o4,s _ _ h4⟩,⟨o5,s _ _ h5⟩,n1,n2,n3,h6.keep (.of s),s _ _ h7,h8,h9.keep (.of s)⟩
inductive spLam1(mg:Str->Option aA)(T:aO)(ns:lS)(f:aO)(fd:FuncData)(vs:List V)(H:Hp)(Q:VK)(e_3:XK):Prop
 |mk (p:aO) (d:aO) (c0:aO) (c:aO) (ct:aA):(∃b:Bd,vs=[.ref p]/\fd=jc mg c0 c ct/\H f=sO (FunO f fd)/\H c=sO (CodO c Yy)/\Cel H c0 (.ref d)/\IsB H b p/\b.sz<=1000000/\TbG T ls2 H/\∀H' q l fl wl vs,KM (·=T) H H'->TbG T ls2 H'->H' q=sO (.tup [.ref l,.ref fl])->H l=nO->H' l=sO (.lst vs)->IsKs H' b.ways vs->H wl=nO->(∃xs,H' wl=sO (.lst xs))->(∀R:aO->Prop,R wl->Clo2 mg ns H' R d b fl)->Q (.ref q) H')->spLam1 mg T ns f fd vs H Q e_3
theorem zaz(GB:Ca P w K mg base CX0 2 "begun_note" lS18 (spBegNote mg T))(ns:lS)(f c0 c:aO)(ct:aA):FnOk P w K mg base CX0 3 f (jc mg c0 c ct) ["task"] (spLam1 mg T ns f (jc mg c0 c ct)):=by
 refine Zi (k:=2) zcZ (fun vs H Q E h=>?_) (fun A outer s H vs Q E hr h=>?_)
 ·obtain⟨p,d,_,_,_,b,rfl,_⟩:=h
  rfl
 ·obtain⟨p,d,d1,d0,ct',b,rfl,efd,hf,hc,h1,hb,hz,hT,q⟩:=h
  have ecl:cl1 c0=cl1 d1:=congrArg FuncData.closure efd;have ec:Value.ref c=Value.ref d0:=congrArg FuncData.code efd;cases ec;have e1:c0=d1:=by injection ecl with a b;exact(Prod.mk.inj a).2
  subst e1;refine⟨hf,hc,_,clo1 h1,?_⟩;obtain⟨p0,p1,p2,p3,eb⟩:=JD;rw[eb];have hcA:∀a∈(cl1 c0).map (·.2),∃v,Cel H a v:=fun a ha=>by
   obtain⟨p,hp,rfl⟩:=uq.mp ha;exact(clo1 h1).all p hp
  have tp:=z7 hcA;refine⟨_,(cA GB hr (jA2 (jv 0) (jv 1))),?_⟩;refine(zq rfl rfl ⟨p,d,b,ns,rfl,hb.keep tp,hz,hT.keep (fun ps e=>zG hcA e (by intro _ _ _ z;cases z)) (fun c q e=>zG hcA e (by intro _ _ _ z;unfold CodO at z;cases z)),fun H' r l fl wl vs k1 T1 hr1 hl hl1 hk hwl hwl1 hclo hnn=>?_⟩);have sp:Same H' (xm H' H ((cl1 c0).map (·.2))):=fun b u e=>yR hnn e;obtain⟨xs,hwl2⟩:=hwl1;have out:∀{b:aO}{u:HO},H' b=sO u->zZ H ((cl1 c0).map (·.2)) b=nO->H b=nO:=fun{b u} e n=>by
   rw[zX]at n
   ·exact n
   ·intro z;rw[hnn b z]at e;cases e
  refine q _ r l fl wl vs (fun b u n e=>?_) (T1.keep (fun ps e=>sp _ _ e) fun c q e=>sp _ _ e) (sp _ _ hr1) (out hl1 hl) (sp _ _ hl1) (hk.imp fun _ _ ⟨p,e,h⟩=>⟨p,e,h.keep (.of sp)⟩) (out hwl2 hwl) ⟨xs,sp _ _ hwl2⟩ fun R hR=>(hclo R hR).same sp;by_cases z:b∈(cl1 c0).map (·.2)
  ·rw[wA z];exact e
  ·rw[yJ z]
   exact k1 b u n (by rw[zX z];exact e)
theorem zaA(c0 c:aO)(ct:aA):Binds K (jc mg c0 c ct) ["task"] []:=.all (us1 fun _=>rfl)
theorem All2.mapl{α β γ:Type}{F:α->β->Prop}{g:γ->α}:∀{l:List γ}{m:List β},All2 (fun c b=>F (g c) b) l m->All2 F (l.map g) m
 |_,_,.nil=>.nil
 |_,_,.cons a r=>.cons a (All2.mapl r)
theorem All2.unmapl{α β γ:Type}{F:α->β->Prop}{g:γ->α}:∀{l:List γ}{m:List β},All2 F (l.map g) m->All2 (fun c b=>F (g c) b) l m
 |[],_,.nil=>.nil
 |_::_,_,.cons a r=>.cons a (All2.unmapl r)
theorem JE:∀{l:Wy}{w:lS×Bd},w∈l->w.2.sz<=wsz l
 |p::l,w,h=>by
  unfold wsz;rw[uF,Uy];rcases uy.mp h with rfl|h
  ·lia
  ·have:=JE h
   unfold wsz at this;lia
theorem All2.memP{α β:Type}{F:α->β->Prop}{Pr:α->Prop}:∀{l:List α}{m:List β},All2 F l m->(∀a∈l,Pr a)->All2 (fun a b=>Pr a/\F a b) l m
 |_,_,.nil,_=>.nil
 |_,_,.cons a r,h=>.cons ⟨h _ (.head _),a⟩ (All2.memP r fun a ha=>h a (.tail _ ha))
structure NOk(mg:Str->Option aA)(T1 T2 d fl c0 cc:aO)(ct:aA)(ns:lS)(H:Hp):Prop where
 t1:TbG T1 ls1 H
 t2:TbG T2 ls2 H
 hd:H d=sO (.dK (yA ns 1))
 f:H fl=sO (FunO fl (jc mg c0 cc ct))
 c:H cc=sO (CodO cc Yy)
 cel:Cel H c0 (.ref d)
theorem NOk.keep(h:NOk mg T1 T2 d fl c0 cc ct ns H)(h1:TbG T1 ls1 H')(h2:TbG T2 ls2 H')(k:∀b u,H b=sO u->(∀ps,u≠.tbl ps)->(∀xs,u≠.lst xs)->H' b=sO u):NOk mg T1 T2 d fl c0 cc ct ns H' :=
 ⟨h1,h2,k _ _ h.hd (by intro _ z;cases z) (by intro _ z;cases z),k _ _ h.f (by intro _ z;unfold FunO at z;cases z) (by intro _ z;unfold FunO at z;cases z),k _ _ h.c (by intro _ z;unfold CodO at z;cases z) (by intro _ z;unfold CodO at z;cases z),let ⟨o,e⟩:=h.cel;⟨o,k _ _ e (by intro _ z;cases z) (by intro _ z;cases z)⟩⟩
theorem NOk.noM(h:NOk mg T1 T2 d fl c0 cc ct ns H){u:HO}(e:H b=sO u)(n:∀ps,u≠.tbl ps):¬ (b=T1\/b=T2):=by
 rintro(z|z)
 ·obtain⟨ps,q,_⟩:=h.t1
  rw[z,q]at e;exact n _ (uX.inj e).symm
 ·obtain⟨ps,q,_⟩:=h.t2
  rw[z,q]at e;exact n _ (uX.inj e).symm
theorem NOk.tups(h:NOk mg T1 T2 d fl c0 cc ct ns H)(z:Kz (fun b=>b=T1\/b=T2) R H H'):Tups H H':=fun b xs e=>z b _ e (h.noM e (by intro _ z;cases z)) (by intro _ z;cases z)
theorem Yz{T:Type}:∀(l:List T),Chn (fun _=>()) (fun _=>()) () l ()
 |[]=>rfl
 |_::l=>⟨rfl,Yz l⟩
def zaB(nT:T1≠T2)(GB:Ca P w K mg base CX0 2 "begun_note" lS18 (spBegNote mg T2))(GO:Ca P w K mg base CX0 3 "note_of" lS16 spNoteOf)(d fl c0 cc:aO)(ct:aA)(ns:lS):WoD P w K mg base 4 where
 Tk:=Bd
 M:=fun b=>b=T1\/b=T2
 fb:=fl
 wt:=fun b=>2*b.sz
 kids:=fun b=>b.ways.map (·.2)
 wk:=fun b=>by
  have h:=Bd.wsz b;have e:∀l:Wy,((l.map (·.2)).map fun b:Bd=>2*b.sz).sum=2*wsz l:=by
   intro l
   induction l with
   |nil=>rfl
   |cons p l ih =>
    unfold wsz at ih ⊢;rw[uF,uF,uF,Uy,Uy,ih];lia
  rw[e];lia
 IT:=fun H _ b v=>b.sz<=1000000/\∃p,v=.ref p/\IsB H b p
 IR:=fun H R b v=>IsN ns H R b v
 IF:=fun H R b v=>∃f,v=.ref f/\Clo2 mg ns H R d b f
 S:=Unit
 pre:=fun _=>()
 mid:=fun _=>()
 post:=fun _=>()
 chn:=fun t=>Yz _
 Ok:=fun _=>NOk mg T1 T2 d fl c0 cc ct ns
 itk:=fun⟨h,p,e,hb⟩ ok z _=>⟨h,p,e,hb.keep (ok.tups z)⟩
 irk:=fun h ok z sub=>h.keep ⟨ok.tups z,fun a xs ra e=>z a _ e (ok.noM e (by intro _ z;cases z)) fun _ _=>ra,sub⟩
 ifk:=fun{H H' R R' t v _} hh ok z sub=>by
  obtain⟨f,e,c1,c2,c3,c,ct,p,wl,ps,h1,h2,⟨o3,h3⟩,⟨o4,h4⟩,⟨o5,h5⟩,n1,n2,n3,h6,h7,h8,h9⟩:=hh;have g:∀b u,H b=sO u->(∀ps,u≠.tbl ps)->(∀xs,u≠.lst xs)->H' b=sO u:=fun b u e n1 n2=>z b u e (ok.noM e n1) fun xs q=>absurd q (n2 xs);exact⟨f,e,c1,c2,c3,c,ct,p,wl,ps,g _ _ h1 (by intro _ z;unfold FunO at z;cases z) (by intro _ z;unfold FunO at z;cases z),g _ _ h2 (by intro _ z;unfold CodO at z;cases z) (by intro _ z;unfold CodO at z;cases z),⟨o3,g _ _ h3 (by intro _ z;cases z) (by intro _ z;cases z)⟩,⟨o4,g _ _ h4 (by intro _ z;cases z) (by intro _ z;cases z)⟩,⟨o5,g _ _ h5 (by intro _ z;cases z) (by intro _ z;cases z)⟩,n1,n2,n3,h6.keep (ok.tups z),z _ _ h7 (ok.noM h7 (by intro _ z;cases z)) (fun _ _=>h8),sub _ h8,h9.keep (ok.tups z)⟩
 okk:=fun{H H' _} ok z=>by
  have g:∀b u,H b=sO u->(∀xs,u≠.lst xs)->H' b=sO u:=fun b u e n=>z b u e fun xs q=>absurd q (n xs);exact ok.keep (ok.t1.keep (fun ps e=>g _ _ e (by intro _ z;cases z)) fun c q e=>g _ _ e (by intro _ z;unfold CodO at z;cases z)) (ok.t2.keep (fun ps e=>g _ _ e (by intro _ z;cases z)) fun c q e=>g _ _ e (by intro _ z;unfold CodO at z;cases z)) fun b u e _ n=>g b u e n
 okM:=fun{H b _} ok z=>by
  rcases z with z|z
  ·obtain⟨ps,q,_⟩:=ok.t1
   rw[z,q];simp
  ·obtain⟨ps,q,_⟩:=ok.t2
   rw[z,q];simp
 beg:=fun{H R t v Q}⟨hz,p,e,hb⟩ ok hRd hRM q=>by
  subst e;refine⟨_,_,_,(zaz GB ns fl c0 cc ct).mono (by decide),zaA c0 cc ct,⟨p,d,c0,cc,ct,t,rfl,rfl,ok.f,ok.c,ok.cel,hb,hz,ok.t2,fun H' r l f2 wl vs k1 t2 hr hl hl1 hk hwl ⟨xs,hwl1⟩ hclo=>?_⟩,.inl ok.f⟩;have ok':NOk mg T1 T2 d fl c0 cc ct ns H':=by
   refine ok.keep (ok.t1.keep (fun ps e=>k1 _ _ nT e) fun c q e=>k1 _ _ (fun z=>ok.noM e (by intro _ z;unfold CodO at z;cases z) (.inr z)) e) t2 fun b u e n _=>k1 b u (fun z=>ok.noM e n (.inr z)) e
  refine q H' r l f2 vs (fun b=>R b\/b=l\/b=wl) (fun b u n e=>k1 b u (fun z=>n (.inr z)) e) ok' hr hl hl1 (fun _ z=>.inl z) ?_ ?_ (.inr (.inl rfl)) ?_ ⟨f2,rfl,hclo _ (.inr (.inr rfl))⟩
  ·rintro b (z|rfl|rfl)
   ·exact .inl z
   ·exact .inr hl
   ·exact .inr hwl
  ·rintro b (z|rfl|rfl)
   ·cases e:H b with
    |none=>exact absurd e (hRd b z)
    |some u=>rw[k1 b u (fun y=>hRM b z (.inr y)) e];simp
   ·rw[hl1];simp
   ·rw[hwl1];simp
  ·refine All2.mapl ((All2.memP hk (Pr:=fun w:lS×Bd=>w.2.sz<=1000000) fun a ha=>?_).imp fun a b h=>h)
   have:=JE ha
   have:=Bd.wsz t
   lia
 fin:=fun{H R t f2 rl rs Q} hh ok hRd hRM hRr hrl hrs q=>by
  obtain⟨f,e,c1,c2,c3,c,ct',p,wl,ps,h1,h2,h3,h4,h5,n1,n2,n3,h6,h7,h8,h9⟩:=hh;cases e;refine⟨_,_,_,zax GO ns f2 c1 c2 c3 c ct',zay c1 c2 c3 c ct',⟨rl,d,c1,c2,c3,c,p,wl,ct',t,ps,rs,rfl,rfl,h1,h2,h3,h4,h5,n1,n2,n3,h6,h7,h9,hrl,(All2.unmapl hrs).imp fun _ _ h=>IsN.nt h,ok.hd,fun H' r s1 hr=>?_⟩,.inl h1⟩;refine q H' (.ref r) R (.of s1) ?_ (fun _ z=>z) (fun _ z=>.inl z) ?_ (IsN.ways.mpr ⟨rs,⟨r,rl,rfl,hr,hRr,s1 _ _ hrl⟩,(All2.unmapl hrs).imp fun _ _ h=>IsN.keep ⟨.of s1,fun a xs _ e=>s1 _ _ e,fun _ z=>z⟩ h⟩)
  ·exact ok.keep (ok.t1.keep (fun ps e=>s1 _ _ e) fun c q e=>s1 _ _ e) (ok.t2.keep (fun ps e=>s1 _ _ e) fun c q e=>s1 _ _ e) fun b u e _ _=>s1 b u e
  ·intro b z
   cases e:H b with
   |none=>exact absurd e (hRd b z)
   |some u=>rw[s1 b u e];simp
structure Tbs(T1 T2:aO)(H:Hp):Prop where
 t1:TbG T1 ls1 H
 t2:TbG T2 ls2 H
theorem Tbs.same(h:Tbs T1 T2 H)(s:Same H H'):Tbs T1 T2 H':=⟨h.t1.keep (fun ps e=>s _ _ e) fun c q e=>s _ _ e,h.t2.keep (fun ps e=>s _ _ e) fun c q e=>s _ _ e⟩
def MT(T1 T2:aO)(b:aO):Prop:=b=T1\/b=T2
inductive spNoted(T1 T2:aO)(vs:List V)(H:Hp)(Q:VK)(e_3:XK):Prop
 |mk (p:aO) (d:aO) (b:Bd):(∃ns:lS,vs=[.ref p,.ref d]/\IsB H b p/\b.sz<=400000/\H d=sO (.dK (yA ns 1))/\Tbs T1 T2 H/\∀H' v R,KM (MT T1 T2) H H'->Tbs T1 T2 H'->IsN ns H' R b v->Q v H')->spNoted T1 T2 vs H Q e_3
theorem scNoted:FnScope lS18 lS18 (zt wZ):=.ok
theorem JF(F:FunC K "noted" wZ c f fd)(hB:BMn mg base)(hc:Ua K c T1=tV)(nT:T1≠T2)(GB:Ca P w K mg base CX0 2 "begun_note" lS18 (spBegNote mg T2))(GO:Ca P w K mg base CX0 3 "note_of" lS16 spNoteOf)(GW:Ca P w K mg base CX0 5 "worked_out" lS27 (spWorked P w K mg base 4)):FnOk P w K mg base CX0 6 f fd lS18 (spNoted T1 T2):=by
 refine F.by scNoted (fun vs H Q E h=>?_) (fun A outer s H vs Q E hr h=>?_)
 ·obtain⟨p,d,b,ns,rfl,_⟩:=h
  rfl
 obtain⟨p,d,b,ns,rfl,hb,hz,hd,hT,q⟩:=h;refine⟨_,
  (zn (zv (VZ (E:=E0) GW hr scNoted.nd rfl (fun _=>rfl) (jA2 (jv 0) (xh (params:=zbs) (body:=JB) (scope:=JC) (pos:=Wa) (T:=T1) (qual:=Yy) (cl:=cl1 (s.heap.objs.size+1)) hB rfl hc rfl))))),?_⟩
 refine(zg rfl (yP hT.t1 (by unfold ls1;exact .head _) (fun p hp _=>by unfold ls1 at hp;rw[uk.mp hp]) fun H1 fl cc ct k1 T1' hfl nfT ncT hfl1 hcc=>?_));have noT1:∀{b:aO}{u:HO},H b=sO u->(∀ps,u≠.tbl ps)->b≠T1:=fun{b u} e n z=>by
  obtain⟨ps,h,_⟩:=hT.t1;rw[z,h]at e;exact n _ (uX.inj e).symm
 have tp1:Tups H H1:=fun b xs e=>k1 b _ (noT1 e (by intro _ z;cases z)) e;have T2':TbG T2 ls2 H1:=hT.t2.keep (fun ps e=>k1 _ _ nT.symm e) fun c q e=>k1 _ _ (noT1 e (by intro _ z;unfold CodO at z;cases z)) e;refine⟨[(s.heap.objs.size+1,.ref d)],fun x hx=>?_,fun H3 pb=>?_⟩
 ·rw[uk.mp hx]
  exact⟨1,"bits",rfl,rfl,rfl,.inl rfl⟩
 have s3:=Pub.same pb;have ok3:NOk mg T1 T2 d fl (s.heap.objs.size+1) cc ct ns H3:=⟨T1'.keep (fun ps e=>s3 _ _ e) fun c q e=>s3 _ _ e,T2'.keep (fun ps e=>s3 _ _ e) fun c q e=>s3 _ _ e,s3 _ _ (k1 _ _ (noT1 hd (by intro _ z;cases z)) hd),s3 _ _ hfl1,s3 _ _ hcc,pb.cel (_,_) (.head _)⟩;refine⟨zaB nT GB GO d fl (s.heap.objs.size+1) cc ct ns,.ref p,b,fun _=>False,rfl,⟨by lia,p,rfl,hb.keep (tp1.trans (.of s3))⟩,ok3,fun _ z=>z.elim,fun _ z=>z.elim,?_,.inl ⟨⟨_,ok3.f⟩,ok3.noM ok3.f (by intro _ z;unfold FunO at z;cases z)⟩,fun H4 v R' k4 ok4 _ hv hcel=>?_⟩
 ·show 2*b.sz<=10000000
  lia
 have hcA:∀a∈([(s.heap.objs.size+1,V.ref d)]:List (aO×V)).map (·.1),∃v,Cel H4 a v:=fun a ha=>by
  obtain⟨x,hx,rfl⟩:=uq.mp ha;exact⟨_,hcel x hx⟩
 refine q _ v R' (fun b u n e=>?_) ⟨ok4.t1.keep (fun ps e=>zG hcA e (by intro _ _ _ z;cases z)) fun c q e=>zG hcA e (by intro _ _ _ z;unfold CodO at z;cases z),ok4.t2.keep (fun ps e=>zG hcA e (by intro _ _ _ z;cases z)) fun c q e=>zG hcA e (by intro _ _ _ z;unfold CodO at z;cases z)⟩ (IsN.keep ⟨z7 hcA,fun a xs _ e=>zG hcA e (by intro _ _ _ z;cases z),fun _ z=>z⟩ hv);have e1:=k1 b u (fun z=>n (.inl z)) e;rw[zX]
 ·exact k4 b u n (s3 _ _ e1)
 ·intro z
  obtain⟨x,hx,rfl⟩:=uq.mp z;rw[pb.non x hx]at e1;cases e1
end
mutual
inductive Hc
 |give (x:Str)
 |lt (x:Str) (d:De) (b:Hc)
 |hold (n x:Str) (b:Hc)
 |drop (x:Str) (b:Hc)
 |iff (x:Str) (a b:Hc)
 |case(x:Str) (as:Ha)
inductive Ha
 |nil
 |cons (t:Str) (ns:lS) (m:Bool) (b:Hc) (r:Ha)
end
def yE(m:Bool):Str:=if m then "take"else "look"
def IsHd(H:Hp):De->aO->Prop
 |.num i,p=>H p=sO (.tup [.str "num",.int i])
 |.op w a b,p=>H p=sO (.tup [.str "op",.str w,.str a,.str b])
 |.app w f xs,p=>∃q,H p=sO (.tup (if w="make"then[.str w,.str f,.ref q,.str ""]else[.str w,.str f,.ref q]))/\H q=sO (.tup (xs.map V.str))
theorem IsHd.keep(t:Tups H H'):∀{d:De}{p:aO},IsHd H d p->IsHd H' d p
 |.num _,_,h=>t _ _ h
 |.op _ _ _,_,h=>t _ _ h
 |.app _ _ _,_,⟨q,h1,h2⟩=>⟨q,t _ _ h1,t _ _ h2⟩
mutual
def IsHc(H:Hp):Hc->V->Prop
 |.give x,v=>∃p,v=.ref p/\H p=sO (.tup [.str "give",.str x])
 |.lt x d b,v=>∃p q u,v=.ref p/\H p=sO (.tup [.str "let",.str x,.ref q,u])/\IsHd H d q/\IsHc H b u
 |.hold n x b,v=>∃p u,v=.ref p/\H p=sO (.tup [.str "hold",.str n,.str x,u])/\IsHc H b u
 |.drop x b,v=>∃p u,v=.ref p/\H p=sO (.tup [.str "drop",.str x,u])/\IsHc H b u
 |.iff x a b,v=>∃p u1 u2,v=.ref p/\H p=sO (.tup [.str "if",.str x,u1,u2])/\IsHc H a u1/\IsHc H b u2
 |.case x as,v=>∃p q vs,v=.ref p/\H p=sO (.tup [.str "case",.str x,.ref q])/\H q=sO (.tup vs)/\IsHa H as vs
def IsHa(H:Hp):Ha->List V->Prop
 |.nil,vs=>vs=[]
 |.cons t ns m b r,vs=>∃p q u vs',vs=.ref p::vs'/\H p=sO (.tup [.str t,.ref q,.str (yE m),.str "",u])/\H q=sO (.tup (ns.map V.str))/\IsHc H b u/\IsHa H r vs'
end
mutual
theorem IsHc.keep{H H':Hp}(t:Tups H H'):∀{c:Hc}{v:V},IsHc H c v->IsHc H' c v
 |.give _,_,⟨p,e,h⟩=>⟨p,e,t _ _ h⟩
 |.lt _ _ _,_,⟨p,q,u,e,h,d,b⟩=>⟨p,q,u,e,t _ _ h,IsHd.keep t d,IsHc.keep t b⟩
 |.hold _ _ _,_,⟨p,u,e,h,b⟩=>⟨p,u,e,t _ _ h,IsHc.keep t b⟩
 |.drop _ _,_,⟨p,u,e,h,b⟩=>⟨p,u,e,t _ _ h,IsHc.keep t b⟩
 |.iff _ _ _,_,⟨p,u1,u2,e,h,a,b⟩=>⟨p,u1,u2,e,t _ _ h,IsHc.keep t a,IsHc.keep t b⟩
 |.case _ _,_,⟨p,q,vs,e,h,h2,a⟩=>⟨p,q,vs,e,t _ _ h,t _ _ h2,IsHa.keep t a⟩
theorem IsHa.keep{H H':Hp}(t:Tups H H'):∀{c:Ha}{v:List V},IsHa H c v->IsHa H' c v
 |.nil,_,h=>h
 |.cons _ _ _ _ _,_,⟨p,q,u,vs,e,h,h2,b,a⟩=>⟨p,q,u,vs,e,t _ _ h,t _ _ h2,IsHc.keep t b,IsHa.keep t a⟩
end
def nnm(x:Str)(m:Nat):Str:=Str.empty++x ++ "." ++ Str.ofString (toString ((m:Nat):Int))
abbrev SpR:=lS×List (Str×Str)×Nat
def spS(fr:lS)(s:SpR)(x:Str):SpR:=if x∈fr/\x∉s.1 then(s.1++[x],s.2.1,s.2.2)else(s.1++[nnm x (s.2.2+1)],s.2.1++[(nnm x (s.2.2+1),x)],s.2.2+1)
def spn(fr xs:lS)(m:Nat):SpR:=xs.foldl (spS fr) ([],[],m)
theorem JG{fr xs:lS}(h:xs[i]?=sO x):spn fr (xs.take (i+1)) m=spS fr (spn fr (xs.take i) m) x:=by
 unfold spn;rw[uD,h,List.foldl_append]
 rfl
theorem zaC(fr:lS)(s:SpR)(x:Str):(spS fr s x).1.length=s.1.length+1/\s.2.2<=(spS fr s x).2.2/\(spS fr s x).2.2<=s.2.2+1/\(spS fr s x).2.1.length<=s.2.1.length+1:=by
 unfold spS
 split<;>simp
theorem Wb(fr:lS):∀(xs:lS)(s:SpR),(xs.foldl (spS fr) s).1.length=s.1.length+xs.length/\s.2.2<=(xs.foldl (spS fr) s).2.2/\(xs.foldl (spS fr) s).2.2<=s.2.2+xs.length/\(xs.foldl (spS fr) s).2.1.length<=s.2.1.length+xs.length
 |[],s=>by simp
 |x::xs,s=>by
  obtain⟨h1,h2,h3,h4⟩:=Wb fr xs (spS fr s x);obtain⟨g1,g2,g3,g4⟩:=zaC fr s x;rw[UJ,um];lia
theorem yO(fr xs:lS)(m:Nat):(spn fr xs m).1.length=xs.length/\m<=(spn fr xs m).2.2/\(spn fr xs m).2.2<=m+xs.length/\(spn fr xs m).2.1.length<=xs.length:=by
 obtain⟨h1,h2,h3,h4⟩:=Wb fr xs ([],[],m);refine⟨by rw[show(spn fr xs m).1.length=_ from h1];simp,h2,h3,?_⟩
 have:(spn fr xs m).2.1.length<=0+xs.length:=h4
 lia
def ends(ow:Str->List Bool):De->List Bool
 |.num _=>[]
 |.op _ _ _=>[fO,fO]
 |.app w f xs=>if w="call"then ow f else(De.uses (.app w f xs)).map fun _=>tV
def upN(xs:lS)(es:List Bool):lS:=((xs.zip es).filter (·.2)).map (·.1)
def ltN(xs:lS)(es:List Bool):lS:=((xs.zip es).filter fun p=>!p.2).map (·.1)
def rpS(st:lS)(s:lS×Nat)(p:Str×Bool):lS×Nat:=if p.2 then(s.1++[st.getD s.2 ""],s.2+1)else(s.1++[p.1],s.2)
def rpl(xs:lS)(es:List Bool)(st:lS):lS:=((xs.zip es).foldl (rpS st) ([],0)).1
def wN:De->lS->De
 |.num i,_=>.num i
 |.op w _ _,l=>.op w (l.getD 0 "") (l.getD 1 "")
 |.app w f _,l=>if w="ask"then .app w (l.getD 0 "") (l.drop 1)else .app w f l
def hdD(ow:Str->List Bool)(d:De)(st:lS):De:=wN d (rpl d.uses (ends ow d) st)
def ahB(ns:lS)(b:Bd)(x:Str):Bool:=(b.mk ns &&& bitN ns x) != 0
def dO(ns:lS)(b:Bd)(l:lS):lS:=l.filter fun x=>!ahB ns b x
def rO(ns:lS)(b:Bd)(l:lS):lS:=l.filter fun x=>ahB ns b x
def wD(xs:lS)(c:Hc):Hc:=xs.foldr .drop c
def wH(ps:List (Str×Str))(c:Hc):Hc:=ps.foldr (fun p c=>.hold p.1 p.2 c) c
def frL(ns:lS)(ow:Str->List Bool)(d:De)(b:Bd)(r:lS):lS:=r.filter fun y=>!ahB ns b y && decide (y∉ltN d.uses (ends ow d))
def spL(ns:lS)(ow:Str->List Bool)(d:De)(b:Bd)(r:lS)(m:Nat):SpR:=spn (frL ns ow d b r) (upN d.uses (ends ow d)) m
def stL(r st:lS)(x:Str):lS:=(r.filter fun y=>decide (y∉st))++[x]
def tkB(ns:lS)(x:Str)(r:lS)(b:Bd):Bool:=decide (x∈r) && !ahB ns b x
def stA(tk:Bool)(x:Str)(r xs:lS):lS:=(r.filter fun y=>!tk || decide (y≠x))++xs
mutual
def hB(ns:lS)(ow:Str->List Bool):Bd->lS->Nat->Hc×Nat
 |.give x,l,m=>(wD (dO ns (.give x) l) (wH (spn (rO ns (.give x) l) [x] m).2.1 (.give ((spn (rO ns (.give x) l) [x] m).1.getD 0 ""))),(spn (rO ns (.give x) l) [x] m).2.2)
 |.lt x d b,l,m =>
  (wD (dO ns (.lt x d b) l) (wH (spL ns ow d b (rO ns (.lt x d b) l) m).2.1 (.lt x (hdD ow d (spL ns ow d b (rO ns (.lt x d b) l) m).1) (hB ns ow b (stL (rO ns (.lt x d b) l) (spL ns ow d b (rO ns (.lt x d b) l) m).1 x) (spL ns ow d b (rO ns (.lt x d b) l) m).2.2).1)),(hB ns ow b (stL (rO ns (.lt x d b) l) (spL ns ow d b (rO ns (.lt x d b) l) m).1 x) (spL ns ow d b (rO ns (.lt x d b) l) m).2.2).2)
 |.iff x a b,l,m=>(wD (dO ns (.iff x a b) l) (.iff x (hB ns ow a (rO ns (.iff x a b) l) m).1 (hB ns ow b (rO ns (.iff x a b) l) (hB ns ow a (rO ns (.iff x a b) l) m).2).1),(hB ns ow b (rO ns (.iff x a b) l) (hB ns ow a (rO ns (.iff x a b) l) m).2).2)
 |.case x as,l,m=>(wD (dO ns (.case x as) l) (.case x (hA ns ow x (rO ns (.case x as) l) as m).1),(hA ns ow x (rO ns (.case x as) l) as m).2)
def hA(ns:lS)(ow:Str->List Bool)(x:Str)(r:lS):Arms->Nat->Ha×Nat
 |.nil,m=>(.nil,m)
 |.cons t xs b as,m=>(.cons t xs (tkB ns x r b) (hB ns ow b (stA (tkB ns x r b) x r xs) m).1 (hA ns ow x r as (hB ns ow b (stA (tkB ns x r b) x r xs) m).2).1,(hA ns ow x r as (hB ns ow b (stA (tkB ns x r b) x r xs) m).2).2)
end
structure Pk where
 b:Bd
 l:lS
 m:Nat
section
variable(ns:lS)(ow:Str->List Bool)
def kA(x:Str)(r:lS):Arms->Nat->List Pk
 |.nil,_=>[]
 |.cons _ xs b as,m=>⟨b,stA (tkB ns x r b) x r xs,m⟩ :: kA x r as (hB ns ow b (stA (tkB ns x r b) x r xs) m).2
def kP:Bd->lS->Nat->List Pk
 |.give _,_,_=>[]
 |.lt x d b,r,m=>[⟨b,stL r (spL ns ow d b r m).1 x,(spL ns ow d b r m).2.2⟩]
 |.iff _ a b,r,m=>[⟨a,r,m⟩,⟨b,r,(hB ns ow a r m).2⟩]
 |.case x as,r,m=>kA ns ow x r as m
def midP:Bd->lS->Nat->Nat
 |.give x,r,m=>(spn r [x] m).2.2
 |.lt x d b,r,m=>(spL ns ow d b r m).2.2
 |_,_,m=>m
def Pk.code(t:Pk):Hc:=(hB ns ow t.b t.l t.m).1
def Pk.kids(t:Pk):List Pk:=kP ns ow t.b (rO ns t.b t.l) t.m
def Pk.mid(t:Pk):Nat:=midP ns ow t.b (rO ns t.b t.l) t.m
def Pk.post(t:Pk):Nat:=(hB ns ow t.b t.l t.m).2
theorem JH(x:Str)(r:lS):∀(as:Arms)(m:Nat),Chn Pk.m (Pk.post ns ow) m (kA ns ow x r as m) (hA ns ow x r as m).2
 |.nil,m=>by unfold kA hA;rfl
 |.cons t xs b as,m=>by unfold kA hA;exact⟨rfl,JH x r as _⟩
theorem Pk.chn(t:Pk):Chn Pk.m (Pk.post ns ow) (t.mid ns ow) (t.kids ns ow) (t.post ns ow):=by
 obtain⟨b,l,m⟩:=t;unfold Pk.kids Pk.mid Pk.post;cases b with
 |give x=>unfold kP midP hB;rfl
 |lt x d b=>unfold kP midP;rw[hB];exact⟨rfl,rfl⟩
 |iff x a b=>unfold kP midP;rw[hB];exact⟨rfl,rfl,rfl⟩
 |case x as=>unfold kP midP;rw[hB];exact JH ns ow x _ as m
end
end GN
namespace L2
open PySem PySem.Spec PyProof.Rows
def tFs2(b:Str)(t1 t2:TE):TE:=fun σ H Q=>t1 σ H fun v1 H1=>∃x,v1=.str x/\x.length+b.length<=sizeLine/\t2 σ H1 fun v2 H2=>∃i:Int,v2=.int i/\i.natAbs.log2 < 1920/\x.length+b.length+(Str.ofString (toString i)).length<=sizeLine/\Q (.str (Str.empty++x++b++Str.ofString (toString i))) H2
theorem zc0{b:Str}{j'}{p3 p4:Pos}(h1:PE X e1 t1)(h2:PE X e2 t2):
  PE X (.JoinedStr [.FormattedValue e1 (-1) nO p2,.Constant (.str b) j' p3,.FormattedValue e2 (-1) nO p4] pos) (tFs2 b t1 t2):=by
 intro pins s σ H Q I hq;have l0:Str.empty.length=0:=rfl;refine wpAny_JoinedStr ?_;refine wpAny_FormattedValue_plain (thn (h1 pins _ σ H _ (I.tok _) hq) fun v s1 hv=>?_);obtain⟨u,H1,I1,r1,x,e1,lx,q1⟩:=hv;subst e1;obtain⟨t,rfl⟩:=r1;have key:∀s2,Inv X pins σ H1 s2->∀t',∃y t0,Value.str x t'=.str y t0/\(Str.empty++y).length<=sizeLine/\Joins (model X.prog X.w) X.A X.xe (evalEach [.Constant (.str b) j' p3,.FormattedValue e2 (-1) nO p4] X.env) (Str.empty++y) (fun out s₁=>out.length<=sizeLine/\EP X pins σ Q (.str out s₁.toks) { s₁ with toks:=s₁.toks+1 }) s2:=fun s2 I2 t'=>by
  refine⟨x,t',rfl,by rw[strLen_append];lia,?_⟩;refine Calls.Constant_str ⟨b,_,rfl,by rw[strLen_append,strLen_append];lia,?_⟩;refine wpAny_FormattedValue_plain (thn (h2 pins _ σ H1 _ (I2.tok _) q1) fun v s3 hv=>?_);obtain⟨u,H3,I3,r3,i,e3,li,lt,q3⟩:=hv;subst e3;obtain⟨t,rfl⟩:=r3;refine wpAny_formatField_int li ⟨_,_,rfl,by rw[strLen_append,strLen_append,strLen_append];lia,by rw[strLen_append,strLen_append,strLen_append];lia,?_⟩;exact⟨.str _,H3,(I3.tok _),⟨_,rfl⟩,q3⟩
 exact wpAny_formatField_str (key _ I1 _) (key _ (I1.tok _) _) (by lia)
theorem zc1{b:Str}{j'}{p3 p4:Pos}(h1:jE X e1 t1)(h2:jE X e2 t2):
  jE X (.JoinedStr [.FormattedValue e1 (-1) nO p2,.Constant (.str b) j' p3,.FormattedValue e2 (-1) nO p4] pos) (tFs2 b t1 t2):=⟨zc0 h1.out h2.out⟩
end L2
namespace K11
open PySem PySem.Spec PyProof.Rows Builtin Builtin.Str NumText
theorem JI(m:Nat):AllDigits ((Nat.toDigits 10 m).map Char.toNat):=by
 induction m using Nat.strongRecOn with
 |_ m ih =>
  by_cases h:m < 10
  ·rw[Nat.toDigits_of_lt_base h]
   intro c hc;rw[List.map_singleton,uk]at hc
   have:∀d:Nat,d < 10->48<=(Nat.digitChar d).toNat/\(Nat.digitChar d).toNat<=57:=by decide
   rw[hc];exact this m h
  ·rw[Nat.toDigits_of_base_le (by decide) (by lia),ur]
   intro c hc;rcases ux.mp hc with hc|hc
   ·exact ih (m / 10) (by lia) c hc
   ·rw[List.map_singleton,uk]at hc
    have:∀d:Nat,d < 10->48<=(Nat.digitChar d).toNat/\(Nat.digitChar d).toNat<=57:=by decide
    rw[hc];exact this (m % 10) (Nat.mod_lt _ (by decide))
theorem JJ(m:Nat):cl (Str.ofString (toString ((m:Nat):Int)))=(Nat.toDigits 10 m).map Char.toNat:=PySem.W.KIN.signs_num m
end K11
namespace GN
open PySem L2 K11
structure Pn(K:uc)(cP:aO):Prop where
 cl:Cls K cP
 a1:NoAttr K cP "owns"
 a2:NoAttr K cP "bits"
 a3:NoAttr K cP "many"
def LIMT:Nat:=2 ^ 60
def PO(cP dx od bd:aO)(n:Nat):HO:=.ins cP dx [("owns",.ref od),("bits",.ref bd),("many",.int (n:Nat))]
theorem WS(h:j<=LIMT):((j:Nat):Int).natAbs.log2 < 1920/\(Str.ofString (toString ((j:Nat):Int))).length<=1000:=by
 unfold LIMT at h;refine⟨?_,?_⟩
 ·rw[Int.natAbs_natCast]
  by_cases c:j=0
  ·rw[c];decide
  ·exact uJ ((Nat.log2_lt c).mpr (Ue h (by decide:(2:Nat) ^ 60 < 2 ^ 61))) (by decide)
 ·rw[<- xx,JJ,ub]
  exact uH ((Nat.length_toDigits_le_iff (k:=30) (by decide) (by decide)).mpr (Ue h (by decide))) (by decide)
inductive spNew(cP:aO)(vs:List V)(H:Hp)(Q:VK)(e_3:XK):Prop
 |mk (pu:aO) (dx:aO) (od:aO) (bd:aO) (x:Str):(∃n:Nat,vs=[.ref pu,.str x]/\H pu=sO (PO cP dx od bd n)/\n+1<=LIMT/\x.length<=1000/\∀H',H'=upd H pu (PO cP dx od bd (n+1))->Q (.str (nnm x (n+1))) H')->spNew cP vs H Q e_3
inductive spAhd(cP:aO)(vs:List V)(H:Hp)(Q:VK)(e_3:XK):Prop
 |mk (pu:aO) (dx:aO) (od:aO) (bd:aO) (x:Str) (n:Nat) (m:Nat) (v:V):(∃ns:lS,vs=[.ref pu,.str x,v]/\H pu=sO (PO cP dx od bd n)/\H bd=sO (.dK (yA ns 1))/\x∈ns/\Nt H m v/\Q (.bl ((m &&& bitN ns x) != 0)) H)->spAhd cP vs H Q e_3
inductive spSpent(cP:aO)(vs:List V)(H:Hp)(Q:VK)(e_3:XK):Prop
 |mk (pu:aO) (dx:aO) (od:aO) (bd:aO) (lx:aO) (lf:aO) (xs:lS) (fr:lS):(∃n:Nat,vs=[.ref pu,.ref lx,.ref lf]/\H pu=sO (PO cP dx od bd n)/\H lx=sO (.lst (xs.map V.str))/\H lf=sO (.lst (fr.map V.str))/\n+xs.length<=LIMT/\xs.length<=100/\(∀x∈xs,x.length<=1000)/\∀H' t ls lp qs,KM (·=pu) H H'->H' pu=sO (PO cP dx od bd (spn fr xs n).2.2)->H' t=sO (.tup [.ref ls,.ref lp])->H ls=nO->H lp=nO->H' ls=sO (.lst ((spn fr xs n).1.map V.str))->H' lp=sO (.lst (qs.map V.ref))->All2 (fun(p:Str×Str) q=>H' q=sO (.tup [.str p.1,.str p.2])) (spn fr xs n).2.1 qs->Q (.ref t) H')->spSpent cP vs H Q e_3
inductive spDrops(vs:List V)(H:Hp)(Q:VK)(e_3:XK):Prop
 |mk (l:aO) (xs:lS) (c:Hc):(∃v:V,vs=[.ref l,v]/\H l=sO (.lst (xs.map V.str))/\IsHc H c v/\∀H' v',Same H H'->IsHc H' (wD xs c) v'->Q v' H')->spDrops vs H Q e_3
inductive spHolds(vs:List V)(H:Hp)(Q:VK)(e_3:XK):Prop
 |mk (l:aO) (ps:List (Str×Str)) (qs:List aO) (c:Hc):(∃v:V,vs=[.ref l,v]/\H l=sO (.lst (qs.map V.ref))/\All2 (fun(p:Str×Str) q=>H q=sO (.tup [.str p.1,.str p.2])) ps qs/\IsHc H c v/\∀H' v',Same H H'->IsHc H' (wH ps c) v'->Q v' H')->spHolds vs H Q e_3
section
variable{K:uc}
theorem scNew:FnScope ["self","name","many"] ["self","name"] (zt vU):=.ok
theorem zc2(F:Fun K "new_name" "Putter.new_name" vU f fd)(N:Pn K cP):FnOk P w K mg base CX0 1 f fd ["self","name"] (spNew cP):=by
 refine F.by scNew (fun vs H Q E h=>?_) (fun cdv A outer s H vs Q E hr h=>?_)
 ·obtain⟨pu,dx,od,bd,x,n,rfl,_⟩:=h
  rfl
 obtain⟨pu,dx,od,bd,x,n,rfl,ho,hn,hx,q⟩:=h;refine⟨_,zh (xj (jv 0) (zx yh (zI K (jv 0)) zo)) (zh (sE 2 scNew.nd (zI K (jv 0))) (zn (zv (zc1 (jv 1) (jv 2))))),?_⟩;have sl:=zN;refine(zg rfl ⟨pu,cP,dx,_,_,rfl,ho,N.cl,N.a3,rfl,(zw rfl rfl (zg rfl ⟨pu,cP,dx,(zg rfl ⟨ho,N.cl,N.a3,by show 3 < 1000;decide,?_⟩)⟩))⟩);have e:(((n:Nat):Int)+1)=((n+1:Nat):Int):=by lia
 have pf:HO.ins cP dx (putF "many" (.int (((n:Nat):Int)+1)) [("owns",V.ref od),("bits",V.ref bd),("many",V.int ((n:Nat):Int))])=PO cP dx od bd (n+1):=by rw[e];rfl
 rw[pf];have hu:=uX9 (H:=H) (a:=pu) (o:=PO cP dx od bd (n+1));generalize hH:upd H pu (PO cP dx od bd (n+1))=H1 at *;obtain⟨l1,l2⟩:=WS hn;have l6:(".":Str).length=1:=by decide +kernel
 refine(zg rfl ⟨pu,cP,dx,_,_,rfl,hu,N.cl,N.a3,rfl,?_⟩);exact(zq rfl rfl ⟨by rw[l6];lia,(zq rfl rfl ⟨l1,by rw[l6];lia,q _ rfl⟩)⟩)
theorem zdQ:FnScope lS19 lS19 (zt vV):=.ok
theorem zc3(F:Fun K "is_ahead" "Putter.is_ahead" vV f fd)(N:Pn K cP):FnOk P w K mg base CX0 1 f fd lS19 (spAhd cP):=by
 refine F.by zdQ (fun vs H Q E h=>?_) (fun cdv A outer s H vs Q E hr h=>?_)
 ·obtain⟨pu,dx,od,bd,x,n,m,v,ns,rfl,_⟩:=h
  rfl
 obtain⟨pu,dx,od,bd,x,n,m,v,ns,rfl,ho,hb,hx,⟨qn,ln,rfl,hn⟩,q⟩:=h;refine⟨_,zn (zv (xr VE (zx X6 (zp K (jv 2)) (yK hr (zI K (jv 0)) (jv 1))) zo (wX _))),?_⟩;have g:=xS (x:=x) (ns:=ns) (b:=1);rw[iP hx,Nat.one_mul]at g;refine(zg rfl (ixT hn aI0 ?_));refine(zg rfl ⟨pu,cP,dx,_,_,rfl,ho,N.cl,N.a2,rfl,?_⟩);refine(zg rfl ⟨bd,.int ((bitN ns x:Nat):Int),rfl,(show DGet H bd (kV (.inr x)) (sO (.int ((bitN ns x:Nat):Int)))from g ▸ DGet.k hb),(zw rfl rfl ⟨rfl,?_⟩)⟩);show Q (V.bl (!decide (V.int (Builtin.bitAnd ((m:Nat):Int) ((bitN ns x:Nat):Int))=V.int 0))) H;rw[PyProof.Rows.bitAnd_pp (tT m) (tT _),UR,UR];have e:(!decide (V.int ((m &&& bitN ns x:Nat):Int)=V.int 0))=((m &&& bitN ns x) != 0):=by
  rw[UP];simp
 rw[e];exact q
theorem inVs(x:Str):∀xs:lS,inV (.str x) (xs.map V.str)=decide (x∈xs)
 |[]=>rfl
 |y::xs=>by
  show((y == x) || inV (.str x) (xs.map V.str))=_;rw[inVs x xs,UP,Uj,beq_iff_eq,dA,dA,uy];exact⟨fun h=>h.imp_left Eq.symm,fun h=>h.imp_left Eq.symm⟩
theorem jd(xs:lS):(xs.map V.str).all wj=tV:=by
 rw[List.all_map,UF];intro x _
 rfl
theorem scSpent:FnScope ["self","names","free","stand","pairs","name"] lS25 (zt Xt):=.ok
theorem JK(F:Fun K "spent" "Putter.spent" Xt f fd)(N:Pn K cP)(GN':Me P w K mg base CX0 1 cP "new_name" ["self","name"] (spNew cP)):FnOk P w K mg base CX0 2 f fd lS25 (spSpent cP):=by
 refine F.by scSpent (fun vs H Q E h=>?_) (fun cdv A outer s H vs Q E hr h=>?_)
 ·obtain⟨pu,dx,od,bd,lx,lf,xs,fr,n,rfl,_⟩:=h
  rfl
 obtain⟨pu,dx,od,bd,lx,lf,xs,fr,n,rfl,ho,hlx,hlf,hn,hxl,hx,q⟩:=h;refine⟨_,
  (zh (sE 3 scSpent.nd (zC zL))
  (zh (sE 4 scSpent.nd (zC zL))
  (zh (ya PassesOwn.never rfl (zP K (jv 1)) (gN 5 scSpent.nd)
   (zn (zH (jW.pt (xD (Xl K (jv 5) (jv 2)) (xt (vv K (jv 5) (jv 3)))))
    (zn (yr (xg uN uV uW z6 (jv 3) (jA1 (jv 5)))))
    (zh (yr (xg uN uV uW z6 (jv 3) (jA1 (vN (jv 0) N.cl GN' hr yI (jA1 (jv 5))))))
    (zn (yr (xg uN uV uW z6 (jv 4) (jA1 (zA (jA2 (xX (zV K) (jv 3) (y0 zo)) (jv 5)))))))))))
  (zn (zv (zA (jA2 (jv 3) (jv 4)))))))),?_⟩
 have sl:=zN;refine⟨sN0,fun ls hls=>⟨sN0,fun lp hlp=>?_⟩⟩;have s1:Same H (upd (upd H ls (.lst [])) lp (.lst [])):=(zk hls _).new hlp;have nlp:H lp=nO:=(zk hls (.lst [])).free hlp;have nsp:ls≠lp:=zi uX9 hlp;have nup:∀{b:aO}{u:HO},H b=sO u->(∀C dx fs,u≠.ins C dx fs)->b≠pu:=fun{b u} e n z=>by rw[z,ho]at e;exact n _ _ _ (uX.inj e).symm
 refine(zg rfl ⟨lx,rfl,⟨_,SqL.of (s1 _ _ hlx)⟩,yX (xs:=xs.map V.str) (fun i σ H'=>(∃y,σ=[sR pu,sR lx,sR lf,sR ls,sR lp,y])/\KM (·=pu) H H'/\H' pu=sO (PO cP dx od bd (spn fr (xs.take i) n).2.2)/\H' ls=sO (.lst ((spn fr (xs.take i) n).1.map V.str))/\∃qs,H' lp=sO (.lst (qs.map V.ref))/\All2 (fun(p:Str×Str) q=>H' q=sO (.tup [.str p.1,.str p.2])) (spn fr (xs.take i) n).2.1 qs) ⟨⟨nO,rfl⟩,.of s1,s1 _ _ ho,old hlp uX9,[],uX9,.nil⟩ (fun i σ H' _ h=>SqL.of (h.2.1 _ _ (nup hlx (by intro _ _ _ z;cases z)) hlx)) ?_ ?_⟩)
 ·rintro i v σ H1 hv ⟨⟨y,rfl⟩,k1,o1,l1,qs,l2,al⟩
  obtain⟨x,hx1,rfl⟩:=L2.gM hv;have hil:=(ud.mp hx1).1;have hl:=yO fr (xs.take i) n;rw[ut,Nat.min_eq_left (Nat.le_of_lt hil)]at hl;rw[JG hx1];have hlf1:=k1 _ _ (nup hlf (by intro _ _ _ z;cases z)) hlf;generalize spn fr (xs.take i) n=S at *;obtain⟨st,ps,m⟩:=S;dsimp only at o1 l1 al hl
  unfold spS;dsimp only
  have nls:ls≠pu:=fun z=>by rw[z,ho]at hls;cases hls
  have nlp':lp≠pu:=fun z=>by rw[z,ho]at nlp;cases nlp
  have q0:∀q∈qs,∀{u},H1 q=sO (.tup u)->q≠ls/\q≠lp/\q≠pu:=fun q _ {u} e=>⟨yn e l1 (by intro z;cases z),yn e l2 (by intro z;cases z),yn e o1 (by intro z;unfold PO at z;cases z)⟩;refine(zq rfl rfl ⟨lf,(zg rfl ⟨.inl (SqL.of hlf1),rfl,jd fr,(zg rfl ?_)⟩)⟩);rw[iN (show ¬ (fO=tV) by decide),inVs];by_cases c:x∈fr/\x∉st
  ·rw[iP c,decide_eq_true c.1]
   refine iteT (zq rfl rfl ⟨ls,(zg rfl ⟨.inl (SqL.of l1),rfl,jd st,(zg rfl ?_)⟩)⟩);rw[iP rfl,inVs,eO c.2];refine iteT (zg rfl ⟨.inl ⟨rfl,_,SqL.of l1⟩,(zg rfl ⟨ls,(zw rfl rfl ⟨l1,by rw[ub];lia,?_⟩)⟩)⟩);exact⟨⟨_,rfl⟩,k1.put hls,by rw[zj nls.symm];exact o1,by rw[uX9];simp,qs,by rw[zj nsp.symm];exact l2,al.imp fun p q e=>by rw[zj (yn e l1 (by intro z;cases z))];exact e⟩
  rw[iN c];cases c1:decide (x∈fr)
  all_goals first
   |refine iteF (iteF ?_)
   | (have c2:x∈st:=Classical.byContradiction fun z=>c ⟨of_decide_eq_true c1,z⟩
      refine iteT (zq rfl rfl ⟨ls,(zg rfl ⟨.inl (SqL.of l1),rfl,jd st,(zg rfl ?_)⟩)⟩);rw[iP rfl,inVs,decide_eq_true c2];refine iteF ?_)
  all_goals
   refine(zg rfl ⟨.inl ⟨rfl,_,SqL.of l1⟩,(zg rfl ⟨pu,dx,(zg rfl ⟨o1,rfl,(zg rfl ⟨pu,dx,od,bd,x,m,rfl,o1,by lia,hx _ (uw hx1),fun H2 e2=>?_⟩)⟩)⟩)⟩);have l1':H2 ls=sO (.lst (st.map V.str)):=by rw[e2,zj nls];exact l1
   have l2':H2 lp=sO (.lst (qs.map V.ref)):=by rw[e2,zj nlp'];exact l2
   have o2:H2 pu=sO (PO cP dx od bd (m+1)):=by rw[e2];exact uX9
   have k2:KM (·=pu) H H2:=fun b u n e=>by rw[e2,zj n];exact k1 b u n e
   have t2:∀{q u},H1 q=sO (.tup u)->H2 q=sO (.tup u):=fun{q u} e=>by rw[e2,zj (yn e o1 (by intro z;unfold PO at z;cases z))];exact e
   refine⟨ls,(zw rfl rfl ⟨l1',by rw[ub];lia,?_⟩)⟩;have hu:=uX9 (H:=H2) (a:=ls) (o:=.lst (st.map V.str++[.str (nnm x (m+1))]));have l3:upd H2 ls (.lst (st.map V.str++[.str (nnm x (m+1))])) lp=sO (.lst (qs.map V.ref)):=by rw[zj nsp.symm];exact l2'
   have o3:upd H2 ls (.lst (st.map V.str++[.str (nnm x (m+1))])) pu=sO (PO cP dx od bd (m+1)):=by rw[zj nls.symm];exact o2
   have k3:KM (·=pu) H (upd H2 ls (.lst (st.map V.str++[.str (nnm x (m+1))]))):=k2.put hls;have t3:∀{q u},H1 q=sO (.tup u)->upd H2 ls (.lst (st.map V.str++[.str (nnm x (m+1))])) q=sO (.tup u):=fun{q u} e=>by rw[zj (yn (t2 e) l1' (by intro z;cases z))];exact t2 e
   generalize upd H2 ls (.lst (st.map V.str++[.str (nnm x (m+1))]))=H3 at *;refine(zg rfl ⟨.inl ⟨rfl,_,SqL.of l3⟩,?_⟩);refine(zq rfl rfl ⟨ls,_,_,.str (nnm x (m+1)),rfl,rfl,SqL.of hu,?_,?_⟩)
   ·exact vK _ _
   refine(zg rfl ⟨sN2,fun t ht=>?_⟩);have aql:=al.len;have h4:=zk (o:=.tup [.str (nnm x (m+1)),.str x]) ht;refine⟨lp,(zw rfl rfl ⟨h4 _ _ l3,by rw[ub];lia,?_⟩)⟩;have tl:∀{q u},upd H3 t (.tup [.str (nnm x (m+1)),.str x]) q=sO (.tup u)->upd (upd H3 t (.tup [.str (nnm x (m+1)),.str x])) lp (.lst (qs.map V.ref++[.ref t])) q=sO (.tup u):=fun{q u} e=>by rw[zj (yn e (h4 _ _ l3) (by intro z;cases z))];exact e
   refine⟨⟨_,rfl⟩,(k3.trans (.of h4)).put nlp,by rw[zj nlp'.symm];exact h4 _ _ o3,by rw[zj nsp];rw[h4 _ _ hu];simp,qs++[t],by rw[uX9];simp,All2.app (al.imp fun p q e=>tl (h4 _ _ (t3 e))) (.cons (tl uX9) .nil)⟩
 ·rintro σ H1 ⟨⟨y,rfl⟩,k1,o1,l1,qs,l2,al⟩
  rw[ub,UM]at o1 l1 al;refine(zq rfl rfl ⟨sN2,fun t ht=>?_⟩);have hn2:=zk (o:=.tup [.ref ls,.ref lp]) ht;exact q _ t ls lp qs (k1.trans (.of hn2)) (hn2 _ _ o1) uX9 hls nlp (hn2 _ _ l1) (hn2 _ _ l2) (al.imp fun p q e=>hn2 _ _ e)
theorem zaD{xs:lS}{c:Hc}(hi:i < xs.length)(h:xs[xs.length-1-i]?=sO x):wD (xs.drop (xs.length-(i+1))) c=.drop x (wD (xs.drop (xs.length-i)) c):=by
 obtain⟨h1,h2⟩:=ud.mp h;have e:xs.length-(i+1)=xs.length-1-i:=by lia
 have e2:xs.length-i=xs.length-1-i+1:=by lia
 rw[e,UG h1,h2,e2]
 rfl
theorem zaE{xs:List (Str×Str)}{c:Hc}{x:Str×Str}(hi:i < xs.length)(h:xs[xs.length-1-i]?=sO x):wH (xs.drop (xs.length-(i+1))) c=.hold x.1 x.2 (wH (xs.drop (xs.length-i)) c):=by
 obtain⟨h1,h2⟩:=ud.mp h;have e:xs.length-(i+1)=xs.length-1-i:=by lia
 have e2:xs.length-i=xs.length-1-i+1:=by lia
 rw[e,UG h1,h2,e2]
 rfl
theorem scDrops:FnScope ["names","body","name"] ["names","body"] (zt Xu):=.ok
theorem JL(F:Fun K "with_drops" "with_drops" Xu f fd)(m_reversed:mg "reversed"=nO):FnOk P w K mg base CX0 1 f fd ["names","body"] spDrops:=by
 refine F.by scDrops (fun vs H Q E h=>?_) (fun cdv A outer s H vs Q E hr h=>?_)
 ·obtain⟨l,xs,c,v,rfl,_⟩:=h
  rfl
 obtain⟨l,xs,c,v,rfl,hl,hc,q⟩:=h;refine⟨_,(zh (ya PassesOwn.never rfl (Xi rfl m_reversed (jA1 (jv 0))) (gN 2 scDrops.nd)
   (zn (sE 1 scDrops.nd (zA (jA3 zz (jv 2) (jv 1))))))
  (zn (zv (jv 1)))),?_⟩
 have sl:=zN;refine(zg rfl ⟨l,(zg rfl ⟨SqL.of hl,Zh (xs:=xs.map V.str) (fun i σ H'=>∃v' y,σ=[sR l,sO v',y]/\Same H H'/\IsHc H' (wD (xs.drop (xs.length-i)) c) v') ⟨v,nO,rfl,Same.refl _,by rw[Nat.sub_zero,List.drop_length];exact hc⟩ (fun i σ H' _ ⟨_,_,_,s,_⟩=>SqL.of (s _ _ hl)) ?_ ?_⟩)⟩)
 ·rintro i x σ H1 hx ⟨v',y,rfl,s1,h1⟩
  have hi:i < xs.length:=by
   have:=(ud.mp hx).1
   rw[UA,ub]at this;exact this
  rw[List.getElem?_reverse (by rw[ub];exact hi),ub,uh]at hx;obtain⟨z,hz,rfl⟩:=ug.mp hx;refine(zq rfl rfl ⟨sN3,fun t ht=>⟨_,_,rfl,s1.new ht,?_⟩⟩);rw[zaD hi hz];exact⟨t,v',rfl,uX9,h1.keep (.of (zk ht _))⟩
 ·rintro σ H1 ⟨v',y,rfl,s1,h1⟩
  rw[ub,Nat.sub_self,tD]at h1;exact(zg rfl (q _ _ s1 h1))
theorem scHolds:FnScope ["pairs","body","pair"] ["pairs","body"] (zt Xv):=.ok
theorem JM(F:Fun K "with_holds" "with_holds" Xv f fd)(m_reversed:mg "reversed"=nO):FnOk P w K mg base CX0 1 f fd ["pairs","body"] spHolds:=by
 refine F.by scHolds (fun vs H Q E h=>?_) (fun cdv A outer s H vs Q E hr h=>?_)
 ·obtain⟨l,ps,qs,c,v,rfl,_⟩:=h
  rfl
 obtain⟨l,ps,qs,c,v,rfl,hl,hal,hc,q⟩:=h;refine⟨_,(zh (ya PassesOwn.never rfl (Xi rfl m_reversed (jA1 (jv 0))) (gN 2 scHolds.nd)
   (zn (sE 1 scHolds.nd (zA (jA4 zz (zp K (jv 2)) (zp K (jv 2)) (jv 1))))))
  (zn (zv (jv 1)))),?_⟩
 have sl:=zN;have le:=hal.len;refine(zg rfl ⟨l,(zg rfl ⟨SqL.of hl,Zh (xs:=qs.map V.ref) (fun i σ H'=>∃v' y,σ=[sR l,sO v',y]/\Same H H'/\IsHc H' (wH (ps.drop (ps.length-i)) c) v') ⟨v,nO,rfl,Same.refl _,by rw[Nat.sub_zero,List.drop_length];exact hc⟩ (fun i σ H' _ ⟨_,_,_,s,_⟩=>SqL.of (s _ _ hl)) ?_ ?_⟩)⟩)
 ·rintro i x σ H1 hx ⟨v',y,rfl,s1,h1⟩
  have hi:i < qs.length:=by
   have:=(ud.mp hx).1
   rw[UA,ub]at this;exact this
  rw[List.getElem?_reverse (by rw[ub];exact hi),ub,uh]at hx;obtain⟨z,hz,rfl⟩:=ug.mp hx;obtain⟨p,hp,hpz⟩:=hal.get hz;have hz1:=s1 _ _ hpz;refine(zg rfl (ixT hz1 aI0 (zg rfl (ixT hz1 aI1 (zg rfl ⟨sN4,fun t ht=>⟨_,_,rfl,s1.new ht,?_⟩⟩)))));rw[<- le]at hp hi;rw[zaE hi hp];exact⟨t,v',rfl,uX9,h1.keep (.of (zk ht _))⟩
 ·rintro σ H1 ⟨v',y,rfl,s1,h1⟩
  rw[ub,<- le,Nat.sub_self,tD]at h1;exact(zg rfl (q _ _ s1 h1))
end
end GN
namespace L2
open PySem PySem.Spec PyProof.Rows
theorem jf(a b c:aA):checkTypeCall "zip" ⟨[a,b,c],[]⟩=pure ():=by kernel_rfl
theorem jq(a b c:aA):checkBuiltinCall "zip.__new__" ⟨[.type "zip",a,b,c],[]⟩=pure ():=by kernel_rfl
theorem wf(a b c d:aA):argsOk "object.__init__" ⟨[a,b,c,d],[]⟩:=by
 unfold argsOk;rw[signature?_of (id:="object.__init__") (n:=['_','_','t','i','n','i','_','_']) (o:=['t','c','e','j','b','o']) (by kernel_rfl) F.owner_object];kernel_rfl
abbrev yb(k m e:Bool)(h:Heap)(l r t:aO):Heap:=za e (zb k m h l r) t
abbrev yc(k m e:Bool)(h:Heap)(l r t:aO):Heap:=(yb k m e h l r t).push { cls:=.type "tuple",data:=.seq #[.ref h.objs.size,.ref (za k h l).objs.size,.ref (zb k m h l r).objs.size] }
abbrev yd(k m e:Bool)(h:Heap)(l r t:aO):Heap:=(yc k m e h l r t).push { cls:=.type "tuple",data:=.seq #[.none,.none,.none] }
abbrev ye(k m e:Bool)(h:Heap)(l r t:aO):Heap:=(yd k m e h l r t).push { cls:=.type "zip",data:=.fields #[.none,.bool fO,.bool fO,.ref (yb k m e h l r t).objs.size,.ref (yc k m e h l r t).objs.size] }
theorem WT(k m e:Bool)(l r t:aO)(xs ys zs:Array aA):Meets (Builtin.«zip.__new__» ⟨[.type "zip",.ref l,.ref r,.ref t],[]⟩)
  (fun _ R s=>Sq k s.heap l xs/\Sq m s.heap r ys/\Sq e s.heap t zs/\R (.ok (.ret (.ref (yd k m e s.heap l r t).objs.size))) { s with heap:=ye k m e s.heap l r t }) :=
 .of_wp fun prog w A R s h=>by
  obtain⟨hp,g,d,tk,os⟩:=s;obtain⟨h1,h2,h3,h⟩:=h;have hs:=sub_zip;have q1:Sq k (Shared.heap ⟨hp,g,d,tk,os⟩) l xs:=h1;have q2:Sq m (Shared.heap ⟨za k hp l,g,d,tk,os⟩) r ys:=h2.at fun o e=>ue _ e;have q3:Sq e (Shared.heap ⟨zb k m hp l r,g,d,tk,os⟩) t zs:=h3.at fun o e=>ue _ (ue _ e)
  wp_walk using ww q1,ww q2,ww q3
  exact⟨_,rfl,h⟩
section
variable{k m e:Bool}{l r t:Nat}{xs ys zs:Array aA}
theorem WU{Q:VSP}(hl:Sq k s.heap l xs)(hr:Sq m s.heap r ys)(ht:Sq e s.heap t zs)
  (q:∀h',ZN [(k,l),(m,r),(e,t)] h' s.heap.objs.size 0 .none (.bool fO)->h'.objs.size=s.heap.objs.size+6->(∀c o,s.heap.get? c=sO o->h'.get? c=sO o)->Q (.ref (s.heap.objs.size+5)) { s with heap:=h' }) :
  wpAny (model P w) A (call (.type "zip") [.ref l,.ref r,.ref t]) Q E s:=by
 apply callType_new F.called_zip (by decide) (jf _ _ _) (jq _ _ _) (fun obj=>wf obj _ _ _) F.entry_zip_new (WT k m e l r t xs ys zs)
 refine⟨hl,hr,ht,?_⟩;have s1:(za k s.heap l).objs.size=s.heap.objs.size+1:=Uf ..;have s2:(zb k m s.heap l r).objs.size=s.heap.objs.size+2:=by rw[Uf,s1]
 have s3:(yb k m e s.heap l r t).objs.size=s.heap.objs.size+3:=by rw[Uf,s2]
 have s4:(yc k m e s.heap l r t).objs.size=s.heap.objs.size+4:=by rw[Uf,s3]
 have s5:(yd k m e s.heap l r t).objs.size=s.heap.objs.size+5:=by rw[Uf,s4]
 have s6:(ye k m e s.heap l r t).objs.size=s.heap.objs.size+6:=by rw[Uf,s5]
 have up:∀{c o},(yd k m e s.heap l r t).get? c=sO o->(ye k m e s.heap l r t).get? c=sO o:=fun e=>ue _ e;have p6:(ye k m e s.heap l r t).get? (yd k m e s.heap l r t).objs.size=sO _:=uu _ rfl;have p5:(ye k m e s.heap l r t).get? (yc k m e s.heap l r t).objs.size=sO _:=up (uu _ rfl);have p4:(ye k m e s.heap l r t).get? (yb k m e s.heap l r t).objs.size=sO _:=up (ue _ (uu _ rfl));have p3:(ye k m e s.heap l r t).get? (zb k m s.heap l r).objs.size=sO _:=up (ue _ (ue _ (uu _ rfl)));have p2:(ye k m e s.heap l r t).get? (za k s.heap l).objs.size=sO _:=up (ue _ (ue _ (ue _ (uu _ rfl))));have p1:(ye k m e s.heap l r t).get? s.heap.objs.size=sO _:=up (ue _ (ue _ (ue _ (ue _ (uu _ rfl)))));rw[s5,s3,s4]at p6;rw[s4]at p5;rw[s3,s1,s2]at p4;rw[s2]at p3;rw[s1]at p2;show _/\_;rw[s5];exact⟨⟨_,p6,rfl⟩,q _ ⟨p6,p4,⟨_,rfl,p5⟩,fun j k' l' hj=>by
  match j,hj with
  |0,hj=>cases hj;exact .of ⟨_,p1,rfl,rfl⟩
  |1,hj=>cases hj;exact .of ⟨_,p2,rfl,rfl⟩
  |2,hj=>cases hj;exact .of ⟨_,p3,rfl,rfl⟩⟩ s6 fun c o e=>up (ue _ (ue _ (ue _ (ue _ (ue _ e)))))⟩
end
abbrev It3(K:uc)(k m e:Bool)(a b c:aO):It:=ItN K [(k,a),(m,b),(e,c)]
section
variable{K:uc}{k m e:Bool}{ys zs:List V}{x y z v:V}
theorem go3(q1:SqK k K H a xs)(q2:SqK m K H b ys)(q3:SqK e K H c zs)(hx:xs[i]?=sO x)(hy:ys[i]?=sO y)(hz:zs[i]?=sO z):(It3 K k m e a b c).go i H:=⟨[x,y,z],rfl,fun j k' a' hj=>by
 match j,hj with
 |0,hj=>cases hj;exact⟨xs,q1,hx⟩
 |1,hj=>cases hj;exact⟨ys,q2,hy⟩
 |2,hj=>cases hj;exact⟨zs,q3,hz⟩⟩
theorem zdR(q1:SqK k K H a xs)(q2:SqK m K H b ys)(q3:SqK e K H c zs)(h:xs.length<=i):(It3 K k m e a b c).stop i H:=⟨fun j k' a' hj=>by
 match j,hj with
 |0,hj=>cases hj;exact⟨xs,q1⟩
 |1,hj=>cases hj;exact⟨ys,q2⟩
 |2,hj=>cases hj;exact⟨zs,q3⟩,0,k,a,xs,rfl,q1,h⟩
theorem yld3(h:(It3 K k m e a b c).yld i H v H')(q1:SqK k K H a xs)(q2:SqK m K H b ys)(q3:SqK e K H c zs):∃T x y z,v=.ref T/\H T=nO/\H'=upd H T (.tup [x,y,z])/\xs[i]?=sO x/\ys[i]?=sO y/\zs[i]?=sO z:=by
 obtain⟨T,vs,h1,h2,h3,h4,h5⟩:=h;obtain⟨x,vs,rfl⟩:=Uo h4;obtain⟨y,vs,rfl⟩:=Uo (Nat.succ.inj h4);obtain⟨z,vs,rfl⟩:=Uo (Nat.succ.inj (Nat.succ.inj h4));rw[Ug.mp (Nat.succ.inj (Nat.succ.inj (Nat.succ.inj h4)))]at h3 h5;exact⟨T,x,y,z,h1,h2,h3,h5 0 k a xs rfl q1,h5 1 m b ys rfl q2,h5 2 e c zs rfl q3⟩
end
theorem zdS{x y z:V}{us:List aA}(r:Vals [x,y,z] us):∃u v t,us=[u,v,t]/\RelV x u/\RelV y v/\RelV z t:=by
 cases r with
 |cons r1 r2 =>
  cases r2 with
  |cons r3 r4 =>
   cases r4 with
   |cons r5 r6=>cases r6;exact⟨_,_,_,rfl,r1,r3,r5⟩
def zbt(K:uc)(ta:TA):TI:=fun σ H R=>ta σ H fun vs H1=>∃a b c k m e xs ys zs,vs=[.ref a,.ref b,.ref c]/\SqK k K H1 a xs/\SqK m K H1 b ys/\SqK e K H1 c zs/\R (It3 K k m e a b c) H1
theorem zaF{a b c:Expr}{ta:TA}{p:Pos}(hg:Gl X "zip")(hm:X.mg "zip"=nO)(ha:PA X [a,b,c] ta)(h1:starEach [a,b,c] X.env=[(fO,eval a X.env),(fO,eval b X.env),(fO,eval c X.env)]:=by rfl)(h2:starEach [b,c] X.env=[(fO,eval b X.env),(fO,eval c X.env)]:=by rfl):
  PI X (.Tuple elts n tpos) (.Call (.Name "zip" p) [a,b,c] [] pos) (zbt X.K ta):=by
 intro pins s σ H R I h;refine Call_ (xp I hg hm boot_zip (Um (thn (ha pos pins s σ H _ I h) fun us s1 g=>?_) (by rw[h1,h2]) (by rw[h2];rfl)));obtain⟨vs,H1,I1,r1,a1,b1,c1,k,m,e,xs,ys,zs,rfl,g1,g2,g3,q⟩:=g;obtain⟨u,u',u'',rfl,e1,e2,e3⟩:=zdS r1;cases e1;cases e2;cases e3;obtain⟨i1,v1,q1,z1,l1⟩:=I1.sqk g1;obtain⟨i2,v2,q2,z2,l2⟩:=I1.sqk g2;obtain⟨i3,v3,q3,z3,l3⟩:=I1.sqk g3;refine WU q1 q2 q3 fun h' Z sz kp=>?_;have tz:=Yd (P:=X.prog) (w:=X.w) (K:=X.K) (elts:=elts) (n:=n) (pos:=tpos) (zs:=[(k,a1),(m,b1),(e,c1)]) (B:=s1.heap.objs.size) (by show 0 < 3;decide) sN3 fun j k' a' hj=>by
  match j,hj with
  |0,hj=>cases hj;exact l1
  |1,hj=>cases hj;exact l2
  |2,hj=>cases hj;exact l3
 refine tz.self X.A 0 { s1 with heap:=h' } _ _ Z ⟨s1.heap.objs.size+5,_,_,_,H1,rfl,I1.kept (t':=s1.toks) kp,tz,Z,fun c hc=>?_,q⟩;have le:s1.heap.objs.size<=c:=(fpN_iff.mp hc).1;exact I1.fpOk le (I1.hok.fresh le)
theorem zaG{a b c:Expr}{t:TA}{p:Pos}(hg:Gl X "zip")(hm:X.mg "zip"=nO)(ha:jA X [a,b,c] t)(h1:zy a=fO:=by rfl)(h2:zy b=fO:=by rfl)(h3:zy c=fO:=by rfl):jI X (.Tuple elts n tpos) (.Call (.Name "zip" p) [a,b,c] [] pos) (zbt X.K t) :=
 ⟨zaF hg hm ha.out (by rw[zE h1,zE h2,zE h3];rfl) (by rw[zE h2,zE h3];rfl)⟩
end L2
namespace L2
open PySem
section
variable{Q:VK}
theorem zaH{K:uc}{k m e:Bool}{ys us:List V}(hlen:xs.length=ys.length)(hlen':xs.length=us.length)(Pv:Nat->St->List V->Hp->Prop)(h0:Pv 0 σ [] H)(hl:∀i τ zs H,i<=xs.length->Pv i τ zs H->SqK k K H a xs/\SqK m K H b ys/\SqK e K H c us)
  (hs:∀i x y u T τ zs H,xs[i]?=sO x->ys[i]?=sO y->us[i]?=sO u->H T=nO->Pv i τ zs H->g (.ref T) τ (upd H T (.tup [x,y,u])) fun τ2 H2=>tt τ2 H2 fun b H3=>if b=tV then te τ2 H3 fun y H4=>zs.length < sizeLine/\Pv (i+1) τ2 (zs++[y]) H4 else Pv (i+1) τ2 zs H3)
  (hd:∀τ zs H,Pv xs.length τ zs H->∀p,H p=nO->Q (.ref p) (upd H p (.lst zs))):∃W,(∃m,W 0 m σ [] H)/\lcBy (It3 K k m e a b c) g tt te Q W:=by
 refine⟨fun i m τ zs H=>m=xs.length-i/\i<=xs.length/\Pv i τ zs H,⟨xs.length,by simp,uK _,h0⟩,?_⟩;rintro i n τ zs H ⟨rfl,hi,p⟩;obtain⟨q1,q2,q3⟩:=hl i τ zs H hi p;by_cases hlt:i < xs.length
 ·refine .inr ⟨go3 q1 q2 q3 (ui hlt) (ui (hlen ▸ hlt)) (ui (hlen' ▸ hlt)),Pv (i+1),fun τ' zs' H' p'=>⟨xs.length-(i+1),by lia,rfl,hlt,p'⟩,fun x H' yq=>?_⟩
  obtain⟨T,x,y,z,rfl,hT,rfl,e1,e2,e3⟩:=yld3 yq q1 q2 q3;exact hs i x y z T τ zs H e1 e2 e3 hT p
 ·have e:i=xs.length:=by lia
  subst e;exact .inl ⟨zdR q1 q2 q3 (uj _),hd τ zs H p⟩
end
end L2
namespace GN
open PySem L2 K11
variable{d:De}
def IsDp(H:Hp):De->aO->Prop
 |.num i,p=>H p=sO (.tup [.str "num",.int i])
 |.op w a b,p=>H p=sO (.tup [.str "op",.str w,.str a,.str b])
 |.app w f xs,p=>∃q,H p=sO (.tup [.str w,.str f,.ref q])/\H q=sO (.tup (xs.map V.str))
def OwA(H:Hp)(od:aO)(ow:Str->List Bool)(N:lS):Prop:=∃kv,H od=sO (.dK kv)/\∀f∈N,∃a,valV kv (.inr f)=sO (.ref a)/\H a=sO (.tup ((ow f).map V.bl))
def CaD(N:lS)(ow:Str->List Bool):De->Prop
 |.app w f xs=>w="call"->f∈N/\(ow f).length=xs.length
 |_=>True
def LnD:De->lS->Prop
 |.op _ _ _,xs=>xs.length=2
 |.app w _ _,xs=>w="ask"->xs≠[]
 |_,_=>True
theorem ZA{w f:Str}{xs0 xs:lS}(e:w≠"ask"):wN (.app w f xs0) xs=.app w f xs:=iN e
theorem JN{f:Str}{xs0 xs:lS}:wN (.app "ask" f xs0) (y::xs)=.app "ask" y xs:=by unfold wN;exact iP rfl
inductive spWith(vs:List V)(H:Hp)(Q:VK)(e_3:XK):Prop
 |mk (p:aO) (l:aO) (d:De):(∃xs:lS,vs=[.ref p,.ref l]/\IsDe H d p/\H l=sO (.lst (xs.map V.str))/\LnD d xs/\xs.length<=100/\∀H' q,Same H H'->IsDp H' (wN d xs) q->Q (.ref q) H')->spWith vs H Q e_3
inductive spUsedUp(vs:List V)(H:Hp)(Q:VK)(e_3:XK):Prop
 |mk (p:aO) (od:aO) (d:De) (ow:Str->List Bool):(∃N:lS,vs=[.ref p,.ref od]/\IsDe H d p/\OwA H od ow N/\CaD N ow d/\∀H' q,Same H H'->H' q=sO (.tup ((ends ow d).map V.bl))->Q (.ref q) H')->spUsedUp vs H Q e_3
theorem IsDe.head(ow:Str->List Bool)(h:IsDe H d p):∃w0 rest,H p=sO (.tup (.str w0::rest))/\(w0="call"->∃f xs q,d=.app "call" f xs/\rest=[.str f,.ref q])/\(w0≠"call"->d.uses.map (fun _=>V.bl (!decide (V.str w0=V.str "op")))=(ends ow d).map V.bl):=by
 cases h with
 |num a=>exact⟨_,_,a,fun e=>absurd e (by decide),fun _=>rfl⟩
 |op a=>exact⟨_,_,a,fun e=>absurd e (by decide),fun _=>rfl⟩
 |@app w0 f0 xs0 p q0 c a b =>
  refine⟨_,_,a,fun e=>⟨f0,xs0,q0,by rw[e],rfl⟩,fun e=>?_⟩;rw[show ends ow (.app w0 f0 xs0)=(De.uses (.app w0 f0 xs0)).map fun _=>tV from iN e,UD,eO (fun z=>c.2.1 (V.str.inj z))]
  rfl
theorem IsDe.usl(h:IsDe H d p):d.uses.length<=41:=by
 cases h with
 |num a=>show 0<=41;decide
 |op a=>show 2<=41;decide
 |@app w0 f0 xs0 p q0 c a b =>
  by_cases e:w0="ask"
  ·rw[e,yy,um];lia
  ·rw[yi e];lia
section
variable{K:uc}
theorem zc4:FnScope ["deed","names"] ["deed","names"] (zt Jb):=.ok
theorem zaI(F:Fun K "with_names" "with_names" Jb f fd)(m_tuple:mg "tuple"=nO):FnOk P w K mg base CX0 1 f fd ["deed","names"] spWith:=by
 refine F.by zc4 (fun vs H Q E h=>?_) (fun cdv A outer s H vs Q E hr h=>?_)
 ·obtain⟨p,l,d,xs,rfl,_⟩:=h
  rfl
 obtain⟨p,l,d,xs,rfl,hd,hl,hn,hx,q⟩:=h;refine⟨_,
  (zh (zH (tN zM (zp K (jv 0)) zz) (zn (zv (jv 0))) zB)
  (zh (zH (tN zM (zp K (jv 0)) zz) (zn (zv (zx wr (yC wL (jv 0) yM (yN zo)) (zS (zF K) rfl m_tuple uO (jA1 (jv 1)))))) zB)
  (zh (zH (tN zM (zp K (jv 0)) zz) (zn (zv (zA (jA3 zz (zU K (jv 1)) (zS (zF K) rfl m_tuple uO (jA1 (yC (xF K) (jv 1) (yN zo) yM))))))) zB)
  (zn (zv (zx wr (yC wL (jv 0) yM (yN zo)) (zA (jA1 (zS (zF K) rfl m_tuple uO (jA1 (jv 1))))))))))),?_⟩
 have sl:=zN;cases hd with
 |num hp =>
  refine(zg rfl (ixT hp aI0 ⟨rfl,(zg rfl ?_)⟩));refine iteT (zg rfl (q _ p (Same.refl _) hp))
 |@op w0 a b p hp =>
  refine(zg rfl (ixT hp aI0 ⟨rfl,(zg rfl (iteF ?_))⟩));refine(wB rfl hp ?_);refine(zg rfl ⟨2,rfl,p,(zg rfl ⟨hp,fun p3 H1 s1 h3=>(zg rfl ⟨l,(zg rfl (.inl ⟨SqL.of (s1 _ _ hl),fun t4 f4=>?_⟩))⟩)⟩)⟩);have hn:xs.length=2:=hn
  match xs,hn with
  |[a1,b1],_ =>
  refine⟨p3,t4,[.str "op",.str w0],(zg rfl ⟨rfl,SqT.of (old f4 h3),SqT.of uX9,(by intro z;cases z),sN4,(fun e=>by simp at e),fun _ pd fd'=>?_⟩)⟩;exact q _ pd (((show Same H H1 from s1).new f4).new fd') uX9
 |@app w0 f0 xs0 p q0 c hp hq =>
  refine(zg rfl (ixT hp aI0 ⟨rfl,(zg rfl ?_)⟩));rw[eO (fun e=>c.1 (V.str.inj e))];refine iteF ?_;refine(zg rfl (ixT hp aI0 ⟨rfl,(zg rfl ?_)⟩));rw[eO (fun e=>c.2.1 (V.str.inj e))];refine iteF ?_;refine(zg rfl (ixT hp aI0 ⟨rfl,(zg rfl ?_)⟩));by_cases e:w0="ask"
  ·subst e
   refine iteT ?_;have hn:=hn rfl
   match xs,hn with
   |y::ys,_ =>
   refine(zg rfl (ixL hl aI0 ?_));refine(zg rfl ⟨1,rfl,l,(zg rfl ⟨SqL.of hl,fun l2 f2=>⟨l2,(zg rfl (.inl ⟨SqL.of uX9,fun t3 f3=>⟨sN3,fun pd fd'=>?_⟩⟩))⟩⟩)⟩);have e2:cutV ((y::ys).map V.str) (sO 1) nO=ys.map V.str:=by rw[Yq (by decide)];rfl
   refine q _ pd (((zk f2 _).new f3).new fd') ?_;rw[JN];refine⟨t3,uX9,old fd' ?_⟩;rw[uX9,e2]
  ·rw[eO (fun z=>e (V.str.inj z))]
   refine iteF ?_;refine(zg rfl ⟨2,rfl,p,(zg rfl ⟨hp,fun p3 H1 s1 h3=>(zg rfl ⟨l,(zg rfl (.inl ⟨SqL.of (s1 _ _ hl),fun t4 f4=>⟨sN1,fun t5 f5=>?_⟩⟩))⟩)⟩)⟩);refine⟨p3,t5,[.str w0,.str f0],(zg rfl ⟨rfl,SqT.of (old f5 (old f4 h3)),SqT.of uX9,(by intro z;cases z),sN3,(fun e=>by simp at e),fun _ pd fd'=>?_⟩)⟩;refine q _ pd ((((show Same H H1 from s1).new f4).new f5).new fd') ?_;rw[ZA e];exact⟨t4,uX9,old fd' (old f5 uX9)⟩
theorem JO:FnScope ["deed","owns"] ["deed","owns"] (zt Zp):=.ok
theorem JP:(["deed","owns","name"]:lS).Nodup:=by decide +kernel
theorem WV(F:Fun K "used_up" "used_up" Zp f fd)(GN':Ca P w K mg base CX0 1 "names_of" ["deed"] spNamesOf)(m_tuple:mg "tuple"=nO):FnOk P w K mg base CX0 2 f fd ["deed","owns"] spUsedUp:=by
 refine F.by JO (fun vs H Q E h=>?_) (fun cdv A outer s H vs Q E hr h=>?_)
 ·obtain⟨p,od,d,ow,N,rfl,_⟩:=h
  rfl
 obtain⟨p,od,d,ow,N,rfl,hd,ho,hc,q⟩:=h;refine⟨_,
  (zh (zH (tN zM (zp K (jv 0)) zz) (zn (zv (yK hr (jv 1) (zp K (jv 0))))) zB)
  (zn (zv (zS (zF K) rfl m_tuple uO (jA1 (yg ["name"] rfl (yF K (cA GN' hr (jA1 (jv 0)))) (fun _ _ _ _ _=>(gN 2 JP)) (fun _ _ _ _ _=>zW) (fun _ _ _ _ _=>(xr VE (zp K (jv 0)) zz (wX _))))))))),?_⟩
 have sl:=zN;obtain⟨w0,rest,hp,h1,h2⟩:=hd.head ow;have hul:=hd.usl;refine(zg rfl (ixT hp aI0 ⟨rfl,(zg rfl ?_)⟩));by_cases e:w0="call"
 ·subst e
  obtain⟨f0,xs,q0,rfl,rfl⟩:=h1 rfl;refine iteT ?_;obtain⟨kv,hkv,hN⟩:=ho;obtain⟨hf,_⟩:=hc rfl;obtain⟨a,g1,g2⟩:=hN _ hf;refine(zq rfl rfl (ixT hp aI1 ⟨od,.ref a,rfl,(show DGet H od (kV (.inr f0)) (sO (.ref a))from g1 ▸ DGet.k hkv),?_⟩));exact q _ a (Same.refl _) g2
 ·rw[eO (fun z=>e (V.str.inj z))]
  refine iteF ?_;refine(zg rfl ⟨p,d,rfl,hd,fun H1 q1 s1 hq1=>?_⟩);refine⟨q1,rfl,⟨_,SqT.of hq1⟩,vO (xs:=d.uses.map V.str) (fun j τ ys H'=>H1=H'/\(∃v,τ=[sR p,sR od,v])/\ys=(d.uses.take j).map (fun _=>V.bl (!decide (V.str w0=V.str "op")))) ⟨rfl,⟨nO,rfl⟩,rfl⟩ (fun j τ ys H' _ h=>SqT.of (h.1 ▸ hq1)) ?_ ?_⟩
  ·rintro j v τ ys H2 hv ⟨rfl,⟨v',rfl⟩,rfl⟩
   obtain⟨x,hx,rfl⟩:=L2.gM hv;refine(zg rfl (ixT (s1 _ _ hp) aI0 ⟨rfl,by rw[ub,ut];lia,rfl,⟨_,rfl⟩,?_⟩));rw[uD,hx,ur]
   rfl
  ·rintro τ ys H2 ⟨rfl,_,rfl⟩ l hl
   rw[ub,UM,h2 e];refine⟨l,(zg rfl (.inl ⟨SqL.of uX9,fun t ht=>?_⟩))⟩;exact q _ t ((s1.new hl).new ht) uX9
theorem ZB(st:lS):∀(l:List (Str×Bool))(s:lS×Nat),(l.foldl (rpS st) s).1.length=s.1.length+l.length/\(l.foldl (rpS st) s).2=s.2+(l.filter (·.2)).length
 |[],s=>by simp
 |p::l,s=>by
  obtain⟨h1,h2⟩:=ZB st l (rpS st s p);rw[UJ,h1,h2];unfold rpS;obtain⟨x,e⟩:=p;cases e
  ·simp;lia
  ·simp;lia
theorem zaJ(xs:lS)(es:List Bool)(st:lS)(h:xs.length=es.length):(rpl xs es st).length=xs.length:=by
 unfold rpl;rw[(ZB st _ _).1,Ub,<- h];simp
theorem WW{l:List (Str×Bool)}{e:Bool}(h:l[i]?=sO (x,e)):(l.filter (·.2)).length=((l.take i).filter (·.2)).length+(if e then 1 else 0)+((l.drop (i+1)).filter (·.2)).length:=by
 obtain⟨hi,h2⟩:=ud.mp h;have e1:l=l.take i++(x,e)::l.drop (i+1):=by rw[<- h2,<- UG hi,List.take_append_drop]
 have e2:(l.filter (·.2)).length=((l.take i++(x,e)::l.drop (i+1)).filter (·.2)).length:=by rw[<- e1]
 rw[e2,UY,uf];cases e
 ·simp
 ·simp;lia
theorem zc5{H3:Hp}{q3:aO}{rest:List V}{l:lS}(hd:IsDe H d p)(hp:H p=sO (.tup (.str w0::rest)))(h:IsDp H3 (wN d l) q3):(w0="make"/\∃f q,wN d l=.app "make" f l/\H3 q3=sO (.tup [.str "make",.str f,.ref q])/\H3 q=sO (.tup (l.map V.str)))\/(w0≠"make"/\IsHd H3 (wN d l) q3):=by
 cases hd with
 |num a=>rw[a]at hp;cases hp;exact .inr ⟨by decide,h⟩
 |op a=>rw[a]at hp;cases hp;exact .inr ⟨by decide,h⟩
 |@app w1 f1 xs1 p q1 c a b =>
  rw[a]at hp;cases hp;by_cases e:w0="ask"
  ·subst e
   refine .inr ⟨by decide,?_⟩;have e2:wN (.app "ask" f1 xs1) l=.app "ask" (l.getD 0 "") (l.drop 1):=by unfold wN;exact iP rfl
   rw[e2]at h ⊢;obtain⟨q,h1,h2⟩:=h;exact⟨q,h1,h2⟩
  ·rw[ZA e]at h ⊢
   obtain⟨q,h1,h2⟩:=h;by_cases e3:w0="make"
   ·subst e3
    exact .inl ⟨rfl,f1,q,rfl,h1,h2⟩
   ·exact .inr ⟨e3,q,by rw[iN e3];exact h1,h2⟩
inductive spHeldDeed(vs:List V)(H:Hp)(Q:VK)(e_3:XK):Prop
 |mk (p:aO) (qe:aO) (ls:aO) (d:De) (es:List Bool):(∃st:lS,vs=[.ref p,.ref qe,.ref ls]/\IsDe H d p/\H qe=sO (.tup (es.map V.bl))/\H ls=sO (.lst (st.map V.str))/\d.uses.length=es.length/\st.length=((d.uses.zip es).filter (·.2)).length/\∀H' q,Same H H'->IsHd H' (wN d (rpl d.uses es st)) q->Q (.ref q) H')->spHeldDeed vs H Q e_3
theorem scHeldDeed:FnScope ["deed","ends","stand","names","at","name","end","other"] lS28 (zt w4):=.ok
theorem YA(F:Fun K "held_deed" "held_deed" w4 f fd)(GN':Ca P w K mg base CX0 1 "names_of" ["deed"] spNamesOf)(GW:Ca P w K mg base CX0 1 "with_names" ["deed","names"] spWith)(m_zip:mg "zip"=nO):FnOk P w K mg base CX0 2 f fd lS28 spHeldDeed:=by
 refine F.by scHeldDeed (fun vs H Q E h=>?_) (fun cdv A outer s H vs Q E hr h=>?_)
 ·obtain⟨p,qe,ls,d,es,st,rfl,_⟩:=h
  rfl
 obtain⟨p,qe,ls,d,es,st,rfl,hd,hqe,hls,hle,hst,q⟩:=h;refine⟨_,
  (zh (sE 3 scHeldDeed.nd (zC zL))
  (zh (sE 4 scHeldDeed.nd zo)
  (zh (ya PassesOwn.never rfl (yG K rfl m_zip (jA2 (cA GN' hr (jA1 (jv 0))) (jv 1))) (zK K rfl (zu (gN 5 scHeldDeed.nd) (zu (gN 6 scHeldDeed.nd) zJ)))
   (zh (yr (xg uN uV uW z6 (jv 3) (jA1 (wq (yv (jv 6)) (xX (zV K) (jv 2) (jv 4)) (jv 5)))))
   (zn (sE 4 scHeldDeed.nd (wq (yv (jv 6)) (zx yh (jv 4) zo) (jv 4))))))
  (zh (sE 7 scHeldDeed.nd (cA GW hr (jA2 (jv 0) (jv 3))))
  (zn (zv (wq (tN zM (zp K (jv 0)) zz) (zx wr (jv 7) (zA (jA1 zz))) (jv 7)))))))),?_⟩
 have sl:=zN;have hul:=hd.usl;refine⟨sN0,fun ln hln=>?_⟩;have s1:=zk (o:=.lst []) hln;refine(zg rfl ⟨p,d,rfl,hd.keep (.of s1),fun H1 qn s2 hqn=>(zg rfl ⟨qn,qe,fO,fO,_,_,rfl,SqK.t hqn,SqK.t (s2 _ _ (s1 _ _ hqe)),?_⟩)⟩);have hln1:=s2 _ _ (uX9 (H:=H) (a:=ln) (o:=.lst []));have s12:=s1.trans s2;refine vw (xs:=d.uses.map V.str) (ys:=es.map V.bl) (by rw[ub,ub];exact hle) (fun i σ H'=>(∃y z,σ=[sR p,sR qe,sR ls,sR ln,sO (.int (((((d.uses.zip es).take i).foldl (rpS st) ([],0)).2:Nat):Int)),y,z,nO])/\(∀b u,b≠ln->H1 b=sO u->H' b=sO u)/\H' ln=sO (.lst ((((d.uses.zip es).take i).foldl (rpS st) ([],0)).1.map V.str))) ⟨⟨nO,nO,rfl⟩,fun _ _ _ h=>h,hln1⟩ (fun i σ H' _ h=>⟨SqK.t (h.2.1 _ _ (yn hqn hln1 (by intro z;cases z)) hqn),SqK.t (h.2.1 _ _ (yn (s12 _ _ hqe) hln1 (by intro z;cases z)) (s12 _ _ hqe))⟩) ?_ ?_
 ·rintro i v1 v2 T σ H2 hv1 hv2 hT ⟨⟨y,z,rfl⟩,k2,l2⟩
  rw[uh]at hv1 hv2;obtain⟨x,hx,rfl⟩:=ug.mp hv1;obtain⟨e,he,rfl⟩:=ug.mp hv2;have hz:(d.uses.zip es)[i]?=sO (x,e):=Uc.mpr ⟨hx,he⟩;have hi:=(ud.mp hz).1;obtain⟨r1,r2⟩:=ZB st ((d.uses.zip es).take i) ([],0);have cnt:=WW hz;rw[uD,hz,List.foldl_append];generalize ((d.uses.zip es).take i).foldl (rpS st) ([],0)=S at *;obtain⟨nms,at0⟩:=S;dsimp only at r1 r2 l2 ⊢
  simp only[List.length_nil,Nat.zero_add]at r1 r2
  rw[ut]at r1;have hls2:=k2 _ _ (zi hls hln) (s12 _ _ hls);have k3:∀b u,b≠ln->H1 b=sO u->upd H2 T (.tup [.str x,.bl e]) b=sO u:=fun b u n h=>old hT (k2 b u n h);have l3:=old (o:=.tup [.str x,.bl e]) hT l2;have hls3:=old (o:=.tup [.str x,.bl e]) hT hls2;refine⟨T,(zg rfl ⟨SqT.of uX9,rfl,_,_,rfl,_,_,rfl,rfl,?_⟩)⟩;generalize upd H2 T (.tup [.str x,.bl e])=H3 at *;have fin:∀(v:Str)(m:Nat),rpS st (nms,at0) (x,e)=(nms++[v],m)->(∃y z,[sO (V.ref p),sO (V.ref qe),sO (V.ref ls),sO (V.ref ln),sO (V.int ((m:Nat):Int)),sO (V.str x),sO (V.bl e),nO]=[sO (V.ref p),sO (V.ref qe),sO (V.ref ls),sO (V.ref ln),sO (V.int (((List.foldl (rpS st) (nms,at0) (Option.toList (sO (x,e)))).2:Nat):Int)),y,z,nO])/\(∀b u,b≠ln->H1 b=sO u->upd H3 ln (.lst (nms.map V.str++[.str v])) b=sO u)/\upd H3 ln (.lst (nms.map V.str++[.str v])) ln=sO (.lst ((List.foldl (rpS st) (nms,at0) (Option.toList (sO (x,e)))).1.map V.str)):=fun v m h=>by
   have h':List.foldl (rpS st) (nms,at0) (Option.toList (sO (x,e)))=(nms++[v],m):=h;rw[h'];exact⟨⟨_,_,rfl⟩,fun b u n g=>by rw[zj n];exact k3 b u n g,by rw[uX9];simp⟩
  have la:nms.length < sizeLine:=by rw[Ub]at hi;lia
  cases e with
  |true =>
   have ha:at0 < st.length:=by rw[iP rfl]at cnt;lia
   obtain⟨v,hv⟩:∃v,st[at0]?=sO v:=⟨_,ui ha⟩;have ev:rpS st (nms,at0) (x,tV)=(nms++[v],at0+1):=by
    unfold rpS;rw[iP rfl,u6,hv]
    rfl
   have g:=fin v (at0+1) ev;rw[Int.natCast_succ]at g;refine(zg rfl ⟨.inl ⟨rfl,_,SqL.of l3⟩,(zq rfl rfl (iteT (zq rfl rfl ⟨ls,_,_,.str v,rfl,rfl,SqL.of hls3,?_,?_⟩)))⟩)
   ·exact yo (by rw[uh,hv];rfl)
   refine⟨ln,(zw rfl rfl ⟨l3,by rw[ub];exact la,?_⟩)⟩;exact(zq rfl rfl (iteT (zg rfl (zw rfl rfl (g)))))
  |false =>
   have ev:rpS st (nms,at0) (x,fO)=(nms++[x],at0):=rfl;refine(zg rfl ⟨.inl ⟨rfl,_,SqL.of l3⟩,(zq rfl rfl (iteF (zg rfl ?_)))⟩);refine⟨ln,(zw rfl rfl ⟨l3,by rw[ub];exact la,?_⟩)⟩;exact(zq rfl rfl (iteF (zg rfl (fin x at0 ev))))
 ·rintro σ H2 ⟨⟨y,z,rfl⟩,k2,l2⟩
  have et:((d.uses.zip es).take (d.uses.map V.str).length)=d.uses.zip es:=uo (by rw[Ub,ub];lia);rw[et]at l2 ⊢;have k12:Same H H2:=fun b u h=>k2 b u (zi h hln) (s12 _ _ h);have hrl:=zaJ d.uses es st hle;refine(zq rfl rfl ⟨p,ln,d,rpl d.uses es st,rfl,hd.keep (.of k12),l2,?_,by lia,fun H3 q3 s3 h3=>?_⟩)
  ·cases hd with
   |num _=>trivial
   |op _=>show(rpl _ _ _).length=2;rw[hrl];rfl
   |@app w0 f0 xs0 p q0 c _ _ =>
    intro e;subst e;intro z;rw[z,yy]at hrl;cases hrl
  obtain⟨w0,rest,hp,_,_⟩:=hd.head fun _=>[];have hp3:=s3 _ _ (k12 _ _ hp);refine(zg rfl (ixT hp3 aI0 ⟨rfl,(zg rfl ?_)⟩));rcases zc5 hd hp h3 with⟨e,f0,q0,g1,g2,g3⟩|⟨e,g⟩
  ·rw[decide_eq_true (by rw[e])]
   refine iteT (zg rfl ⟨sN1,fun t4 f4=>?_⟩);refine⟨q3,t4,[.str "make",.str f0,.ref q0],(zg rfl ⟨rfl,SqT.of (old f4 g2),SqT.of uX9,(by intro z;cases z),sN4,(fun e=>by simp at e),fun _ pd fd'=>?_⟩)⟩;refine q _ pd (((k12.trans s3).new f4).new fd') ?_;rw[g1];exact⟨q0,uX9,old fd' (old f4 g3)⟩
  ·rw[eO (fun z=>e (V.str.inj z))]
   exact iteF (zg rfl (q _ q3 (k12.trans s3) g))
end
def ent(l:lS):List (Key×V):=l.map fun x=>(.inr x,.bl tV)
theorem Wc:∀{l:lS}{x:Str},(valV (ent l) (.inr x)).isSome=decide (x∈l)
 |[],x=>rfl
 |y::l,x=>by
  show(valV ((Sum.inr y,V.bl tV)::ent l) (.inr x)).isSome=_;by_cases e:y=x
  ·rw[yk (by rw[e])]
   simp[e]
  ·have e':¬ x=y:=fun z=>e z.symm
   rw[ym (fun z=>e (Sum.inr.inj z)),Wc];simp[e']
theorem zaK(l:lS)(x:Str):putK (ent l) (.inr x) (.bl tV)=ent (if x∈l then l else l++[x]):=by
 unfold putK;rw[xb,Wc];by_cases c:x∈l
 ·rw[iP (by simpa using c),iP c]
  unfold ent;rw[UD];refine List.map_congr_left fun y hy=>?_;show(if(Sum.inr y:Key)=Sum.inr x then((Sum.inr y:Key),V.bl tV)else(Sum.inr y,V.bl tV))=_
  split<;>rfl
 ·rw[iN (by simpa using c),iN c]
  unfold ent;rw[ur]
  rfl
theorem Bd.sz_pos(b:Bd):1<=b.sz:=by
 cases b<;>rw[Bd.sz]<;>lia
theorem ZC:∀l:Wy,l.length<=wsz l
 |[]=>uK _
 |p::l=>by
  have h1:=Bd.sz_pos p.2;have h2:=ZC l;unfold wsz at h2 ⊢;rw[uF,Uy,um];lia
inductive spBound(vs:List V)(H:Hp)(Q:VK)(e_3:XK):Prop
 |mk (p:aO):(∃d:Df,vs=[.ref p]/\IsF H d p/\d.ns.length<=1000/\d.b.sz<=1000000/\∀(H':Hp)(r:aO),Same H H'->H r=nO->H' r=sO (.lst ((once [] (d.ns++d.b.binds)).map V.str))->Q (.ref r) H')->spBound vs H Q e_3
section
variable{K:uc}
theorem scBound:FnScope ["one","found","left","pair","name","way"] ["one"] (zt Xm):=.ok
theorem JQ(F:Fun K "bound" "bound" Xm f fd)(GW:Ca P w K mg base CX0 1 "ways_on" ["body"] spWays)(m_len:mg "len"=nO)(m_reversed:mg "reversed"=nO)(m_list:mg "list"=nO):FnOk P w K mg base CX0 2 f fd ["one"] spBound:=by
 refine F.by scBound (fun vs H Q E h=>?_) (fun cdv A outer s H vs Q E hr h=>?_)
 ·obtain⟨p,d,rfl,_⟩:=h
  rfl
 obtain⟨p,df,rfl,hF,hn1,hn2,q⟩:=h;obtain⟨pq,pb,hp,hpq,hpb⟩:=hF.ex;refine⟨_,
  (zh (sE 1 scBound.nd xJ)
  (zh (sE 2 scBound.nd (zC (jA1 (zA (jA2 (zp K (jv 0)) (xX (wx K) (jv 0) (y0 zo)))))))
  (zh (Z6 PassesOwn.never (tN jH (yj (zD K) rfl m_len Ud (jA1 (jv 2))) zo)
   (zh (sE 3 scBound.nd (Xd uN PySem.F.slot_list_pop PySem.F.type_list_pop VG (jv 2)))
   (zh (ya PassesOwn.never rfl (yF K (zp K (jv 3))) (gN 4 scBound.nd)
    (zn (xw hr (jv 1) (jv 4) vL)))
   (zn (ya PassesOwn.never rfl (Xi rfl m_reversed (jA1 (cA GW hr (jA1 (zp K (jv 3)))))) (gN 5 scBound.nd)
    (zn (yr (xg uN uV uW z6 (jv 2) (jA1 (jv 5))))))))))
  (zn (zv (zS (Zy rfl) rfl m_list UU (jA1 (jv 1)))))))),?_⟩
 have sl:=zN;intro d0 hd0;have s1:=zk (o:=.dK []) hd0;refine(zg rfl ⟨p,_,_,_,rfl,rfl,SqT.of (s1 _ _ hp),aI1,(zq rfl rfl ⟨p,_,_,_,rfl,rfl,SqT.of (s1 _ _ hp),rfl,sN2,fun t1 h1=>⟨sN1,fun lf h2=>?_⟩⟩)⟩);have s2:=s1.new (o:=.tup [.ref pq,.ref pb]) h1;have flf:H lf=nO:=s2.free h2;have s3:=s2.new (o:=.lst [.ref t1]) h2;have nld:lf≠d0:=(zi (old h1 (uX9 (H:=H) (a:=d0) (o:=.dK []))) h2).symm;have bl:=Bd.binds_len df.b;refine⟨fun m σ H'=>∃(stk:Wy)(ps:List aO)(acc:lS)(x y z:Option V),m=wsz stk/\σ=[sR p,sR d0,sR lf,x,y,z]/\Same H H'/\H' lf=sO (.lst (ps.reverse.map V.ref))/\IsY H' stk ps/\H' d0=sO (.dK (ent acc))/\once acc (pend stk)=once [] (df.ns++df.b.binds)/\acc.length+(pend stk).length<=1001000/\wsz stk<=1000000,
  ⟨_,[(df.ns,df.b)],[t1],[],nO,nO,nO,rfl,rfl,s3,uX9,.cons (old h2 uX9) (s3 _ _ hpq) (hpb.keep (.of s3)) .nil,old h2 (old h1 uX9),by unfold pend;simp,by unfold pend;simp;lia,by unfold wsz;simpa using hn2⟩,?_⟩
 rintro m σ H3 ⟨stk,ps,acc,x,y,z,rfl,rfl,sm,hl,hy,hd,ho,hal,hwz⟩;refine(zg rfl ⟨_,_,rfl,.inl (SqL.of hl),(zw rfl rfl (zg rfl ?_))⟩);cases hy with
 |nil =>
  refine iteF ?_;unfold pend at ho;refine(zg rfl ⟨d0,(zg rfl ⟨hd,fun r hr=>?_⟩)⟩);have e:(ent acc).map (fun kv=>kV kv.1)=acc.map V.str:=by unfold ent;rw[UD];rfl
  rw[e];refine q _ r (sm.new hr) (sm.free hr) ?_;rw[uX9,<- ho]
  rfl
 |@cons ns b pp q1 r1 l ps hpp hq1 hb hy =>
  have hne:decide ((0:Int) < ((((pp::ps).reverse.map V.ref).length:Nat):Int))=tV:=by
   rw[dA,ub,UA,um];lia
  rw[hne];refine iteT ⟨_,fun _ _ h=>h,?_⟩;have e1:(pp::ps).reverse.map V.ref=ps.reverse.map V.ref++[.ref pp]:=by simp
  have e2:((pp::ps).reverse.map V.ref)[((pp::ps).reverse.map V.ref).length-1]?=sO (.ref pp):=by rw[e1];simp
  have e3:((pp::ps).reverse.map V.ref).dropLast=ps.reverse.map V.ref:=by rw[e1];simp
  refine(zg rfl ⟨.inl ⟨rfl,_,SqL.of hl⟩,lf,(zw rfl rfl ⟨hl,e2,?_⟩)⟩);rw[e3];have t4:Tups H3 (upd H3 lf (.lst (ps.reverse.map V.ref))):=fun b xs z=>by rw[zj (yn z hl (by intro z;cases z))];exact z
  have s4:=sm.put (o:=.lst (ps.reverse.map V.ref)) flf;have hl4:=uX9 (H:=H3) (a:=lf) (o:=.lst (ps.reverse.map V.ref));have hd4:upd H3 lf (.lst (ps.reverse.map V.ref)) d0=sO (.dK (ent acc)):=by rw[zj nld.symm];exact hd
  replace hpp:=t4 _ _ hpp
  replace hq1:=t4 _ _ hq1
  replace hb:=hb.keep t4
  replace hy:=hy.keep t4
  generalize upd H3 lf (.lst (ps.reverse.map V.ref))=H4 at *;have hpd:pend ((ns,b)::l)=ns++(b.binds++pend l):=by unfold pend;rw[List.flatMap_cons,UC]
  rw[hpd]at ho hal;rw[uf,uf]at hal;have hwc:wsz ((ns,b)::l)=b.sz+wsz l:=by unfold wsz;rw[uF,Uy]
  rw[hwc]at hwz;have hll:=ZC l;have hyl:=hy.len;refine(zg rfl ⟨pp,_,_,_,rfl,rfl,SqT.of hpp,aI0,q1,rfl,⟨_,SqT.of hq1⟩,xq (xs:=ns.map V.str) (fun i σ H'=>Same H H'/\Tups H4 H'/\H' lf=sO (.lst (ps.reverse.map V.ref))/\H' d0=sO (.dK (ent (once acc (ns.take i))))/\∃y z,σ=[sR p,sR d0,sR lf,sR pp,y,z]) ⟨s4,fun _ _ h=>h,hl4,hd4,_,_,rfl⟩ (fun i σ H' _ h=>SqT.of (h.2.1 _ _ hq1)) ?_ ?_⟩)
  ·rintro i v σ H5 hv ⟨s5,t5,hl5,hd5,y,z,rfl⟩
   obtain⟨x,hx,rfl⟩:=L2.gM hv;have hi:i < ns.length:=(ud.mp hx).1;have ol:=ja (ns.take i) acc;rw[ut]at ol;refine(zq rfl rfl ⟨d0,(zg rfl ⟨DPut.k (k:=.inr x) hd5 (by unfold ent;rw[ub];lia),s5.put hd0,fun b xs z=>?_,?_,?_,_,_,rfl⟩)⟩)
   ·rw[zj (yn (t5 _ _ z) hd5 (by intro e;cases e))]
    exact t5 _ _ z
   ·rw[zj nld]
    exact hl5
   ·rw[uX9,zaK,<- WM hx]
  rintro σ H5 ⟨s5,t5,hl5,hd5,y,z,rfl⟩;rw[ub,uo (uj _)]at hd5;refine(zg rfl ⟨pp,_,_,_,rfl,rfl,SqT.of (t5 _ _ hpp),aI1,r1,b,rfl,hb.keep t5,by lia,fun H6 rl rs s6 f6 hrl hyw=>?_⟩);have hywl:=hyw.len;have hww:=Bd.wsz b;have hwl:=ZC b.ways;have nlr:lf≠rl:=zi hl5 f6;have ndr:d0≠rl:=zi hd5 f6;refine⟨rl,(zg rfl ⟨SqL.of hrl,Zh (xs:=rs.map V.ref) (fun i σ H'=>Same H H'/\Tups H6 H'/\H' rl=sO (.lst (rs.map V.ref))/\H' lf=sO (.lst ((ps.reverse++rs.reverse.take i).map V.ref))/\H' d0=sO (.dK (ent (once acc ns)))/\∃z,σ=[sR p,sR d0,sR lf,sR pp,y,z]) ⟨s5.trans s6,fun _ _ h=>h,hrl,by rw[List.take_zero,uU];exact s6 _ _ hl5,s6 _ _ hd5,_,rfl⟩ (fun i σ H' _ h=>SqL.of h.2.2.1) ?_ ?_⟩)⟩
  ·rintro i v σ H7 hv ⟨s7,t7,hr7,hl7,hd7,z,rfl⟩
   rw[<- List.map_reverse,uh]at hv;obtain⟨t,ht,rfl⟩:=ug.mp hv;have hi:i < rs.length:=by
    have:=(ud.mp ht).1
    rw[UA]at this;exact this
   refine(zg rfl ⟨.inl ⟨rfl,_,SqL.of hl7⟩,(zg rfl ⟨lf,(zw rfl rfl ⟨hl7,?_,s7.put flf,fun b xs z=>?_,?_,?_,?_,_,rfl⟩)⟩)⟩)
   ·rw[ub,uf,UA,ut]
    lia
   ·rw[zj (yn (t7 _ _ z) hl7 (by intro e;cases e))]
    exact t7 _ _ z
   ·rw[zj nlr.symm]
    exact hr7
   ·rw[uX9,uD,ht]
    simp
   ·rw[zj nld.symm]
    exact hd7
  rintro σ H7 ⟨s7,t7,hr7,hl7,hd7,z,rfl⟩;rw[ub,<- UA,uo (uj _),<- U3]at hl7;have t47:Tups H4 H7:=(t5.trans (.of s6)).trans t7;refine⟨wsz (b.ways++l),?_,b.ways++l,rs++ps,once acc ns,_,_,_,rfl,rfl,s7,hl7,(hyw.keep t7).app (hy.keep t47),hd7,?_,?_,?_⟩
  ·rw[vB,hwc]
   lia
  ·rw[Ys,Bd.pend,<- vZ]
   exact ho
  ·have ol:=ja ns acc
   rw[Ys,Bd.pend,uf];lia
  ·rw[vB]
   lia
end
def Arms.al:Arms->List (Str×lS×Bd)
 |.nil=>[]
 |.cons t ns b r=>(t,ns,b)::r.al
def haL:List (Str×lS×Bool×Hc)->Ha
 |[]=>.nil
 |x::l=>.cons x.1 x.2.1 x.2.2.1 x.2.2.2 (haL l)
def ArmR(H:Hp)(x:Str×lS×Bool×Hc)(v:V):Prop:=∃p q u,v=.ref p/\H p=sO (.tup [.str x.1,.ref q,.str (yE x.2.2.1),.str "",u])/\H q=sO (.tup (x.2.1.map V.str))/\IsHc H x.2.2.2 u
theorem ArmR.keep{x:Str×lS×Bool×Hc}{v:V}(h:ArmR H x v)(t:Tups H H'):ArmR H' x v:=by obtain⟨p,q,u,e,a,b,c⟩:=h;exact⟨p,q,u,e,t _ _ a,t _ _ b,c.keep t⟩
theorem IsHa.of{l:List (Str×lS×Bool×Hc)}{vs:List V}(h:All2 (ArmR H) l vs):IsHa H (haL l) vs:=by
 induction h with
 |nil=>rfl
 |cons a _ ih=>obtain⟨p,q,u,rfl,h1,h2,h3⟩:=a;exact⟨p,q,u,(zg rfl ⟨h1,h2,h3,ih⟩)⟩
theorem IsA.al{H:Hp}:∀{as:Arms}{ps:List aO},IsA H as ps->All2 (fun(x:Str×lS×Bd) p=>∃q r,H p=sO (.tup [.str x.1,.ref q,.ref r])/\H q=sO (.tup (x.2.1.map V.str))/\IsB H x.2.2 r) as.al ps
 |_,_,.nil=>.nil
 |_,_,.cons a b c d=>.cons ⟨_,_,a,b,c⟩ (IsA.al d)
def armZ(as:Arms)(ms:List Bool)(cs:List Hc):List (Str×lS×Bool×Hc):=(as.al.zip (ms.zip cs)).map fun x=>(x.1.1,x.1.2.1,x.2.1,x.2.2)
theorem zbu(ns:lS)(ow:Str->List Bool)(x:Str)(r:lS):∀(as:Arms)(m:Nat),(hA ns ow x r as m).1=haL (armZ as (as.al.map fun a=>tkB ns x r a.2.2) ((kA ns ow x r as m).map (Pk.code ns ow)))
 |.nil,m=>by unfold hA kA Arms.al;rfl
 |.cons t xs b as,m=>by
  rw[hA,zbu ns ow x r as,kA,Arms.al]
  rfl
theorem XD(ns:lS)(ow:Str->List Bool)(x:Str)(r:lS):∀(as:Arms)(m:Nat),(kA ns ow x r as m).length=as.al.length
 |.nil,m=>rfl
 |.cons t xs b as,m=>by rw[kA,Arms.al,um,um,XD ns ow x r as]
inductive spHeldArms(vs:List V)(H:Hp)(Q:VK)(e_3:XK):Prop
 |mk (pa:aO) (lm:aO) (lb:aO) (as:Arms) (ps:List aO) (ms:List Bool) (cs:List Hc):(∃us:List V,vs=[.ref pa,.ref lm,.ref lb]/\H pa=sO (.tup (ps.map V.ref))/\IsA H as ps/\H lm=sO (.lst (ms.map fun m=>V.str (yE m)))/\H lb=sO (.lst us)/\All2 (IsHc H) cs us/\as.al.length=ms.length/\as.al.length=cs.length/\as.al.length<=1000000/\∀H' q zs,Same H H'->H' q=sO (.tup zs)->IsHa H' (haL (armZ as ms cs)) zs->Q (.ref q) H')->spHeldArms vs H Q e_3
structure Ln(K:uc)(cL:aO):Prop where
 cl:Cls K cL
 a1:NoAttr K cL "body"
 a2:NoAttr K cL "note"
 a3:NoAttr K cL "names"
def LO(cL dx:aO)(vb vn vl:V):HO:=.ins cL dx [("body",vb),("note",vn),("names",vl)]
inductive spPlInit(cL:aO)(vs:List V)(H:Hp)(Q:VK)(e_3:XK):Prop
 |mk (x:aO) (dx:aO) (vb:V) (vn:V):(∃vl:V,vs=[.ref x,vb,vn,vl]/\H x=sO (.ins cL dx [])/\∀H',(∀b u,b≠x->H b=sO u->H' b=sO u)->H' x=sO (LO cL dx vb vn vl)->Q .non H')->spPlInit cL vs H Q e_3
inductive spPuInit(cP:aO)(vs:List V)(H:Hp)(Q:VK)(e_3:XK):Prop
 |mk (x:aO) (dx:aO) (p:aO) (od:aO):(∃d:Df,vs=[.ref x,.ref p,.ref od]/\H x=sO (.ins cP dx [])/\IsF H d p/\d.ns.length<=1000/\d.b.sz<=1000000/\(once [] (d.ns++d.b.binds)).length<=1000/\(once [] (d.ns++d.b.binds)).Nodup/\∀H' bd,(∀b u,b≠x->H b=sO u->H' b=sO u)->H bd=nO->H' bd=sO (.dK (yA (once [] (d.ns++d.b.binds)) 1))->H' x=sO (PO cP dx od bd 0)->Q .non H')->spPuInit cP vs H Q e_3
section
variable{K:uc}
theorem JR:FnScope lS6 lS6 (zt Zq):=.ok
theorem WX(F:Fun K "__init__" "Place.__init__" Zq f fd)(N:Ln K cL):FnOk P w K mg base CX0 1 f fd lS6 (spPlInit cL):=by
 refine F.by JR (fun vs H Q E h=>?_) (fun cdv A outer s H vs Q E hr h=>?_)
 ·obtain⟨x,dx,vb,vn,vl,rfl,_⟩:=h
  rfl
 obtain⟨x,dx,vb,vn,vl,rfl,hx,q⟩:=h;refine⟨_,(zh (xj (jv 0) (jv 1)) (zh (xj (jv 0) (jv 2)) (zn (xj (jv 0) (jv 3))))),?_⟩;refine(zq rfl rfl ⟨x,cL,dx,(zg rfl ⟨hx,N.cl,N.a1,by show 0 < 1000;decide,?_⟩)⟩);refine(zq rfl rfl ⟨x,cL,dx,(zg rfl ⟨uX9,N.cl,N.a2,by show 1 < 1000;decide,?_⟩)⟩);refine(zq rfl rfl ⟨x,cL,dx,(zg rfl ⟨uX9,N.cl,N.a3,by show 2 < 1000;decide,?_⟩)⟩);refine q _ (fun b u n e=>?_) uX9;rw[zj n,zj n,zj n];exact e
theorem JS:FnScope lS26 lS26 (zt Zr):=.ok
theorem WY(F:Fun K "__init__" "Putter.__init__" Zr f fd)(N:Pn K cP)(GB:Ca P w K mg base CX0 1 "bits_of" ["names"] spBits)(GD:Ca P w K mg base CX0 2 "bound" ["one"] spBound):FnOk P w K mg base CX0 3 f fd lS26 (spPuInit cP):=by
 refine F.by JS (fun vs H Q E h=>?_) (fun cdv A outer s H vs Q E hr h=>?_)
 ·obtain⟨x,dx,p,od,d,rfl,_⟩:=h
  rfl
 obtain⟨x,dx,p,od,d,rfl,hx,hF,h1,h2,h3,h4,q⟩:=h;have hr1:Room 1 _:=hr.mono (by decide);refine⟨_,(zh (xj (jv 0) (jv 2)) (zh (xj (jv 0) (cA GB hr1 (jA1 (cA GD hr (jA1 (jv 1)))))) (zn (xj (jv 0) zo)))),?_⟩;refine(zq rfl rfl ⟨x,cP,dx,(zg rfl ⟨hx,N.cl,N.a1,by show 0 < 1000;decide,?_⟩)⟩);have tx:Tups H (upd H x (.ins cP dx (putF "owns" (.ref od) []))):=fun b xs e=>by rw[zj (yn e hx (by intro z;cases z))];exact e
 refine(zg rfl ⟨p,d,rfl,hF.keep tx,h1,h2,fun H1 r s1 hr1 hr2=>⟨r,(zg rfl ⟨hr2,h4,h3,fun H2 bd s2 hbd hbd2=>?_⟩)⟩⟩);have hx2:=s2 _ _ (s1 _ _ (uX9 (H:=H) (a:=x) (o:=.ins cP dx (putF "owns" (.ref od) []))));have nbx:bd≠x:=fun z=>by rw[z,s1 _ _ uX9]at hbd;cases hbd
 refine(zg rfl ⟨x,cP,dx,(zg rfl ⟨hx2,N.cl,N.a2,by show 1 < 1000;decide,?_⟩)⟩);refine(zg rfl ⟨x,cP,dx,(zg rfl ⟨uX9,N.cl,N.a3,by show 2 < 1000;decide,?_⟩)⟩);refine q _ bd (fun b u n e=>?_) ?_ (by rw[zj nbx,zj nbx];exact hbd2) uX9
 ·rw[zj n,zj n]
  exact s2 _ _ (s1 _ _ (by rw[zj n];exact e))
 ·have:=s1.free hbd
  rw[zj nbx]at this;exact this
theorem XE:FnScope lS24 lS24 (zt w5):=.ok
theorem wg:(["arms","modes","bodies","arm","mode","body"]:lS).Nodup:=by decide +kernel
theorem YB(F:Fun K "held_arms" "held_arms" w5 f fd)(m_tuple:mg "tuple"=nO)(m_zip:mg "zip"=nO):FnOk P w K mg base CX0 1 f fd lS24 spHeldArms:=by
 refine F.by XE (fun vs H Q E h=>?_) (fun cdv A outer s H vs Q E hr h=>?_)
 ·obtain⟨pa,lm,lb,as,ps,ms,cs,us,rfl,_⟩:=h
  rfl
 obtain⟨pa,lm,lb,as,ps,ms,cs,us,rfl,hpa,hA,hlm,hlb,hcs,e1,e2,e3,q⟩:=h;refine⟨_,(zn (zv (zS (zF K) rfl m_tuple uO (jA1 (yg ["arm","mode","body"] rfl (zaG rfl m_zip (jA3 (jv 0) (jv 1) (jv 2))) (fun _ _ _ _ _=>(zK K (n:=3) rfl (zu (gN 3 wg) (zu (gN 4 wg) (zu (gN 5 wg) zJ))))) (fun _ _ _ _ _=>zW) (fun _ _ _ _ _=>(zA (jA5 (zp K (jv 3)) (zp K (jv 3)) (jv 4) zz (jv 5))))))))),?_⟩;have sl:=zN;have hal:=hA.al;have pl:=hal.len;have cl:=hcs.len;refine(zq rfl rfl (zg rfl ⟨pa,lm,lb,fO,tV,tV,_,_,_,rfl,SqK.t hpa,SqK.l hlm,SqK.l hlb,zaH (xs:=ps.map V.ref) (ys:=ms.map fun m=>V.str (yE m)) (us:=us) (by rw[ub,ub];lia) (by rw[ub];lia) (fun j τ zs H'=>Same H H'/\(∃a b c,τ=[sR pa,sR lm,sR lb,a,b,c])/\All2 (ArmR H') ((armZ as ms cs).take j) zs) ⟨Same.refl _,⟨nO,nO,nO,rfl⟩,.nil⟩ (fun j τ zs H' _ h=>⟨SqK.t (h.1 _ _ hpa),SqK.l (h.1 _ _ hlm),SqK.l (h.1 _ _ hlb)⟩) ?_ ?_⟩))
 ·rintro i v1 v2 v3 T τ zs H1 g1 g2 g3 hT ⟨s1,⟨a,b,c,rfl⟩,hz⟩
  rw[uh]at g1 g2;obtain⟨p0,hp0,rfl⟩:=ug.mp g1;obtain⟨m0,hm0,rfl⟩:=ug.mp g2;obtain⟨x,hx,q0,r0,x1,x2,x3⟩:=hal.get hp0;obtain⟨c0,hc0,hcv⟩:=hcs.get g3;have hget:(armZ as ms cs)[i]?=sO (x.1,x.2.1,m0,c0):=by
   unfold armZ;rw[uh,(Uc (z:=(x,(m0,c0)))).mpr ⟨hx,Uc.mpr ⟨hm0,hc0⟩⟩]
   rfl
  have hi:=(ud.mp hx).1;have zl:=hz.len;rw[ut]at zl;have s2:=s1.new (o:=.tup [.ref p0,.str (yE m0),v3]) hT;refine⟨T,(zg rfl ⟨SqT.of uX9,rfl,_,_,rfl,_,_,rfl,_,_,rfl,rfl,?_⟩)⟩;have hz2:=hz.imp fun _ _ h=>ArmR.keep h (.of (zk hT (.tup [.ref p0,.str (yE m0),v3])));generalize upd H1 T (.tup [.ref p0,.str (yE m0),v3])=H2 at *;refine(zg rfl (ixT (s2 _ _ x1) aI0 (zg rfl (ixT (s2 _ _ x1) aI1 (zq rfl rfl ⟨sN5,fun t ht=>⟨by lia,s2.new ht,⟨_,_,_,rfl⟩,?_⟩⟩)))));rw[uD,hget];exact All2.app (hz2.imp fun _ _ h=>ArmR.keep h (.of (zk ht _))) (.cons ⟨t,q0,v3,rfl,uX9,old ht (s2 _ _ x2),hcv.keep (.of (s2.new ht))⟩ .nil)
 ·rintro τ zs H1 ⟨s1,_,hz⟩ l hl
  have el:(armZ as ms cs).take (ps.map V.ref).length=armZ as ms cs:=uo (by unfold armZ;rw[ub,ub,Ub,Ub];lia);rw[el]at hz;refine⟨l,(zg rfl (.inl ⟨SqL.of uX9,fun t ht=>?_⟩))⟩;exact q _ t zs ((s1.new hl).new ht) uX9 (IsHa.of (hz.imp fun _ _ h=>ArmR.keep h (.of ((zk hl _).new ht))))
end
theorem xU{K:uc}{k:Nat}{body:Expr}{cl:List (Str×aO)}{fs:lS}{v:V}{Q:VK}{fvs:List V}
  (S:LamScope N [x] fs scope) (bd:Binds K (lamC mg qual params body scope cl c ct) [x] []) (hf:H f=sO (FunO f (lamC mg qual params body scope cl c ct))) (hc:H c=sO (CodO c qual)) (C:Clo H cl fs fvs)
  (hb:∀(A:Around)(outer:List Env)(s:Shared),Room k (A.deeper (tI qual scope s.heap.objs.size f (.ref c) cl))->∃t,jE (XZ CX0 P w K mg base N qual scope f (.ref c) cl A outer s H E0) body t/\t (sO v::fvs.map sO) (zZ H (cl.map (·.2))) fun r H'=>(∀a∈cl.map (·.2),H' a=nO)->Q r (xm H' H (cl.map (·.2)))) :
  CanC P w K mg base (k+1) H f [v] Q E0:=by
 refine⟨lamC mg qual params body scope cl c ct,[x],fun vs H1 Q1 E1=>vs=[v]/\H1=H/\Q1=Q/\E1=E0,Zi (k:=k) S (fun vs H1 Q1 E1 h=>?_) (fun A outer s H1 vs Q1 E1 hr h=>?_),bd,⟨rfl,rfl,rfl,rfl⟩,.inl hf⟩
 ·rw[h.1];rfl
 ·obtain⟨rfl,rfl,rfl,rfl⟩:=h
  exact⟨hf,hc,fvs,C,hb A outer s hr⟩
def JT:Expr->Expr
 |.Tuple [_,l] _ _=>l
 |.Call _ [_,l] _ _=>l
 |e=>e
def lmP:Expr->Arguments
 |.Lambda a _ _ _=>a
 |_=>yf yQ
def lmB:Expr->Expr
 |.Lambda _ b _ _=>b
 |e=>e
def lmS:Expr->Scope
 |.Lambda _ _ s _=>s
 |_=>zt yQ
def xz:Expr->Pos
 |.Lambda _ _ _ p=>p
 |_=>⟨0,0,0,0⟩
def wO:List Stmt->Expr
 |[.Return (sO e) _]=>JT e
 |_::r=>wO r
 |[]=>.Constant .none 0 ⟨0,0,0,0⟩
def jQ:Expr:=wO (zO xQ)
def jU:Expr:=match zO xo with
 |[_,_,_,.If _ [_,.Return (sO e) _] _ _,_,_]=>JT e
 |_=>.Constant .none 0 ⟨0,0,0,0⟩
def jV:Expr:=wO (zO xo)
def jX:Expr:=wO (zO vx)
def jY:Expr:=wO (zO wF)
def zbv:Str:=("begun_place":Str)++(".<locals>.":Str)++("<lambda>":Str)
def Wd:Str:=("begun_piece":Str)++(".<locals>.":Str)++("<lambda>":Str)
def zbw:Str:=("begun_let":Str)++(".<locals>.":Str)++("<lambda>":Str)
def zbx:Str:=("begun_case":Str)++(".<locals>.":Str)++("<lambda>":Str)
def ls4:List (Pos×Str):=[(xz jQ,zbv)]
def ls5:List (Pos×Str):=[(xz jU,Wd),(xz jV,Wd)]
def ls6:List (Pos×Str):=[(xz jX,zbw)]
def ls7:List (Pos×Str):=[(xz jY,zbx)]
structure HX where
 cP:aO
 cL:aO
 pu:aO
 dx:aO
 od:aO
 bd:aO
 T4:aO
 T5:aO
 T6:aO
 T7:aO
 ns:lS
 ow:Str->List Bool
 N:lS
def HX.M(X:HX)(b:aO):Prop:=b=X.pu\/b=X.T4\/b=X.T5\/b=X.T6\/b=X.T7
structure XOk(X:HX):Prop where
 nd:[X.T4,X.T5,X.T6,X.T7].Nodup
 sh:∀x∈X.ns,x.length<=1000
structure POk(X:HX)(m:Nat)(H:Hp):Prop where
 o:H X.pu=sO (PO X.cP X.dx X.od X.bd m)
 b:H X.bd=sO (.dK (yA X.ns 1))
 w:OwA H X.od X.ow X.N
 t4:TbG X.T4 ls4 H
 t5:TbG X.T5 ls5 H
 t6:TbG X.T6 ls6 H
 t7:TbG X.T7 ls7 H
end GN
namespace L2
open PySem
theorem TbG.same{ls:List (Pos×Str)}(h:TbG T ls H)(s:Same H H'):TbG T ls H':=h.keep (fun ps e=>s _ _ e) fun c q e=>s _ _ e
theorem TbG.no{ls:List (Pos×Str)}(h:TbG T ls H){u:HO}(e:H b=sO u)(n:∀ps,u≠.tbl ps):b≠T:=fun z=>by
 obtain⟨ps,h,_⟩:=h;rw[z,h]at e;exact n _ (uX.inj e).symm
end L2
namespace GN
open PySem L2 K11
variable{X:HX}{Q:VK}{d:Df}{es:List Bool}{o:Wo}
theorem OwA.keep{od:aO}(h:OwA H od ow N)(k:∀b u,H b=sO u->(∀ps,u≠.tbl ps)->(∀C dx fs,u≠.ins C dx fs)->(∀xs,u≠.lst xs)->H' b=sO u):OwA H' od ow N:=by
 obtain⟨kv,h1,h2⟩:=h;refine⟨kv,k _ _ h1 (by intro _ z;cases z) (by intro _ _ _ z;cases z) (by intro _ z;cases z),fun f hf=>?_⟩;obtain⟨a,g1,g2⟩:=h2 f hf;exact⟨a,g1,k _ _ g2 (by intro _ z;cases z) (by intro _ _ _ z;cases z) (by intro _ z;cases z)⟩
section
variable{m':Nat}
theorem POk.no(h:POk X m H){u:HO}(e:H b=sO u)(n:∀ps,u≠.tbl ps)(n2:∀k,u≠PO X.cP X.dx X.od X.bd k):¬ X.M b:=by
 rintro(z|z|z|z|z)
 ·rw[z,h.o]at e;exact n2 _ (uX.inj e).symm
 ·exact h.t4.no e n z
 ·exact h.t5.no e n z
 ·exact h.t6.no e n z
 ·exact h.t7.no e n z
theorem POk.noL(h:POk X m H)(e:H b=sO (.lst xs)):¬ X.M b:=h.no e (by intro _ z;cases z) (by intro _ z;unfold PO at z;cases z)
theorem POk.noT(h:POk X m H)(e:H b=sO (.tup xs)):¬ X.M b:=h.no e (by intro _ z;cases z) (by intro _ z;unfold PO at z;cases z)
theorem POk.noI(h:POk X m H){vb vn vl:V}(e:H b=sO (LO X.cL dx vb vn vl)):¬ X.M b:=h.no e (by intro _ z;unfold LO at z;cases z) (by intro _ z;unfold LO PO at z;injection z with _ _ z;injection z with z _;injection z with z _;exact absurd z (by decide))
theorem POk.noF(h:POk X m H)(e:H b=sO (FunO b fd)):¬ X.M b:=h.no e (by intro _ z;unfold FunO at z;cases z) (by intro _ z;unfold FunO PO at z;cases z)
theorem POk.noC(h:POk X m H){q:Str}(e:H b=sO (CodO b q)):¬ X.M b:=h.no e (by intro _ z;unfold CodO at z;cases z) (by intro _ z;unfold CodO PO at z;cases z)
theorem POk.put(h:POk X m H)(k:KM X.M H H')(o:H' X.pu=sO (PO X.cP X.dx X.od X.bd m'))(t4:TbG X.T4 ls4 H')(t5:TbG X.T5 ls5 H')(t6:TbG X.T6 ls6 H')(t7:TbG X.T7 ls7 H'):POk X m' H':=by
 refine⟨o,k _ _ (h.no h.b (by intro _ z;cases z) (by intro _ z;unfold PO at z;cases z)) h.b,h.w.keep fun b u e n1 n2 _=>k _ _ (h.no e n1 fun k=>?_) e,t4,t5,t6,t7⟩;unfold PO;exact n2 _ _ _
theorem POk.same(h:POk X m H)(s:Same H H'):POk X m H':=h.put (.of s) (s _ _ h.o) (h.t4.same s) (h.t5.same s) (h.t6.same s) (h.t7.same s)
theorem POk.tups(h:POk X m H)(k:KM X.M H H'):Tups H H':=fun b xs e=>k _ _ (h.noT e) e
theorem POk.cnt(h:POk X m H)(k:KM (·=X.pu) H H')(o:H' X.pu=sO (PO X.cP X.dx X.od X.bd m')):POk X m' H':=by
 have nT:∀{T ls},TbG T ls H->TbG T ls H':=fun{T ls} t=>t.keep (fun ps e=>k _ _ (fun z=>by rw[z,h.o]at e;unfold PO at e;cases e) e) (fun c q e=>k _ _ (fun z=>by rw[z,h.o]at e;unfold PO CodO at e;cases e) e);exact h.put (fun b u n e=>k b u (fun z=>n (.inl z)) e) o (nT h.t4) (nT h.t5) (nT h.t6) (nT h.t7)
theorem yx{T':aO}{ls ls':List (Pos×Str)}(h:TbG T ls H)(k:KM (·=T') H H')(n:T≠T')(h':TbG T' ls' H):TbG T ls H':=h.keep (fun ps e=>k _ _ n e) fun c q e=>k _ _ (h'.no e (by intro _ z;unfold CodO at z;cases z)) e
theorem POk.tb4(x:XOk X)(h:POk X m H)(k:KM (·=X.T4) H H')(t:TbG X.T4 ls4 H'):POk X m H':=by
 have nd:=x.nd;simp at nd
 exact h.put (fun b u n e=>k b u (fun z=>n (.inr (.inl z))) e) (k _ _ (h.t4.no h.o (by intro _ z;unfold PO at z;cases z)) h.o) t (yx h.t5 k (fun z=>nd.1.1 z.symm) h.t4) (yx h.t6 k (fun z=>nd.1.2.1 z.symm) h.t4) (yx h.t7 k (fun z=>nd.1.2.2 z.symm) h.t4)
theorem POk.tb5(x:XOk X)(h:POk X m H)(k:KM (·=X.T5) H H')(t:TbG X.T5 ls5 H'):POk X m H':=by
 have nd:=x.nd;simp at nd
 exact h.put (fun b u n e=>k b u (fun z=>n (.inr (.inr (.inl z)))) e) (k _ _ (h.t5.no h.o (by intro _ z;unfold PO at z;cases z)) h.o) (yx h.t4 k nd.1.1 h.t5) t (yx h.t6 k (fun z=>nd.2.1.1 z.symm) h.t5) (yx h.t7 k (fun z=>nd.2.1.2 z.symm) h.t5)
theorem POk.tb6(x:XOk X)(h:POk X m H)(k:KM (·=X.T6) H H')(t:TbG X.T6 ls6 H'):POk X m H':=by
 have nd:=x.nd;simp at nd
 exact h.put (fun b u n e=>k b u (fun z=>n (.inr (.inr (.inr (.inl z))))) e) (k _ _ (h.t6.no h.o (by intro _ z;unfold PO at z;cases z)) h.o) (yx h.t4 k nd.1.2.1 h.t6) (yx h.t5 k nd.2.1.1 h.t6) t (yx h.t7 k (fun z=>nd.2.2 z.symm) h.t6)
theorem POk.tb7(x:XOk X)(h:POk X m H)(k:KM (·=X.T7) H H')(t:TbG X.T7 ls7 H'):POk X m H':=by
 have nd:=x.nd;simp at nd
 exact h.put (fun b u n e=>k b u (fun z=>n (.inr (.inr (.inr (.inr z))))) e) (k _ _ (h.t7.no h.o (by intro _ z;unfold PO at z;cases z)) h.o) (yx h.t4 k nd.1.2.2 h.t7) (yx h.t5 k nd.2.1.2 h.t7) (yx h.t6 k nd.2.2 h.t7) t
end
mutual
def OkB(X:HX):Bd->Prop
 |.give x=>x∈X.ns
 |.lt x d b=>(x∈X.ns/\(∀y∈d.uses,y∈X.ns)/\CaD X.N X.ow d)/\OkB X b
 |.iff _ a b=>OkB X a/\OkB X b
 |.case _ as=>OkA X as
def OkA(X:HX):Arms->Prop
 |.nil=>True
 |.cons _ xs b r=>((∀y∈xs,y∈X.ns)/\OkB X b)/\OkA X r
end
structure Side(X:HX)(b:Bd)(l:lS)(m:Nat):Prop where
 ln:∀x∈l,x∈X.ns
 ok:OkB X b
 mz:m+41*b.sz<=LIMT
 sz:b.sz<=400000
 nb:l.length+b.binds.length<=2000000
def ITp(X:HX)(H:Hp)(R:aO->Prop)(b:Bd)(l:lS)(v:V):Prop:=∃pl dxl p ln vn,v=.ref pl/\H pl=sO (LO X.cL dxl (.ref p) vn (.ref ln))/\IsB H b p/\IsN X.ns H R b vn/\H ln=sO (.lst (l.map V.str))/\R ln
def ITk(X:HX)(H:Hp)(R:aO->Prop)(t:Pk)(v:V):Prop:=Side X t.b t.l t.m/\ITp X H R t.b t.l v
theorem ITp.keep{b:Bd}{l:lS}{v:V}(h:ITp X H R b l v)(ok:POk X m H)(z:Kz X.M R H H')(sub:∀b,R b->R' b):ITp X H' R' b l v:=by
 obtain⟨pl,dxl,p,ln,vn,e,h1,h2,h3,h4,h5⟩:=h;have tp:Tups H H':=fun b xs e=>z _ _ e (ok.noT e) (by intro _ z;cases z);exact⟨pl,dxl,p,ln,vn,e,z _ _ h1 (ok.noI h1) (by intro _ z;unfold LO at z;cases z),h2.keep tp,h3.keep ⟨tp,fun a xs ra e=>z a _ e (ok.noL e) fun _ _=>ra,sub⟩,z _ _ h4 (ok.noL h4) (fun _ _=>h5),sub _ h5⟩
def pcP(ns:lS)(ow:Str->List Bool):Bd->lS->Nat->Hc
 |.give x,r,m=>wH (spn r [x] m).2.1 (.give ((spn r [x] m).1.getD 0 ""))
 |.lt x d b,r,m=>wH (spL ns ow d b r m).2.1 (.lt x (hdD ow d (spL ns ow d b r m).1) (hB ns ow b (stL r (spL ns ow d b r m).1 x) (spL ns ow d b r m).2.2).1)
 |.iff x a b,r,m=>.iff x (hB ns ow a r m).1 (hB ns ow b r (hB ns ow a r m).2).1
 |.case x as,r,m=>.case x (hA ns ow x r as m).1
theorem zby(ns:lS)(ow:Str->List Bool)(b:Bd)(l:lS)(m:Nat):(hB ns ow b l m).1=wD (dO ns b l) (pcP ns ow b (rO ns b l) m):=by
 cases b<;>rw[hB]<;>rfl
section
variable(P:Program)(w:World)(K:uc)(mg:Str->Option aA)(base:Heap)(k:Nat)(X:HX)
def Fin(H:Hp)(R:aO->Prop)(cs:List Hc)(c:Hc)(f:aO):Prop:=∀(H':Hp)(R':aO->Prop),Kz X.M R H H'->(∀b,R b->R' b)->∀rl rs Q,H' rl=sO (.lst rs)->All2 (IsHc H') cs rs->(∀H'' v,Same H' H''->IsHc H'' c v->Q v H'')->CanC P w K mg base k H' f [.ref rl] Q E0
def BegQ(m:Nat)(b:Bd)(r:lS)(H:Hp)(R:aO->Prop)(Q:VK):Prop:=∀(H':Hp)(q l fl:aO)(vs:List V)(R':aO->Prop),KM X.M H H'->POk X (midP X.ns X.ow b r m) H'->H' q=sO (.tup [.ref l,.ref fl])->H l=nO->H' l=sO (.lst vs)->(∀b,R b->R' b)->(∀b,R' b->R b\/H b=nO)->(∀b,R' b->H' b≠nO)->R' l->All2 (ITk X H' R') (kP X.ns X.ow b r m) vs->(∃fd,H' fl=sO (FunO fl fd))->Fin P w K mg base k X H' R' ((kP X.ns X.ow b r m).map (Pk.code X.ns X.ow)) (pcP X.ns X.ow b r m) fl->Q (.ref q) H'
inductive spBeg(c:Bd->Prop)(vs:List V)(H:Hp)(Q:VK)(e_3:XK):Prop
 |mk (pl:aO) (dxl:aO) (p:aO) (ln:aO) (vn:V) (b:Bd) (r:lS) (m:Nat):(∃R:aO->Prop,vs=[.ref X.pu,.ref pl]/\c b/\H pl=sO (LO X.cL dxl (.ref p) vn (.ref ln))/\IsB H b p/\IsN X.ns H R b vn/\H ln=sO (.lst (r.map V.str))/\R ln/\Side X b r m/\POk X m H/\(∀b,R b->H b≠nO)/\(∀b,R b->¬ X.M b)/\BegQ P w K mg base k X m b r H R Q)->spBeg c vs H Q e_3
end
theorem xV{cl:List (Str×aO)}{fvs:List V}(nd:(cl.map (·.1)).Nodup)(na:(cl.map (·.2)).Nodup)(hl:fvs.length=cl.length)(h:∀(i:Nat)(p:Str×aO)(v:V),cl[i]?=sO p->fvs[i]?=sO v->Cel H p.2 v):Clo H cl (cl.map (·.1)) fvs:=by
 have lk:∀{l:List (Str×aO)}{x:Str}{a:aO},(l.map (·.1)).Nodup->(x,a)∈l->l.lookup x=sO a:=by
  intro l x a
  induction l with
  |nil=>intro _ h;cases h
  |cons p l ih =>
   intro n h;rw[uF,uP]at n;obtain⟨y,c⟩:=p;rcases uy.mp h with e|h
   ·cases e
    rw[Ux];simp
   ·have ne:(x == y)=fO:=by
     rw[beq_eq_false_iff_ne];intro e;exact n.1 (uq.mpr ⟨_,h,e⟩)
    rw[Ux,ne];exact ih n.2 h
 have ml:∀{l:List (Str×aO)}{x:Str}{a:aO},l.lookup x=sO a->(x,a)∈l:=fun e=>u4 e;refine⟨by rw[ub];exact hl,fun p hp=>?_,fun i x v e1 e2=>?_,fun x hx=>?_,fun x y a e1 e2=>?_⟩
 ·obtain⟨i,hi⟩:=U9.mp hp
  have:i < fvs.length:=by rw[hl];exact(ud.mp hi).1
  exact⟨_,h i p _ hi (ui this)⟩
 ·obtain⟨p,hp,rfl⟩:=L2.gM e1
  exact⟨p.2,lk nd (uw hp),h i p v hp e2⟩
 ·obtain⟨p,hp,rfl⟩:=uq.mp hx
  exact⟨p.2,lk nd hp⟩
 ·have m1:=ml e1
  have m2:=ml e2;have aux:∀{l:List (Str×aO)},(l.map (·.2)).Nodup->(x,a)∈l->(y,a)∈l->x=y:=by
   intro l
   induction l with
   |nil=>intro _ h;cases h
   |cons p l ih =>
    intro n h1 h2;rw[uF,uP]at n;rcases uy.mp h1 with e1|h1<;>rcases uy.mp h2 with e2|h2
    ·rw[<- e1]at e2;exact(Prod.mk.inj e2).1.symm
    ·exact absurd (uq.mpr ⟨_,h2,by rw[<- e1]⟩) n.1
    ·exact absurd (uq.mpr ⟨_,h1,by rw[<- e2]⟩) n.1
    ·exact ih n.2 h1 h2
  exact aux na m1 m2
def cl6(c1 c2 c3:aO):List (Str×aO):=[("spending",c1),("done",c2),("body",c3)]
theorem zc6:LamScope ["results","spending","done","body"] ["results"] ["spending","done","body"] (lmS jX):=⟨rfl,rfl,rfl,by decide +kernel,rfl,by decide +kernel,by decide +kernel,by decide +kernel,by decide +kernel⟩
theorem wP{l:List (Str×Bool)}{e:Bool}(h:l[i]?=sO (x,e)):((l.take (i+1)).filter (·.2)).map (fun p=>V.str p.1)=((l.take i).filter (·.2)).map (fun p=>V.str p.1)++(if e then[V.str x]else[]):=by
 rw[uD,h,UY,ur];cases e<;>rfl
theorem w6{l:List (Str×Bool)}{e:Bool}(h:l[i]?=sO (x,e)):((l.take (i+1)).filter fun p=>!p.2).map (fun p=>V.str p.1)=((l.take i).filter fun p=>!p.2).map (fun p=>V.str p.1)++(if e then[]else[V.str x]):=by
 rw[uD,h,UY,ur];cases e<;>rfl
theorem wQ{l:lS}{g:Str->Bool}(h:l[i]?=sO x):((l.take (i+1)).filter g).map V.str=((l.take i).filter g).map V.str++(if g x then[V.str x]else[]):=by
 rw[uD,h,UY,ur];cases e:g x
 ·simp[e]
 ·simp[e]
theorem POk.ne(h:POk X m H)(z:X.M b):H b≠nO:=by
 have tb:∀{T ls},TbG T ls H->H T≠nO:=fun{T ls}⟨ps,q,_⟩=>by rw[q];simp
 rcases z with z|z|z|z|z
 ·rw[z,h.o];simp
 ·rw[z];exact tb h.t4
 ·rw[z];exact tb h.t5
 ·rw[z];exact tb h.t6
 ·rw[z];exact tb h.t7
section
variable{K:uc}
theorem scBegLet:FnScope ["putter","place","body","deed","ends","spent","lent","behind","free","spending","stay","done"] lS4 (zt vx):=.ok
theorem YC:(["putter","place","body","deed","ends","spent","lent","behind","free","spending","stay","done","name"]:lS).Nodup:=by decide +kernel
theorem xW:(["putter","place","body","deed","ends","spent","lent","behind","free","spending","stay","done","name","end"]:lS).Nodup:=by decide +kernel
theorem WZ(F:FunC K "begun_let" vx c f fd)(hB:BMn mg base)(hc:Ua K c X.T6=tV)(x0:XOk X)(N:Pn K X.cP)(L:Ln K X.cL)(GU:Ca P w K mg base CX0 2 "used_up" ["deed","owns"] spUsedUp)(GO:Ca P w K mg base CX0 1 "names_of" ["deed"] spNamesOf)(GA:Me P w K mg base CX0 1 X.cP "is_ahead" lS19 (spAhd X.cP))(GS:Me P w K mg base CX0 2 X.cP "spent" lS25 (spSpent X.cP))(GH:Ca P w K mg base CX0 2 "held_deed" lS28 spHeldDeed)(GL:Ma P w K mg base CX0 1 "Place" X.cL lS6 (spPlInit X.cL))(GW:Ca P w K mg base CX0 1 "with_holds" ["pairs","body"] spHolds)(m_zip:mg "zip"=nO):FnOk P w K mg base CX0 3 f fd lS4 (spBeg P w K mg base 2 X fun b=>∃x d b',b=.lt x d b'):=by
 refine F.byR scBegLet (fun vs H Q E h=>?_) (fun A outer s H vs Q E hr h fresh=>?_)
 ·obtain⟨pl,dxl,p,ln,vn,b,r,m,R,rfl,_⟩:=h
  rfl
 obtain⟨pl,dxl,p,ln,vn,b0,r,m,R,rfl,⟨x,d,b,rfl⟩,hpl,hb,hN,hln,hRl,hS,hP,hRd,hRM,q⟩:=h;have hr1:Room 1 _:=hr.mono (by decide);refine⟨_,
  (zT (sE 2 scBegLet.nd (zI K (jv 1)))
  (zT (sE 3 scBegLet.nd (zp K (jv 2)))
  (zT (sE 4 scBegLet.nd (cA GU hr (jA2 (jv 3) (zI K (jv 0)))))
  (zT (yu ["name","end"] (i:=5) scBegLet.nd rfl (Or.inl rfl) rfl (yG K rfl m_zip (jA2 (cA GO hr1 (jA1 (jv 3))) (jv 4))) (fun _ _ _ _ _=>(zK K (n:=2) rfl (zu (gN 12 xW) (zu (gN 13 xW) zJ)))) (fun _ _ _ _ _=>(yt (yv (jv 13)))) (fun _ _ _ _ _=>(jv 12)))
  (zT (sE 6 scBegLet.nd (yg ["name","end"] rfl (yG K rfl m_zip (jA2 (cA GO hr1 (jA1 (jv 3))) (jv 4))) (fun _ _ _ _ _=>(zK K (n:=2) rfl (zu (gN 12 xW) (zu (gN 13 xW) zJ)))) (fun _ _ _ _ _=>(yt (xE (yv (jv 13))))) (fun _ _ _ _ _=>(jv 12))))
  (zT (sE 7 scBegLet.nd (zU K (zp K (zI K (jv 1)))))
  (zT (yu ["name"] (i:=8) scBegLet.nd rfl (Or.inl rfl) rfl (zP K (zI K (jv 1))) (fun _ _ _ _ _=>(gN 12 YC)) (fun _ _ _ _ _=>(yt (jW.pt (xD (xE (yv (vN (jv 0) N.cl GA hr1 yI (jA2 (jv 12) (jv 7))))) (xt (vv K (jv 12) (jv 6))))))) (fun _ _ _ _ _=>(jv 12)))
  (zT (sE 9 scBegLet.nd (vN (jv 0) N.cl GS hr yI (jA2 (jv 5) (jv 8))))
  (zT (sE 10 scBegLet.nd (zx yw (yg ["name"] rfl (zP K (zI K (jv 1))) (fun _ _ _ _ _=>(gN 12 YC)) (fun _ _ _ _ _=>(yt (vv K (jv 12) (zp K (jv 9))))) (fun _ _ _ _ _=>(jv 12))) (zC (jA1 (zp K (jv 2))))))
  (zT (sE 11 scBegLet.nd (cA GH hr (jA3 (jv 3) (jv 4) (zp K (jv 9)))))
  (xH (zA (jA2 (zC (jA1 (vm GL hr rfl yI (jA3 (zp K (jv 2)) (jv 7) (jv 10))))) (xh (params:=lmP jX) (body:=lmB jX) (scope:=lmS jX) (pos:=xz jX) (T:=X.T6) (qual:=zbw) (cl:=cl6 (s.heap.objs.size+6) (s.heap.objs.size+5) (s.heap.objs.size+4)) hB rfl hc rfl)))))))))))))),?_⟩
 have sl:=zN;obtain⟨pd,pb,hp,hd,hb'⟩:∃pd pb,H p=sO (.tup [.str "let",.str x,.ref pd,.ref pb])/\IsDe H d pd/\IsB H b pb:=by
  cases hb with
  |lt a b c=>exact⟨_,_,a,b,c⟩
 obtain⟨wv,⟨qn,lnn,rfl,hqn,hRn,hlnn⟩,hNb⟩:=id hN;obtain⟨⟨hxn,hun,hca⟩,hokb⟩:=show((x∈X.ns/\(∀y∈d.uses,y∈X.ns)/\CaD X.N X.ow d)/\OkB X b)from hS.ok
 have hus:=hd.usl;refine cutE fun D_ hD_=>?_;refine zbk fun r1_ hr1_=>?_;refine(zg rfl ⟨pl,X.cL,dxl,_,_,rfl,hpl,L.cl,L.a1,rfl,?_⟩);refine(zg rfl (ixT hp aI2 ?_));refine(zq rfl rfl ⟨X.pu,X.cP,X.dx,_,_,rfl,hP.o,N.cl,N.a1,rfl,pd,X.od,d,X.ow,X.N,rfl,hd,hP.w,hca,fun H1 qe s1 hqe=>?_⟩);show r1_ D_ _ H1;subst hr1_;refine Yf fun r2_ hr2_=>?_;have hel:d.uses.length=(ends X.ow d).length:=by
  cases hd with
  |num _=>rfl
  |op _=>rfl
  |@app w0 f0 xs0 _ _ c _ _ =>
   by_cases e:w0="call"
   ·subst e
    rw[yi (by decide),show ends X.ow (.app "call" f0 xs0)=X.ow f0 by unfold ends;exact iP rfl];exact(hca rfl).2.symm
   ·rw[show ends X.ow (.app w0 f0 xs0)=(De.uses (.app w0 f0 xs0)).map fun _=>tV from iN e,ub]
 generalize hes:ends X.ow d=es at *;have zl:(d.uses.zip es).length=d.uses.length:=by rw[Ub,<- hel,Nat.min_self]
 have fl:∀j,((((d.uses.zip es).take j).filter (·.2)).map fun p=>V.str p.1).length<=41:=fun j=>by
  rw[ub];refine uH (uB _ _) ?_;rw[ut];lia
 have flN:∀j,((((d.uses.zip es).take j).filter fun p=>!p.2).map fun p=>V.str p.1).length<=41:=fun j=>by
  rw[ub];refine uH (uB _ _) ?_;rw[ut];lia
 refine(zg rfl ⟨pd,d,rfl,hd.keep (.of s1),fun H2 q2 s2 hq2=>(zg rfl ⟨q2,qe,fO,fO,_,_,rfl,SqK.t hq2,SqK.t (s2 _ _ hqe),xK (xs:=d.uses.map V.str) (ys:=es.map V.bl) (by rw[ub,ub];exact hel) (fun j τ zs H'=>Same H2 H'/\(∃u v,τ=[sO (.ref X.pu),sR pl,sR p,sR pd,sR qe,nO,nO,nO,nO,nO,nO,nO,u,v])/\zs=(((d.uses.zip es).take j).filter (·.2)).map fun p=>V.str p.1) ⟨Same.refl _,⟨nO,nO,rfl⟩,rfl⟩ (fun j τ zs H' _ h=>⟨SqK.t (h.1 _ _ hq2),SqK.t (h.1 _ _ (s2 _ _ hqe))⟩) ?_ ?_⟩)⟩)
 ·rintro i v1 v2 T τ zs H3 hv1 hv2 hT ⟨s3,⟨u,v,rfl⟩,rfl⟩
  rw[uh]at hv1 hv2;obtain⟨y,hy,rfl⟩:=ug.mp hv1;obtain⟨e,he,rfl⟩:=ug.mp hv2;rw[wP (Uc (z:=(y,e)).mpr ⟨hy,he⟩)];refine⟨T,(zg rfl ⟨SqT.of uX9,rfl,_,_,rfl,_,_,rfl,rfl,(zq rfl rfl ?_)⟩)⟩
  have:=fl i
  cases e
  ·exact iteF ⟨s3.new hT,⟨_,_,rfl⟩,(uU _).symm⟩
  ·exact iteT (zg rfl ⟨by lia,s3.new hT,⟨_,_,rfl⟩,rfl⟩)
 rintro τ zs H3 ⟨s3,_,rfl⟩ lsp hlsp;rw[ub,uo (by lia)];have s4:Same H (upd H3 lsp (.lst (((d.uses.zip es).filter (·.2)).map fun p=>V.str p.1))):=((s1.trans s2).trans s3).new hlsp;have esp:((d.uses.zip es).filter (·.2)).map (fun p=>V.str p.1)=(upN d.uses es).map V.str:=by unfold upN;rw[UD];rfl
 rw[esp]at s4 ⊢;have hlsp4:=uX9 (H:=H3) (a:=lsp) (o:=.lst ((upN d.uses es).map V.str));have hqe4:=old (o:=.lst ((upN d.uses es).map V.str)) hlsp (s3 _ _ (s2 _ _ hqe));have nlsp:H lsp=nO:=((s1.trans s2).trans s3).free hlsp;generalize upd H3 lsp (.lst ((upN d.uses es).map V.str))=H4 at *;have hP4:=hP.same s4;show r2_ D_ _ H4;subst hr2_;refine zdL fun r3_ hr3_=>?_;refine(zg rfl ⟨pd,d,rfl,hd.keep (.of s4),fun H5 q5 s5 hq5=>(zg rfl ⟨q5,qe,fO,fO,_,_,rfl,SqK.t hq5,SqK.t (s5 _ _ hqe4),xK (xs:=d.uses.map V.str) (ys:=es.map V.bl) (by rw[ub,ub];exact hel) (fun j τ zs H'=>Same H5 H'/\(∃u v,τ=[sO (.ref X.pu),sR pl,sR p,sR pd,sR qe,sR lsp,nO,nO,nO,nO,nO,nO,u,v])/\zs=(((d.uses.zip es).take j).filter fun p=>!p.2).map fun p=>V.str p.1) ⟨Same.refl _,⟨nO,nO,rfl⟩,rfl⟩ (fun j τ zs H' _ h=>⟨SqK.t (h.1 _ _ hq5),SqK.t (h.1 _ _ (s5 _ _ hqe4))⟩) ?_ ?_⟩)⟩)
 ·rintro i v1 v2 T τ zs H6 hv1 hv2 hT ⟨s6,⟨u,v,rfl⟩,rfl⟩
  rw[uh]at hv1 hv2;obtain⟨y,hy,rfl⟩:=ug.mp hv1;obtain⟨e,he,rfl⟩:=ug.mp hv2;rw[w6 (Uc (z:=(y,e)).mpr ⟨hy,he⟩)];refine⟨T,(zg rfl ⟨SqT.of uX9,rfl,_,_,rfl,_,_,rfl,rfl,(zq rfl rfl ?_)⟩)⟩
  have:=flN i
  cases e
  ·exact iteT (zg rfl ⟨by lia,s6.new hT,⟨_,_,rfl⟩,rfl⟩)
  ·exact iteF ⟨s6.new hT,⟨_,_,rfl⟩,(uU _).symm⟩
 rintro τ zs H6 ⟨s6,_,rfl⟩ llt hllt;rw[ub,uo (by lia)];have s7:Same H4 (upd H6 llt (.lst (((d.uses.zip es).filter fun p=>!p.2).map fun p=>V.str p.1))):=(s5.trans s6).new hllt;have elt:((d.uses.zip es).filter fun p=>!p.2).map (fun p=>V.str p.1)=(ltN d.uses es).map V.str:=by unfold ltN;rw[UD];rfl
 rw[elt]at s7 ⊢;have hllt7:=uX9 (H:=H6) (a:=llt) (o:=.lst ((ltN d.uses es).map V.str));generalize upd H6 llt (.lst ((ltN d.uses es).map V.str))=H7 at *;have s07:=s4.trans s7;have hP7:=hP.same s07;refine(zg rfl ⟨pl,X.cL,dxl,_,_,rfl,s07 _ _ hpl,L.cl,L.a2,rfl,ixT (s07 _ _ hqn) aI1 (ixL (s07 _ _ hlnn) aI0 ?_)⟩);have hrl:r.length<=2000000:=uH (UX _ _) hS.nb;have hNt:Nt H7 (b.mk X.ns) wv:=hNb.nt.keep (.of s07);show r3_ D_ _ H7;subst hr3_;refine Yf fun r4_ hr4_=>?_;refine(zg rfl ⟨pl,X.cL,dxl,_,_,rfl,s07 _ _ hpl,L.cl,L.a3,rfl,ln,rfl,⟨_,SqL.of (s07 _ _ hln)⟩,yp (xs:=r.map V.str) (fun j τ zs H'=>H7=H'/\(∃u,τ=[sO (.ref X.pu),sR pl,sR p,sR pd,sR qe,sR lsp,sR llt,sO wv,nO,nO,nO,nO,u])/\zs=((r.take j).filter fun y=>!ahB X.ns b y && decide (y∉ltN d.uses es)).map V.str) ⟨rfl,⟨nO,rfl⟩,rfl⟩ (fun j τ zs H' _ h=>SqL.of (h.1 ▸ s07 _ _ hln)) ?_ ?_⟩)
 ·rintro j v τ zs H8 hv ⟨rfl,⟨u,rfl⟩,rfl⟩
  obtain⟨y,hy,rfl⟩:=L2.gM hv;rw[wQ hy];have hfl:(((r.take j).filter fun y=>!ahB X.ns b y && decide (y∉ltN d.uses es)).map V.str).length < sizeLine:=by
   rw[ub];refine Ue (uB _ _) ?_;rw[ut];lia
  refine(zg rfl ⟨X.pu,X.dx,(zg rfl ⟨hP7.o,rfl,(zq rfl rfl ⟨X.pu,X.dx,X.od,X.bd,y,m,b.mk X.ns,wv,X.ns,rfl,hP7.o,hP7.b,hS.ln y (uw hy),hNt,(zg rfl ?_)⟩)⟩)⟩);show if(!ahB X.ns b y)=tV then _ else _
  cases hah:ahB X.ns b y
  ·refine iteT (zq rfl rfl ⟨llt,(zg rfl ⟨.inl (SqL.of hllt7),rfl,jd _,(zg rfl ?_)⟩)⟩)
   rw[iP rfl,inVs];by_cases c2:y∈ltN d.uses es
   ·rw[decide_eq_true c2]
    exact iteF ⟨rfl,⟨_,rfl⟩,by simp[c2]⟩
   ·rw[eO c2]
    exact iteT (zg rfl ⟨hfl,rfl,⟨_,rfl⟩,by simp[c2]⟩)
  ·exact iteF (iteF ⟨rfl,⟨_,rfl⟩,by simp⟩)
 rintro τ zs H8 ⟨rfl,_,rfl⟩ lf hlf;rw[ub,UM];have efr:(r.filter fun y=>!ahB X.ns b y && decide (y∉ltN d.uses es))=frL X.ns X.ow d b r:=by unfold frL;rw[hes]
 rw[efr];have s8:=s07.new (o:=.lst ((frL X.ns X.ow d b r).map V.str)) hlf;have hlf8:=uX9 (H:=H7) (a:=lf) (o:=.lst ((frL X.ns X.ow d b r).map V.str));have hlsp8:=old (o:=.lst ((frL X.ns X.ow d b r).map V.str)) hlf (s7 _ _ hlsp4);have hqe8:=old (o:=.lst ((frL X.ns X.ow d b r).map V.str)) hlf (s7 _ _ hqe4);generalize upd H7 lf (.lst ((frL X.ns X.ow d b r).map V.str))=H8 at *;have hP8:=hP.same s8;have hul:(upN d.uses es).length<=41:=by
  have:=fl d.uses.length
  rw[uo (by lia),ub]at this;unfold upN;rw[ub];exact this
 have hbz:=b.sz_pos';have hmz:m+41*(b.sz+1)<=LIMT:=by
  have:=hS.mz
  rw[Bd.sz]at this;exact this
 show r4_ D_ _ H8;subst hr4_;refine Yf fun r5_ hr5_=>?_;refine(zg rfl ⟨X.pu,X.dx,(zg rfl ⟨hP8.o,rfl,(zq rfl rfl ⟨X.pu,X.dx,X.od,X.bd,lsp,lf,upN d.uses es,frL X.ns X.ow d b r,m,rfl,hP8.o,hlsp8,hlf8,by lia,by lia,?_,fun H9 t9 ls9 lp9 qs9 k9 o9 ht9 nls nlp hls9 hlp9 hal9=>?_⟩)⟩)⟩)
 ·intro y hy
  unfold upN at hy;obtain⟨z,hz,rfl⟩:=uq.mp hy;exact x0.sh _ (hun _ (Uv (uI.mp hz).1).1)
 have hsl:=yO (frL X.ns X.ow d b r) (upN d.uses es) m;have esp:spn (frL X.ns X.ow d b r) (upN d.uses es) m=spL X.ns X.ow d b r m:=by unfold spL;rw[hes]
 rw[esp]at hsl o9 hls9 hal9;have hP9:=hP8.cnt k9 o9;have k89:KM X.M H8 H9:=fun b u n e=>k9 b u (fun z=>n (.inl z)) e;have k09:KM X.M H H9:=(KM.of s8).trans k89;have t09:Tups H H9:=hP.tups k09;have hpl9:=k09 _ _ (hP.noI hpl) hpl;have hln9:=k09 _ _ (hP.noL hln) hln;generalize hSP:spL X.ns X.ow d b r m=S at *;obtain⟨st,prs,m2⟩:=S;dsimp only at hsl o9 hls9 hlp9 hal9 hP9
 show r5_ D_ _ H9;subst hr5_;refine Yf fun r6_ hr6_=>?_;refine(zg rfl ⟨pl,X.cL,dxl,_,_,rfl,hpl9,L.cl,L.a3,rfl,ln,rfl,⟨_,SqL.of hln9⟩,yp (xs:=r.map V.str) (fun j τ zs H'=>H9=H'/\(∃u,τ=[sO (.ref X.pu),sR pl,sR p,sR pd,sR qe,sR lsp,sR llt,sO wv,sR lf,sR t9,nO,nO,u])/\zs=((r.take j).filter fun y=>decide (y∉st)).map V.str) ⟨rfl,⟨nO,rfl⟩,rfl⟩ (fun j τ zs H' _ h=>SqL.of (h.1 ▸ hln9)) ?_ ?_⟩)
 ·rintro j v τ zs H10 hv ⟨rfl,⟨u,rfl⟩,rfl⟩
  obtain⟨y,hy,rfl⟩:=L2.gM hv;rw[wQ hy];have hfl:(((r.take j).filter fun y=>decide (y∉st)).map V.str).length < sizeLine:=by
   rw[ub];refine Ue (uB _ _) ?_;rw[ut];lia
  refine(zq rfl rfl (ixT ht9 aI0 ⟨ls9,(zg rfl ⟨.inl (SqL.of hls9),rfl,jd _,(zg rfl ?_)⟩)⟩));rw[iP rfl,inVs];by_cases c2:y∈st
  ·rw[decide_eq_true c2]
   exact iteF ⟨rfl,⟨_,rfl⟩,by simp[c2]⟩
  ·rw[eO c2]
   exact iteT (zg rfl ⟨hfl,rfl,⟨_,rfl⟩,by simp[c2]⟩)
 rintro τ zs H10 ⟨rfl,_,rfl⟩ l10 h10;rw[ub,UM];have s10:=zk (o:=.lst ((r.filter fun y=>decide (y∉st)).map V.str)) h10;refine(zg rfl (ixT (s10 _ _ (t09 _ _ hp)) aI1 ⟨sN1,fun l11 h11=>⟨l10,l11,(zw rfl rfl ⟨old h11 uX9,uX9,?_,fun l12 h12=>?_⟩)⟩⟩))
 ·rw[ub]
  have:=uB (fun y=>decide (y∉st)) r
  show _+1<=_;lia
 have e12:(r.filter fun y=>decide (y∉st)).map V.str++[V.str x]=(stL r st x).map V.str:=by unfold stL;rw[ur];rfl
 rw[e12];have s12:Same H9 (upd (upd (upd H9 l10 (.lst ((r.filter fun y=>decide (y∉st)).map V.str))) l11 (.lst [.str x])) l12 (.lst ((stL r st x).map V.str))):=(s10.new h11).new h12;have n12:H9 l12=nO:=(s10.new h11).free h12;have hl12:=uX9 (H:=upd (upd H9 l10 (.lst ((r.filter fun y=>decide (y∉st)).map V.str))) l11 (.lst [.str x])) (a:=l12) (o:=.lst ((stL r st x).map V.str));generalize upd (upd (upd H9 l10 (.lst ((r.filter fun y=>decide (y∉st)).map V.str))) l11 (.lst [.str x])) l12 (.lst ((stL r st x).map V.str))=H12 at *;have t012:=t09.trans (.of s12);have hqe12:=s12 _ _ (k89 _ _ (hP8.noT hqe8) hqe8);show r6_ D_ _ H12;subst hr6_;refine(zq rfl rfl (zg rfl (ixT (s12 _ _ ht9) aI0 ⟨pd,qe,ls9,d,es,st,rfl,hd.keep t012,hqe12,s12 _ _ hls9,hel,?_,fun H13 qd s13 hqd=>?_⟩)))
 ·rw[hsl.1]
  unfold upN;rw[ub]
 have hqd:IsHd H13 (hdD X.ow d st) qd:=by unfold hdD;rw[hes];exact hqd
 have s913:=s12.trans s13;have t013:=t09.trans (.of s913);refine(zg rfl (ixT (t013 _ _ hp) aI3 (zq rfl rfl ?_)));intro pk dk hpk hdk npk;refine⟨pk,dk,.ref pb,wv,.ref l12,rfl,uX9,fun H15 k15 h15=>⟨rfl,sN1,fun l16 h16=>?_⟩⟩;have s1315:Same H13 H15:=fun b u e=>k15 b u (zi e hpk) (by rw[zj (zi e hpk),zj (zi e hdk)];exact e);have s16:Same H9 (upd H15 l16 (.lst [.ref pk])):=(s913.trans s1315).new h16;have s1316:Same H13 (upd H15 l16 (.lst [.ref pk])):=s1315.new h16;have n16:H9 l16=nO:=(s913.trans s1315).free h16;have hl16:=uX9 (H:=H15) (a:=l16) (o:=.lst [.ref pk]);have hpk16:=old (o:=.lst [.ref pk]) h16 h15;generalize upd H15 l16 (.lst [.ref pk])=H16 at *;have hP16:=hP9.same s16;refine yP hP16.t6 (by unfold ls6;exact .head _) (fun p hp _=>by unfold ls6 at hp;rw[uk.mp hp]) fun H17 fl cc ct k17 T17 hfl nfT ncT hfl17 hcc=>?_;refine⟨sN2,fun rr hrr=>?_⟩;have k18:KM (·=X.T6) H16 (upd H17 rr (.tup [.ref l16,.ref fl])):=fun b u n e=>old hrr (k17 b u n e);have hP18:=hP16.tb6 x0 k18 (T17.same (zk hrr _));have hr18:=uX9 (H:=H17) (a:=rr) (o:=.tup [.ref l16,.ref fl]);have hf18:=old (o:=.tup [.ref l16,.ref fl]) hrr hfl17;have hc18:=old (o:=.tup [.ref l16,.ref fl]) hrr hcc;generalize upd H17 rr (.tup [.ref l16,.ref fl])=H18 at *;subst hD_;refine⟨[(s.heap.objs.size+6,.ref t9),(s.heap.objs.size+5,.ref qd),(s.heap.objs.size+4,.ref p)],fun x hx=>?_,fun H19 pb1=>?_⟩
 ·simp only[uy,Uz,or_false]at hx
  rcases hx with rfl|rfl|rfl
  ·exact⟨9,"spending",rfl,rfl,rfl,.inl rfl⟩
  ·exact⟨11,"done",rfl,rfl,rfl,.inl rfl⟩
  ·exact⟨2,"body",rfl,rfl,rfl,.inl rfl⟩
 have s19:=Pub.same pb1;have hP19:=hP18.same s19;have k16:KM X.M H16 H19:=fun b u n e=>s19 _ _ (k18 b u (fun z=>n (.inr (.inr (.inr (.inl z))))) e);have k9':KM X.M H9 H19:=(KM.of s16).trans k16;have k019:KM X.M H H19:=k09.trans k9';have t019:=hP.tups k019;have t919:=hP9.tups k9';have f12:H l12=nO:=k09.free (fun z=>hP9.ne z n12) n12;have f16:H l16=nO:=k09.free (fun z=>hP9.ne z n16) n16;have flp:H lp9=nO:=s8.free nlp;have hlp19:=k9' _ _ (hP9.noL hlp9) hlp9;have hl12':=s13 _ _ hl12;have hl1216:=s1316 _ _ hl12';have hl1219:=k16 _ _ (hP16.noL hl1216) hl1216;have hl1619:=k16 _ _ (hP16.noL hl16) hl16;have hqd19:IsHd H19 (hdD X.ow d st) qd:=hqd.keep ((Tups.of s1316).trans (hP16.tups k16));have hbs:=hS.sz;have hnb:=hS.nb;rw[Bd.sz]at hbs;rw[Bd.binds]at hnb;refine q H19 rr l16 fl [.ref pk] (fun b=>R b\/b=l12\/b=l16\/b=lp9) k019 (by rw[midP,hSP];exact hP19) (s19 _ _ hr18) f16 hl1619 (fun _ z=>.inl z) ?_ ?_ (.inr (.inr (.inl rfl))) ?_ ⟨_,s19 _ _ hf18⟩ ?_
 ·rintro b (z|rfl|rfl|rfl)
  ·exact .inl z
  ·exact .inr f12
  ·exact .inr f16
  ·exact .inr flp
 ·rintro b (z|rfl|rfl|rfl)
  ·cases e:H b with
   |none=>exact absurd e (hRd b z)
   |some u=>rw[k019 b u (hRM b z) e];simp
  ·rw[hl1219];simp
  ·rw[hl1619];simp
  ·rw[hlp19];simp
 ·rw[kP,hSP]
  refine .cons ⟨⟨fun y hy=>?_,hokb,?_,?_,?_⟩,pk,dk,pb,l12,wv,rfl,k16 _ _ (hP16.noI hpk16) hpk16,hb'.keep t019,hNb.keep ⟨t019,fun a xs ra e=>k019 a _ (hP.noL e) e,fun _ z=>.inl z⟩,hl1219,.inr (.inl rfl)⟩ .nil
  ·unfold stL at hy
   rcases ux.mp hy with hy|hy
   ·exact hS.ln y (uI.mp hy).1
   ·rw[uk.mp hy];exact hxn
  ·show m2+41*b.sz<=LIMT
   lia
  ·show b.sz<=400000
   lia
  ·show(stL r st x).length+b.binds.length<=2000000
   unfold stL
   have:=uB (fun y=>decide (y∉st)) r
   rw[uf,uY];rw[um]at hnb;lia
 ·intro H' R2 z sub rl rs Q2 hrl hcs q2
  rw[kP,hSP]at hcs;rw[pcP,hSP]at q2;dsimp only at q2
  cases hcs with
  |@cons _ v0 _ _ hv0 hcs =>
  cases hcs;have g:∀{b:aO}{u:HO},H19 b=sO u->(∀ps,u≠.tbl ps)->(∀C dx fs,u≠.ins C dx fs)->(∀xs,u≠.lst xs)->H' b=sO u:=fun{b u} e n1 n2 n3=>z b u e (hP19.no e n1 fun k=>by unfold PO;exact n2 _ _ _) fun xs y=>absurd y (n3 xs);have tz:Tups H19 H':=fun b xs e=>g e (by intro _ z;cases z) (by intro _ _ _ z;cases z) (by intro _ z;cases z);have cel:∀{c:aO}{v:V},Cel H19 c v->Cel H' c v:=fun⟨o,e⟩=>⟨o,g e (by intro _ z;cases z) (by intro _ _ _ z;cases z) (by intro _ z;cases z)⟩;have C:Clo H' (cl6 (s.heap.objs.size+6) (s.heap.objs.size+5) (s.heap.objs.size+4)) ["spending","done","body"] [.ref t9,.ref qd,.ref p]:=by
   refine xV (cl:=[("spending",s.heap.objs.size+6),("done",s.heap.objs.size+5),("body",s.heap.objs.size+4)]) (by show(["spending","done","body"]:lS).Nodup;decide +kernel) (by simp) rfl fun i p v e1 e2=>?_
   match i,e1,e2 with
   |0,e1,e2=>cases e1;cases e2;exact cel (pb1.cel (_,_) (.head _))
   |1,e1,e2=>cases e1;cases e2;exact cel (pb1.cel (_,_) (.tail _ (.head _)))
   |2,e1,e2=>cases e1;cases e2;exact cel (pb1.cel (_,_) (.tail _ (.tail _ (.head _))))
   |i+3,e1,_=>simp at e1
  have hcA:∀a∈(cl6 (s.heap.objs.size+6) (s.heap.objs.size+5) (s.heap.objs.size+4)).map (·.2),∃v,Cel H' a v:=fun a ha=>by
   obtain⟨p,hp,rfl⟩:=uq.mp ha;exact C.all p hp
  have tp:=tz.trans (z7 hcA);have ml:∀{b:aO}{xs:List V},H' b=sO (.lst xs)->zZ H' ((cl6 (s.heap.objs.size+6) (s.heap.objs.size+5) (s.heap.objs.size+4)).map (·.2)) b=sO (.lst xs):=fun e=>zG hcA e (by intro _ _ _ z;cases z);have hlpz:=z _ _ hlp19 (hP19.noL hlp19) (fun _ _=>.inr (.inr (.inr rfl)));refine xU (k:=1) zc6 (.all (us1 fun _=>rfl)) (g (s19 _ _ hf18) (by intro _ z;unfold FunO at z;cases z) (by intro _ _ _ z;unfold FunO at z;cases z) (by intro _ z;unfold FunO at z;cases z)) (g (s19 _ _ hc18) (by intro _ z;unfold CodO at z;cases z) (by intro _ _ _ z;unfold CodO at z;cases z) (by intro _ z;unfold CodO at z;cases z)) C fun A2 outer2 s2 hr2=>?_;refine⟨_,cA GW hr2 (jA2 (zp K (jv 1)) (zA (jA4 zz (zp K (jv 3)) (jv 2) (zU K (jv 0))))),?_⟩;refine(zg rfl (ixT (tp _ _ (t919 _ _ ht9)) aI1 (zg rfl (ixT (tp _ _ (t019 _ _ hp)) aI1 (zq rfl rfl (ixL (ml hrl) aI0 ⟨sN4,fun tl htl=>?_⟩))))));have sm:=zk (o:=.tup [.str "let",.str x,.ref qd,v0]) htl;refine⟨lp9,prs,qs9,.lt x (hdD X.ow d st) _,.ref tl,rfl,old htl (ml hlpz),hal9.imp fun _ _ e=>old htl (tp _ _ (t919 _ _ e)),⟨tl,qd,(zg rfl ⟨uX9,hqd19.keep (tp.trans (.of sm)),hv0.keep ((z7 hcA).trans (.of sm))⟩)⟩,fun H3 v3 s3 h3 hnn=>?_⟩;exact q2 _ v3 (yW (sm.trans s3)) (h3.keep fun b xs e=>yR hnn e)
mutual
def UsB:Bd->Prop
 |.give _=>True
 |.lt _ d b=>d.uses.length<=41/\UsB b
 |.iff _ a b=>UsB a/\UsB b
 |.case _ as=>UsA as
def UsA:Arms->Prop
 |.nil=>True
 |.cons _ _ b r=>UsB b/\UsA r
end
mutual
theorem IsB.us{H:Hp}:∀{b:Bd}{p:aO},IsB H b p->UsB b
 |_,_,.give _=>by unfold UsB;trivial
 |_,_,.lt _ d b=>by unfold UsB;exact⟨d.usl,IsB.us b⟩
 |_,_,.iff _ a b=>by unfold UsB;exact⟨IsB.us a,IsB.us b⟩
 |_,_,.case _ _ _ a=>by unfold UsB;exact IsA.us a
theorem IsA.us{H:Hp}:∀{as:Arms}{ps:List aO},IsA H as ps->UsA as
 |_,_,.nil=>by unfold UsA;trivial
 |_,_,.cons _ _ b r=>by unfold UsA;exact⟨IsB.us b,IsA.us r⟩
end
theorem We(xs:lS)(es:List Bool):(upN xs es).length<=xs.length:=by
 unfold upN;rw[ub];refine uH (uB _ _) ?_;rw[Ub];exact Nat.min_le_left _ _
mutual
theorem jZ(ns:lS)(ow:Str->List Bool):∀(b:Bd)(l:lS)(m:Nat),UsB b->(hB ns ow b l m).2<=m+41*b.sz
 |.give x,l,m,_=>by
  rw[hB,Bd.sz]
  have:=(yO (rO ns (.give x) l) [x] m).2.2.1
  simp at this ⊢
  lia
 |.lt x d b,l,m,h=>by
  unfold UsB at h;rw[hB,Bd.sz];have h1:=jZ ns ow b (stL (rO ns (.lt x d b) l) (spL ns ow d b (rO ns (.lt x d b) l) m).1 x) (spL ns ow d b (rO ns (.lt x d b) l) m).2.2 h.2;have h2:(spL ns ow d b (rO ns (.lt x d b) l) m).2.2<=m+(upN d.uses (ends ow d)).length:=(yO _ _ m).2.2.1;have h3:=We d.uses (ends ow d);have h4:=h.1;dsimp only
  lia
 |.iff x a b,l,m,h=>by
  unfold UsB at h;rw[hB,Bd.sz];have h1:=jZ ns ow a (rO ns (.iff x a b) l) m h.1;have h2:=jZ ns ow b (rO ns (.iff x a b) l) (hB ns ow a (rO ns (.iff x a b) l) m).2 h.2;dsimp only
  lia
 |.case x as,l,m,h=>by
  unfold UsB at h;rw[hB,Bd.sz];have h1:=zbz ns ow x (rO ns (.case x as) l) as m h;dsimp only
  lia
theorem zbz(ns:lS)(ow:Str->List Bool)(x:Str)(r:lS):∀(as:Arms)(m:Nat),UsA as->(hA ns ow x r as m).2<=m+41*as.sz
 |.nil,m,_=>by rw[hA];exact UX _ _
 |.cons t xs b as,m,h=>by
  unfold UsA at h;rw[hA,Arms.sz];have h1:=jZ ns ow b (stA (tkB ns x r b) x r xs) m h.1;have h2:=zbz ns ow x r as (hB ns ow b (stA (tkB ns x r b) x r xs) m).2 h.2;dsimp only
  lia
end
theorem JU(X:HX)(x:Str)(r:lS):∀(as:Arms)(m i:Nat)(a:Str×lS×Bd),as.al[i]?=sO a->UsA as->OkA X as->∃mi,(kA X.ns X.ow x r as m)[i]?=sO ⟨a.2.2,stA (tkB X.ns x r a.2.2) x r a.2.1,mi⟩/\mi+41*a.2.2.sz<=m+41*as.sz/\a.2.2.sz<=as.sz/\a.2.1.length+a.2.2.binds.length<=as.binds.length/\OkB X a.2.2/\∀y∈a.2.1,y∈X.ns
 |.nil,m,i,a,h,_,_=>by unfold Arms.al at h;simp at h
 |.cons t xs b as,m,0,a,h,hu,ho=>by
  unfold Arms.al at h;simp at h
  subst h;unfold OkA at ho;rw[kA,Arms.sz,Arms.binds];refine⟨m,rfl,?_,?_,?_,ho.1.2,ho.1.1⟩
  ·show m+41*b.sz<=_
   lia
  ·show b.sz<=_
   lia
  ·rw[uf,uf]
   show xs.length+b.binds.length<=_;lia
 |.cons t xs b as,m,i+1,a,h,hu,ho=>by
  unfold Arms.al at h;unfold UsA at hu;unfold OkA at ho;obtain⟨mi,h1,h2,h3,h4,h5⟩:=JU X x r as (hB X.ns X.ow b (stA (tkB X.ns x r b) x r xs) m).2 i a (by simpa using h) hu.2 ho.2;have h6:=jZ X.ns X.ow b (stA (tkB X.ns x r b) x r xs) m hu.1;rw[kA,Arms.sz,Arms.binds];refine⟨mi,by simpa using h1,by lia,by lia,?_,h5⟩;rw[uf,uf];lia
theorem Wf:∀as:Arms,as.ways=as.al.map (·.2)
 |.nil=>rfl
 |.cons t xs b r=>by unfold Arms.ways Arms.al;rw[Wf r];rfl
theorem zbA:∀as:Arms,as.al.length<=as.sz
 |.nil=>uj _
 |.cons t xs b r=>by
  unfold Arms.al;rw[Arms.sz,um]
  have:=zbA r
  lia
theorem zc7{c c2:Bool}(h1:∀Q':VK,Q' (.bl c) H->ta σ H Q')(h2:c=tV->∀Q':VK,Q' (.bl c2) H->tb σ H Q')(hq:Q (.bl (c && c2)) H):Vb ta tb σ H Q:=by
 refine h1 _ ⟨c,rfl,?_⟩;cases c
 ·exact iteF hq
 ·exact iteT (h2 rfl _ hq)
theorem zc8{u:TS}(h:te σ H fun v H1=>g v σ H1 fun σ2 H2=>u D σ2 H2):tSeq (tAsg te g) u D σ H:=h
theorem zaL{t:TE}{u:TS}(h:t σ H fun _ H1=>u D σ H1):tSeq (Ve t) u D σ H:=h
theorem zc9{c:Bool}{a b:V}{l:aO}(hi:σ[i]?=sO (sO (.ref l)))(hj:σ[j]?=sO (sO (.bl c)))(hl:H l=sO (.lst xs))(hn:xs.length < sizeLine)(hq:Q .non (upd H l (.lst (xs++[if c then a else b])))):tBM K "list" Ze (tVar i) (z5 (tIf (tB (tVar j)) (tC a) (tC b)) tNil) σ H Q:=by
 refine⟨_,hi,.inl ⟨rfl,_,SqL.of hl⟩,_,hj,(zg rfl ?_)⟩;cases c
 ·exact iteF ⟨l,(zw rfl rfl ⟨hl,hn,hq⟩)⟩
 ·exact iteT ⟨l,(zw rfl rfl ⟨hl,hn,hq⟩)⟩
def cl7(c1 c2:aO):List (Str×aO):=[("modes",c1),("body",c2)]
theorem zda:LamScope ["results","modes","body"] ["results"] ["modes","body"] (lmS jY):=⟨rfl,rfl,rfl,by decide +kernel,rfl,by decide +kernel,by decide +kernel,by decide +kernel,by decide +kernel⟩
theorem scBegCase:FnScope ["putter","place","body","modes","within","arm","note","takes","stay"] lS4 (zt wF):=.ok
theorem W3:(["putter","place","body","modes","within","arm","note","takes","stay","name"]:lS).Nodup:=by decide +kernel
theorem XF(F:FunC K "begun_case" wF c f fd)(hB:BMn mg base)(hc:Ua K c X.T7=tV)(x0:XOk X)(N:Pn K X.cP)(L:Ln K X.cL)(GA:Me P w K mg base CX0 1 X.cP "is_ahead" lS19 (spAhd X.cP))(GL:Ma P w K mg base CX0 1 "Place" X.cL lS6 (spPlInit X.cL))(GH:Ca P w K mg base CX0 1 "held_arms" lS24 spHeldArms)(m_zip:mg "zip"=nO)(m_list:mg "list"=nO):FnOk P w K mg base CX0 3 f fd lS4 (spBeg P w K mg base 2 X fun b=>∃x as,b=.case x as):=by
 refine F.byR scBegCase (fun vs H Q E h=>?_) (fun A outer s H vs Q E hr h fresh=>?_)
 ·obtain⟨pl,dxl,p,ln,vn,b,r,m,R,rfl,_⟩:=h
  rfl
 obtain⟨pl,dxl,p,ln,vn,b0,r,m,R,rfl,⟨x,as,rfl⟩,hpl,hb,hN,hln,hRl,hS,hP,hRd,hRM,q⟩:=h;have hr1:Room 1 _:=hr.mono (by decide);refine⟨_,
  (zT (sE 2 scBegCase.nd (zI K (jv 1)))
  (zT (sE 3 scBegCase.nd (zC zL))
  (zT (sE 4 scBegCase.nd (zC zL))
  (zT (ya PassesOwn.leaving rfl (yG K rfl m_zip (jA2 (zp K (jv 2)) (zp K (zI K (jv 1))))) (zK K rfl (zu (gN 5 scBegCase.nd) (zu (gN 6 scBegCase.nd) zJ)))
   (zh (sE 7 scBegCase.nd (zcp (xr (Xj K) (zp K (jv 2)) (zI K (jv 1)) (by with_unfolding_all rfl)) (VB (zcq (vN (jv 0) N.cl GA hr1 yI (jA2 (zp K (jv 2)) (jv 6)))))))
   (zh (yr (xg uN uV uW z6 (jv 3) (jA1 (wq (yv (jv 7)) zz zz))))
   (zh (yu ["name"] (i:=8) scBegCase.nd rfl (Or.inl rfl) rfl (zP K (zI K (jv 1))) (fun _ _ _ _ _=>(gN 9 W3)) (fun _ _ _ _ _=>(yt (jW.pt (vj (xE (yv (jv 7))) (x9 (tN VE (jv 9) (zp K (jv 2)))))))) (fun _ _ _ _ _=>(jv 9)))
   (zn (yr (xg uN uV uW z6 (jv 4) (jA1 (vm GL hr rfl yI (jA3 (zp K (jv 5)) (jv 6) (zx yw (jv 8) (zS (xG K) rfl m_list UU (jA1 (zp K (jv 5)))))))))))))))
  (xH (zA (jA2 (jv 4) (xh (params:=lmP jY) (body:=lmB jY) (scope:=lmS jY) (pos:=xz jY) (T:=X.T7) (qual:=zbx) (cl:=cl7 (s.heap.objs.size+3) (s.heap.objs.size+2)) hB rfl hc rfl)))))))),?_⟩
 have sl:=zN;obtain⟨pa,ps,hp,hpa,hps,hA⟩:∃pa ps,H p=sO (.tup [.str "case",.str x,.ref pa])/\H pa=sO (.tup (ps.map V.ref))/\0 < ps.length/\IsA H as ps:=by
  cases hb with
  |case a b c d=>exact⟨_,_,a,b,c,d⟩
 have hus:UsA as:=by have:=hb.us;unfold UsB at this;exact this
 have hok:OkA X as:=hS.ok;obtain⟨ws,⟨qn,lnn,rfl,hqn,hRn,hlnn⟩,hNa⟩:=id hN;have hNs:=IsNA.ways.mp hNa;unfold IsNs at hNs;rw[Wf]at hNs;have hal:=hA.al;have pl1:=hal.len;have wl1:=hNs.len;rw[ub]at wl1;have asz:=zbA as;have hbs:=hS.sz;rw[Bd.sz]at hbs;have hmz:=hS.mz;rw[Bd.sz]at hmz;have hnb:=hS.nb;rw[Bd.binds]at hnb;refine cutE fun D_ hD_=>?_;refine zbk fun r1_ hr1_=>?_;refine(zg rfl ⟨pl,X.cL,dxl,_,_,rfl,hpl,L.cl,L.a1,rfl,sN0,fun lm hlm=>⟨sN0,fun lw hlw=>?_⟩⟩);have s1:Same H (upd (upd H lm (.lst [])) lw (.lst [])):=(zk hlm _).new hlw;have flw:H lw=nO:=(zk hlm (.lst [])).free hlw;have nmw:lm≠lw:=zi uX9 hlw;have hlm1:=old (o:=.lst []) hlw (uX9 (H:=H) (a:=lm) (o:=.lst []));have hlw1:=uX9 (H:=upd H lm (.lst [])) (a:=lw) (o:=.lst []);generalize upd (upd H lm (.lst [])) lw (.lst [])=H1 at *;have nRm:¬ R lm:=fun z=>hRd _ z hlm;have nRw:¬ R lw:=fun z=>hRd _ z flw;show r1_ D_ _ H1;subst hr1_;refine Yf fun r2_ hr2_=>?_;refine(zg rfl (ixT (s1 _ _ hp) aI2 (zg rfl ⟨pl,X.cL,dxl,_,_,rfl,s1 _ _ hpl,L.cl,L.a2,rfl,ixT (s1 _ _ hqn) aI1 ⟨pa,lnn,fO,tV,_,_,rfl,SqK.t (s1 _ _ hpa),SqK.l (s1 _ _ hlnn),vw (xs:=ps.map V.ref) (ys:=ws) (by rw[ub];lia) (fun i σ H'=>(∃a n t u,σ=[sO (.ref X.pu),sR pl,sR p,sR lm,sR lw,a,n,t,u])/\Same H H'/\H' lm=sO (.lst ((as.al.take i).map fun a=>V.str (yE (tkB X.ns x r a.2.2))))/\∃(vs:List V)(R':aO->Prop),H' lw=sO (.lst vs)/\(∀b,R b->R' b)/\(∀b,R' b->R b\/H b=nO)/\(∀b,R' b->H' b≠nO)/\¬ R' lm/\¬ R' lw/\All2 (ITk X H' R') ((kA X.ns X.ow x r as m).take i) vs) ⟨⟨nO,nO,nO,nO,rfl⟩,s1,hlm1,[],R,hlw1,fun _ z=>z,fun _ z=>.inl z,fun b z=>?_,nRm,nRw,.nil⟩ (fun i σ H' _ h=>⟨SqK.t (h.2.1 _ _ hpa),SqK.l (h.2.1 _ _ hlnn)⟩) ?_ ?_⟩⟩)))
 ·cases e:H b with
  |none=>exact absurd e (hRd b z)
  |some u=>rw[s1 b u e];simp
 ·rintro i v1 nv T σ H2 hv1 hv2 hT ⟨⟨a0,n0,t0,u0,rfl⟩,s2,hlm2,vs,R',hlw2,sub,new,pre,nRm',nRw',hk⟩
  obtain⟨p0,hp0,rfl⟩:=L2.gM hv1;obtain⟨a,ha,q0,r0,g1,g2,g3⟩:=hal.get hp0;obtain⟨a',ha',hNi⟩:=hNs.get hv2;have ea:a'=a.2:=by rw[uh,ha]at ha';exact(uX.inj ha').symm
  subst ea;obtain⟨mi,k1,k2,k3,k4,k5,k6⟩:=JU X x r as m i a ha hus hok;have s3:=s2.new (o:=.tup [.ref p0,nv]) hT;refine⟨T,(zg rfl ⟨SqT.of uX9,rfl,_,_,rfl,_,_,rfl,rfl,?_⟩)⟩;have hk3:All2 (ITk X (upd H2 T (.tup [.ref p0,nv])) R') ((kA X.ns X.ow x r as m).take i) vs:=hk.imp fun _ _ h=>⟨h.1,ITp.keep h.2 (hP.same s2) (fun b u e _ _=>old hT e) fun _ z=>z⟩;have pre3:∀b,R' b->upd H2 T (.tup [.ref p0,nv]) b≠nO:=fun b z=>by
   cases e:H2 b with
   |none=>exact absurd e (pre b z)
   |some u=>rw[old hT e];simp
  have hlm3:=old (o:=.tup [.ref p0,nv]) hT hlm2;have hlw3:=old (o:=.tup [.ref p0,nv]) hT hlw2;dsimp only
  generalize upd H2 T (.tup [.ref p0,nv])=H3 at *;have hP3:=hP.same s3;refine zbl fun E_ hE_=>?_;refine zc8 (zc7 (c:=decide (x∈r)) (c2:=!ahB X.ns a.2.2 x) (fun Q' h=>(zg rfl (ixT (s3 _ _ hp) aI1 (zg rfl ⟨pl,X.cL,dxl,_,_,rfl,s3 _ _ hpl,L.cl,L.a3,rfl,ln,(zg rfl ⟨.inl (SqL.of (s3 _ _ hln)),rfl,jd r,?_⟩)⟩)))) (fun c Q' h=>(zg rfl ⟨X.pu,X.dx,(zg rfl ⟨hP3.o,rfl,(zg rfl (ixT (s3 _ _ hp) aI1 (zg rfl ⟨X.pu,X.dx,X.od,X.bd,x,m,a.2.2.mk X.ns,nv,X.ns,rfl,hP3.o,hP3.b,hS.ln x (of_decide_eq_true c),hNi.nt.keep (.of s3),(zg rfl (h))⟩)))⟩)⟩)) ?_)
  ·rw[iN (show ¬ (fO=tV) by decide),inVs]
   exact h
  change tSeq _ _ _ _ _
  have etk:(decide (x∈r) && !ahB X.ns a.2.2 x)=tkB X.ns x r a.2.2:=rfl;rw[etk];generalize htk:tkB X.ns x r a.2.2=tk at *;have il:=(ud.mp ha).1;refine zaL (zc9 (i:=3) (j:=7) (c:=tk) rfl rfl hlm3 (by rw[ub,ut];lia) ?_);have emo:((as.al.take i).map fun a=>V.str (yE (tkB X.ns x r a.2.2)))++[if tk then V.str "take"else V.str "look"]=(as.al.take (i+1)).map fun a=>V.str (yE (tkB X.ns x r a.2.2)):=by
   rw[uD,ha,ur];show _=_++[V.str (yE (tkB X.ns x r a.2.2))];rw[htk];cases tk<;>rfl
  rw[emo];have s4:=s3.put (o:=.lst ((as.al.take (i+1)).map fun a=>V.str (yE (tkB X.ns x r a.2.2)))) hlm;have hlm4:=uX9 (H:=H3) (a:=lm) (o:=.lst ((as.al.take (i+1)).map fun a=>V.str (yE (tkB X.ns x r a.2.2))));have hlw4:upd H3 lm (.lst ((as.al.take (i+1)).map fun a=>V.str (yE (tkB X.ns x r a.2.2)))) lw=sO (.lst vs):=by rw[zj nmw.symm];exact hlw3
  have hk4:All2 (ITk X (upd H3 lm (.lst ((as.al.take (i+1)).map fun a=>V.str (yE (tkB X.ns x r a.2.2))))) R') ((kA X.ns X.ow x r as m).take i) vs:=hk3.imp fun _ _ h=>⟨h.1,ITp.keep h.2 hP3 (fun b u e _ hl=>by
   by_cases z:b=lm
   ·rw[z,hlm3]at e
    exact absurd (z ▸ hl _ (uX.inj e).symm) nRm'
   ·rw[zj z];exact e) fun _ z=>z⟩
  have pre4:∀b,R' b->upd H3 lm (.lst ((as.al.take (i+1)).map fun a=>V.str (yE (tkB X.ns x r a.2.2)))) b≠nO:=fun b z=>by
   have nb:b≠lm:=fun y=>nRm' (by rw[<- y];exact z);rw[zj nb];exact pre3 b z
  generalize upd H3 lm (.lst ((as.al.take (i+1)).map fun a=>V.str (yE (tkB X.ns x r a.2.2))))=H4 at *;have hP4:=hP.same s4;have hrl:r.length<=2000000:=uH (UX _ _) hS.nb;refine(zg rfl ⟨pl,X.cL,dxl,_,_,rfl,s4 _ _ hpl,L.cl,L.a3,rfl,ln,rfl,⟨_,SqL.of (s4 _ _ hln)⟩,yp (xs:=r.map V.str) (fun j τ zs H'=>H4=H'/\(∃u,τ=[sO (.ref X.pu),sR pl,sR p,sR lm,sR lw,sR p0,sO nv,sO (.bl tk),u0,u])/\zs=((r.take j).filter fun y=>!tk || decide (y≠x)).map V.str) ⟨rfl,⟨nO,rfl⟩,rfl⟩ (fun j τ zs H' _ h=>SqL.of (h.1 ▸ s4 _ _ hln)) ?_ ?_⟩)
  ·rintro j v τ zs H5 hv ⟨rfl,⟨u,rfl⟩,rfl⟩
   obtain⟨y,hy,rfl⟩:=L2.gM hv;rw[wQ hy];have hfl:(((r.take j).filter fun y=>!tk || decide (y≠x)).map V.str).length < sizeLine:=by
    rw[ub];refine Ue (uB _ _) ?_;rw[ut];lia
   refine(zq rfl rfl ?_);cases tk
   ·exact iteT (iteT (zg rfl ⟨hfl,rfl,⟨_,rfl⟩,rfl⟩))
   ·refine iteF (zq rfl rfl (ixT (s4 _ _ hp) aI1 ⟨rfl,(zg rfl ?_)⟩))
    by_cases c2:y=x
    ·rw[c2,decide_eq_true rfl]
     exact iteF ⟨rfl,⟨_,rfl⟩,by simp⟩
    ·rw[eO (fun z=>c2 (V.str.inj z))]
     exact iteT (zg rfl ⟨hfl,rfl,⟨_,rfl⟩,by simp[c2]⟩)
  rintro τ zs H5 ⟨rfl,_,rfl⟩ l5 h5;rw[ub,UM];have s5:=zk (o:=.lst ((r.filter fun y=>!tk || decide (y≠x)).map V.str)) h5;have s05:=s4.trans s5;refine(zg rfl ⟨.inl ⟨rfl,_,SqL.of (s5 _ _ hlw4)⟩,(zg rfl (ixT (s05 _ _ g1) aI2 (zq rfl rfl (zg rfl (ixT (s05 _ _ g1) aI1 ⟨q0,(zg rfl ⟨.inr (SqT.of (s05 _ _ g2)),fun l6 h6=>⟨l5,l6,(zw rfl rfl ⟨old h6 uX9,uX9,?_,fun l7 h7=>?_⟩)⟩⟩)⟩)))))⟩)
  ·rw[ub,ub]
   have:=uB (fun y=>!tk || decide (y≠x)) r
   lia
  have e7:((r.filter fun y=>!tk || decide (y≠x)).map V.str)++a.2.1.map V.str=(stA tk x r a.2.1).map V.str:=by unfold stA;rw[ur]
  rw[e7];have s7:Same H4 (upd (upd (upd H4 l5 (.lst ((r.filter fun y=>!tk || decide (y≠x)).map V.str))) l6 (.lst (a.2.1.map V.str))) l7 (.lst ((stA tk x r a.2.1).map V.str))):=(s5.new h6).new h7;have n7:H4 l7=nO:=(s5.new h6).free h7;have hl7:=uX9 (H:=upd (upd H4 l5 (.lst ((r.filter fun y=>!tk || decide (y≠x)).map V.str))) l6 (.lst (a.2.1.map V.str))) (a:=l7) (o:=.lst ((stA tk x r a.2.1).map V.str));generalize upd (upd (upd H4 l5 (.lst ((r.filter fun y=>!tk || decide (y≠x)).map V.str))) l6 (.lst (a.2.1.map V.str))) l7 (.lst ((stA tk x r a.2.1).map V.str))=H7 at *;intro pk dk hpk hdk npk;refine⟨pk,dk,.ref r0,nv,.ref l7,rfl,uX9,fun H8 k8 h8=>⟨rfl,?_⟩⟩;have s78:Same H7 H8:=fun b u e=>k8 b u (zi e hpk) (by rw[zj (zi e hpk),zj (zi e hdk)];exact e);have s48:=s7.trans s78;have hkl:=hk4.len;rw[ut]at hkl;refine⟨lw,(zw rfl rfl ⟨s48 _ _ hlw4,by lia,?_⟩)⟩;have n7m:l7≠lm:=fun z=>by rw[z,hlm4]at n7;cases n7
  have n7w:l7≠lw:=fun z=>by rw[z,hlw4]at n7;cases n7
  have npw:pk≠lw:=fun z=>by rw[z,s7 _ _ hlw4]at hpk;cases hpk
  have f7:H l7=nO:=s4.free n7;have s9:Same H (upd H8 lw (.lst (vs++[.ref pk]))):=(s4.trans s48).put flw;have hl79:upd H8 lw (.lst (vs++[.ref pk])) l7=sO (.lst ((stA tk x r a.2.1).map V.str)):=by rw[zj n7w];exact s78 _ _ hl7
  have hpk9:upd H8 lw (.lst (vs++[.ref pk])) pk=sO (LO X.cL dk (.ref r0) nv (.ref l7)):=by rw[zj npw];exact h8
  subst hE_;refine⟨⟨_,_,_,_,rfl⟩,s9,by rw[zj nmw];exact s48 _ _ hlm4,vs++[.ref pk],fun b=>R' b\/b=l7,uX9,fun b z=>.inl (sub b z),?_,?_,?_,?_,?_⟩
  ·rintro b (z|rfl)
   ·exact new b z
   ·exact .inr f7
  ·rintro b (z|rfl)
   ·have nb:b≠lw:=fun y=>nRw' (by rw[<- y];exact z)
    rw[zj nb];cases e:H4 b with
    |none=>exact absurd e (pre4 b z)
    |some u=>rw[s48 _ _ e];simp
   ·rw[hl79];simp
  ·rintro(z|z)
   ·exact nRm' z
   ·exact n7m z.symm
  ·rintro(z|z)
   ·exact nRw' z
   ·exact n7w z.symm
  ·rw[uD,k1]
   refine All2.app (hk4.imp fun _ _ h=>⟨h.1,ITp.keep h.2 hP4 (fun b u e _ hl=>?_) fun _ z=>.inl z⟩) (.cons ⟨⟨fun y hy=>?_,k5,?_,?_,?_⟩,pk,dk,r0,l7,nv,rfl,hpk9,g3.keep (.of s9),hNi.keep ⟨.of s9,fun a xs _ e=>s9 _ _ e,fun b z=>.inl (sub b z)⟩,hl79,.inr rfl⟩ .nil)
   ·by_cases z:b=lw
    ·rw[z,hlw4]at e
     exact absurd (z ▸ hl _ (uX.inj e).symm) nRw'
    ·rw[zj z];exact s48 _ _ e
   ·unfold stA at hy
    rcases ux.mp hy with hy|hy
    ·exact hS.ln y (uI.mp hy).1
    ·exact k6 y hy
   ·show mi+41*a.2.2.sz<=LIMT
    lia
   ·show a.2.2.sz<=400000
    lia
   ·show(stA tk x r a.2.1).length+a.2.2.binds.length<=2000000
    unfold stA
    have:=uB (fun y=>!tk || decide (y≠x)) r
    rw[uf];lia
 rintro σ H2 ⟨⟨a0,n0,t0,u0,rfl⟩,s2,hlm2,vs,R',hlw2,sub,new,pre,nRm',nRw',hk⟩;have el:as.al.take (ps.map V.ref).length=as.al:=uo (by rw[ub];lia);have el2:(kA X.ns X.ow x r as m).take (ps.map V.ref).length=kA X.ns X.ow x r as m:=uo (by rw[XD,ub];lia);rw[el]at hlm2;rw[el2]at hk;have hP2:=hP.same s2;show r2_ D_ _ H2;subst hr2_;refine(zg rfl (yP hP2.t7 (by unfold ls7;exact .head _) (fun p hp _=>by unfold ls7 at hp;rw[uk.mp hp]) fun H3 fl cc ct k3 T3 hfl nfT ncT hfl3 hcc=>⟨sN2,fun rr hrr=>?_⟩));have k18:KM (·=X.T7) H2 (upd H3 rr (.tup [.ref lw,.ref fl])):=fun b u n e=>old hrr (k3 b u n e);have hP18:=hP2.tb7 x0 k18 (T3.same (zk hrr _));have hr18:=uX9 (H:=H3) (a:=rr) (o:=.tup [.ref lw,.ref fl]);have hf18:=old (o:=.tup [.ref lw,.ref fl]) hrr hfl3;have hc18:=old (o:=.tup [.ref lw,.ref fl]) hrr hcc;generalize upd H3 rr (.tup [.ref lw,.ref fl])=H18 at *;subst hD_;refine⟨[(s.heap.objs.size+3,.ref lm),(s.heap.objs.size+2,.ref p)],fun x hx=>?_,fun H19 pb1=>?_⟩
 ·simp only[uy,Uz,or_false]at hx
  rcases hx with rfl|rfl
  ·exact⟨3,"modes",rfl,rfl,rfl,.inl rfl⟩
  ·exact⟨2,"body",rfl,rfl,rfl,.inl rfl⟩
 have s19:=Pub.same pb1;have hP19:=hP18.same s19;have k2':KM X.M H2 H19:=fun b u n e=>s19 _ _ (k18 b u (fun z=>n (.inr (.inr (.inr (.inr z))))) e);have k019:KM X.M H H19:=(KM.of s2).trans k2';have t019:=hP.tups k019;have hlm19:=k2' _ _ (hP2.noL hlm2) hlm2;have hlw19:=k2' _ _ (hP2.noL hlw2) hlw2;refine q H19 rr lw fl vs (fun b=>R' b\/b=lw\/b=lm) k019 hP19 (s19 _ _ hr18) flw hlw19 (fun b z=>.inl (sub b z)) ?_ ?_ (.inr (.inl rfl)) ?_ ⟨_,s19 _ _ hf18⟩ ?_
 ·rintro b (z|rfl|rfl)
  ·exact new b z
  ·exact .inr flw
  ·exact .inr hlm
 ·rintro b (z|rfl|rfl)
  ·cases e:H2 b with
   |none=>exact absurd e (pre b z)
   |some u =>
    rcases new b z with y|y
    ·rw[k2' b u (hRM b y) e];simp
    ·rw[k2' b u (fun y'=>hP.ne y' y) e];simp
  ·rw[hlw19];simp
  ·rw[hlm19];simp
 ·rw[kP]
  exact hk.imp fun _ _ h=>⟨h.1,ITp.keep h.2 hP2 (fun b u e n _=>k2' b u n e) fun _ z=>.inl z⟩
 ·intro H' R2 z sub2 rl rs Q2 hrl hcs q2
  rw[kP]at hcs;rw[pcP,zbu]at q2;have g:∀{b:aO}{u:HO},H19 b=sO u->(∀ps,u≠.tbl ps)->(∀C dx fs,u≠.ins C dx fs)->(∀xs,u≠.lst xs)->H' b=sO u:=fun{b u} e n1 n2 n3=>z b u e (hP19.no e n1 fun k=>by unfold PO;exact n2 _ _ _) fun xs y=>absurd y (n3 xs);have tz:Tups H19 H':=fun b xs e=>g e (by intro _ z;cases z) (by intro _ _ _ z;cases z) (by intro _ z;cases z);have cel:∀{c:aO}{v:V},Cel H19 c v->Cel H' c v:=fun⟨o,e⟩=>⟨o,g e (by intro _ z;cases z) (by intro _ _ _ z;cases z) (by intro _ z;cases z)⟩;have C:Clo H' (cl7 (s.heap.objs.size+3) (s.heap.objs.size+2)) ["modes","body"] [.ref lm,.ref p]:=by
   refine xV (cl:=[("modes",s.heap.objs.size+3),("body",s.heap.objs.size+2)]) (by show(["modes","body"]:lS).Nodup;decide +kernel) (by simp) rfl fun i p v e1 e2=>?_
   match i,e1,e2 with
   |0,e1,e2=>cases e1;cases e2;exact cel (pb1.cel (_,_) (.head _))
   |1,e1,e2=>cases e1;cases e2;exact cel (pb1.cel (_,_) (.tail _ (.head _)))
   |i+2,e1,_=>simp at e1
  have hcA:∀a∈(cl7 (s.heap.objs.size+3) (s.heap.objs.size+2)).map (·.2),∃v,Cel H' a v:=fun a ha=>by
   obtain⟨p,hp,rfl⟩:=uq.mp ha;exact C.all p hp
  have tp:=(t019.trans tz).trans (z7 hcA);have ml:∀{b:aO}{xs:List V},H' b=sO (.lst xs)->zZ H' ((cl7 (s.heap.objs.size+3) (s.heap.objs.size+2)).map (·.2)) b=sO (.lst xs):=fun e=>zG hcA e (by intro _ _ _ z;cases z);have hlmz:=z _ _ hlm19 (hP19.noL hlm19) (fun _ _=>.inr (.inr rfl));refine xU (k:=1) zda (.all (us1 fun _=>rfl)) (g (s19 _ _ hf18) (by intro _ z;unfold FunO at z;cases z) (by intro _ _ _ z;unfold FunO at z;cases z) (by intro _ z;unfold FunO at z;cases z)) (g (s19 _ _ hc18) (by intro _ z;unfold CodO at z;cases z) (by intro _ _ _ z;unfold CodO at z;cases z) (by intro _ z;unfold CodO at z;cases z)) C fun A2 outer2 s2 hr2=>?_;refine⟨_,zA (jA3 zz (zp K (jv 2)) (cA GH hr2 (jA3 (zp K (jv 2)) (jv 1) (jv 0)))),?_⟩;refine(zg rfl (ixT (tp _ _ hp) aI1 (zg rfl (ixT (tp _ _ hp) aI2 (zq rfl rfl ⟨pa,lm,rl,as,ps,as.al.map fun a=>tkB X.ns x r a.2.2,(kA X.ns X.ow x r as m).map (Pk.code X.ns X.ow),rs,rfl,tp _ _ hpa,hA.keep tp,?_,ml hrl,hcs.imp fun _ _ h=>h.keep (z7 hcA),by rw[ub],by rw[ub,XD],by lia,fun H5 q5 zs s5 hq5 hz5=>⟨sN3,fun tl htl hnn=>?_⟩⟩)))))
  ·rw[UD]
   exact ml hlmz
  have sm:=zk (o:=.tup [.str "case",.str x,.ref q5]) htl;refine q2 _ _ (yW (s5.trans sm)) (IsHc.keep (fun b xs e=>yR hnn e) ?_);exact⟨tl,q5,zs,rfl,uX9,sm _ _ hq5,hz5.keep (.of sm)⟩
def cl5(c1:aO):List (Str×aO):=[("body",c1)]
def cl8(c1:aO):List (Str×aO):=[("spending",c1)]
theorem zdb:LamScope ["results","body"] ["results"] ["body"] (lmS jU):=⟨rfl,rfl,rfl,by decide +kernel,rfl,by decide +kernel,by decide +kernel,by decide +kernel,by decide +kernel⟩
theorem zdc:LamScope ["results","spending"] ["results"] ["spending"] (lmS jV):=⟨rfl,rfl,rfl,by decide +kernel,rfl,by decide +kernel,by decide +kernel,by decide +kernel,by decide +kernel⟩
theorem Pub.nil{H3:Hp}(h:Pub H H3 []):H3=H:=funext fun b=>h.old b (by simp)
theorem scBegPiece:FnScope ["putter","place","body","within","spending"] lS4 (zt xo):=.ok
theorem jg:(["putter","place","body","within","spending","way","note"]:lS).Nodup:=by decide +kernel
theorem YD(F:FunC K "begun_piece" xo c f fd)(hB:BMn mg base)(hc:Ua K c X.T5=tV)(x0:XOk X)(N:Pn K X.cP)(L:Ln K X.cL)(GLt:Ca P w K mg base CX0 3 "begun_let" lS4 (spBeg P w K mg base 2 X fun b=>∃x d b',b=.lt x d b'))(GCs:Ca P w K mg base CX0 3 "begun_case" lS4 (spBeg P w K mg base 2 X fun b=>∃x as,b=.case x as))(GS:Me P w K mg base CX0 2 X.cP "spent" lS25 (spSpent X.cP))(GL:Ma P w K mg base CX0 1 "Place" X.cL lS6 (spPlInit X.cL))(GW:Ca P w K mg base CX0 1 "with_holds" ["pairs","body"] spHolds)(m_zip:mg "zip"=nO)(m_tuple:mg "tuple"=nO):FnOk P w K mg base CX0 4 f fd lS4 (spBeg P w K mg base 2 X fun _=>True):=by
 refine F.byR scBegPiece (fun vs H Q E h=>?_) (fun A outer s H vs Q E hr h fresh=>?_)
 ·obtain⟨pl,dxl,p,ln,vn,b,r,m,R,rfl,_⟩:=h
  rfl
 obtain⟨pl,dxl,p,ln,vn,b0,r,m,R,rfl,_,hpl,hb,hN,hln,hRl,hS,hP,hRd,hRM,q⟩:=h;have hr2:Room 2 _:=hr.mono (by decide);refine⟨_,
  (zT (sE 2 scBegPiece.nd (zI K (jv 1)))
  (VW (tN zM (zp K (jv 2)) zz) (xH (cA GLt hr (jA2 (jv 0) (jv 1))))
  (VW (tN zM (zp K (jv 2)) zz) (xH (cA GCs hr (jA2 (jv 0) (jv 1))))
  (VW (tN zM (zp K (jv 2)) zz)
   (zT (yu ["way","note"] (i:=3) scBegPiece.nd rfl (Or.inl rfl) rfl (yG K rfl m_zip (jA2 (yC wL (jv 2) (yN zo) yM) (zp K (zI K (jv 1))))) (fun _ _ _ _ _=>(zK K (n:=2) rfl (zu (gN 5 jg) (zu (gN 6 jg) zJ)))) (fun _ _ _ _ _=>zW) (fun _ _ _ _ _=>(vm GL hr2 rfl yI (jA3 (jv 5) (jv 6) (zI K (jv 1))))))
   (xH (zA (jA2 (jv 3) (xh (params:=lmP jU) (body:=lmB jU) (scope:=lmS jU) (pos:=xz jU) (T:=X.T5) (qual:=Wd) (cl:=cl5 (s.heap.objs.size+2)) hB rfl hc rfl)))))
  (zT (sE 4 scBegPiece.nd (vN (jv 0) N.cl GS hr2 yI (jA2 (zC (jA1 (zp K (jv 2)))) (zI K (jv 1)))))
  (xH (zA (jA2 (zC zL) (xh (params:=lmP jV) (body:=lmB jV) (scope:=lmS jV) (pos:=xz jV) (T:=X.T5) (qual:=Wd) (cl:=cl8 (s.heap.objs.size+3)) hB rfl hc rfl))))))))),?_⟩
 have sl:=zN;refine(zg rfl ⟨pl,X.cL,dxl,_,_,rfl,hpl,L.cl,L.a1,rfl,?_⟩);cases b0 with
 |lt x d b =>
  obtain⟨pd,pb,hp⟩:∃pd pb,H p=sO (.tup [.str "let",.str x,.ref pd,.ref pb]):=by cases hb with|lt a _ _=>exact⟨_,_,a⟩
  refine(zg rfl (ixT hp aI0 ⟨rfl,(zg rfl (iteT ?_))⟩));exact(zq rfl rfl ⟨pl,dxl,p,ln,vn,_,r,m,R,rfl,⟨x,d,b,rfl⟩,hpl,hb,hN,hln,hRl,hS,hP,hRd,hRM,fun H' qq l fl vs R' a1 a2 a3 a4 a5 a6 a7 a8 a9 a10 a11 a12=>⟨[],(fun _ h=>by cases h),fun H3 pb=>by rw[Pub.nil pb];exact q H' qq l fl vs R' a1 a2 a3 a4 a5 a6 a7 a8 a9 a10 a11 a12⟩⟩)
 |case x as =>
  obtain⟨pa,hp⟩:∃pa,H p=sO (.tup [.str "case",.str x,.ref pa]):=by cases hb with|case a _ _ _=>exact⟨_,a⟩
  refine(zg rfl (ixT hp aI0 ⟨rfl,(zg rfl (iteF ?_))⟩));refine(zg rfl (ixT hp aI0 ⟨rfl,(zg rfl (iteT ?_))⟩));exact(zq rfl rfl ⟨pl,dxl,p,ln,vn,_,r,m,R,rfl,⟨x,as,rfl⟩,hpl,hb,hN,hln,hRl,hS,hP,hRd,hRM,fun H' qq l fl vs R' a1 a2 a3 a4 a5 a6 a7 a8 a9 a10 a11 a12=>⟨[],(fun _ h=>by cases h),fun H3 pb=>by rw[Pub.nil pb];exact q H' qq l fl vs R' a1 a2 a3 a4 a5 a6 a7 a8 a9 a10 a11 a12⟩⟩)
 |iff x a b =>
  obtain⟨pa,pb,hp,ha,hb2⟩:∃pa pb,H p=sO (.tup [.str "if",.str x,.ref pa,.ref pb])/\IsB H a pa/\IsB H b pb:=by cases hb with|iff u v w=>exact⟨_,_,u,v,w⟩
  obtain⟨wa,wb,⟨qn,lnn,rfl,hqn,hRn,hlnn⟩,hNa,hNb⟩:=id hN;have hok:OkB X a/\OkB X b:=hS.ok;have hmz:=hS.mz;rw[Bd.sz]at hmz;have hbs:=hS.sz;rw[Bd.sz]at hbs;have hnb:=hS.nb;rw[Bd.binds,uf]at hnb;have hle:=jZ X.ns X.ow a r m ha.us;refine(zg rfl (ixT hp aI0 ⟨rfl,(zg rfl (iteF ?_))⟩));refine(zg rfl (ixT hp aI0 ⟨rfl,(zg rfl (iteF ?_))⟩));refine(zg rfl (ixT hp aI0 ⟨rfl,(zg rfl (iteT ?_))⟩));have hkid:∀(i:Nat)(v1 v2:V),[V.ref pa,V.ref pb][i]?=sO v1->[wa,wb][i]?=sO v2->∃(t:Pk)(pk:aO),(kP X.ns X.ow (.iff x a b) r m)[i]?=sO t/\v1=.ref pk/\t.l=r/\IsB H t.b pk/\IsN X.ns H R t.b v2/\Side X t.b r t.m:=fun i v1 v2 g1 g2=>by
   match i,g1,g2 with
   |0,g1,g2 =>
    cases g1;cases g2;exact⟨⟨a,r,m⟩,pa,rfl,rfl,rfl,ha,hNa,hS.ln,hok.1,(by show m+41*a.sz<=LIMT;lia),(by show a.sz<=400000;lia),(by show r.length+a.binds.length<=2000000;lia)⟩
   |1,g1,g2 =>
    cases g1;cases g2;exact⟨⟨b,r,(GN.hB X.ns X.ow a r m).2⟩,pb,rfl,rfl,rfl,hb2,hNb,hS.ln,hok.2,(by show(GN.hB X.ns X.ow a r m).2+41*b.sz<=LIMT;lia),(by show b.sz<=400000;lia),(by show r.length+b.binds.length<=2000000;lia)⟩
   |i+2,g1,_=>simp at g1
  refine(zg rfl ⟨2,rfl,p,(zg rfl ⟨hp,fun p3 H1 s1 h3=>?_⟩)⟩);have s1:Same H H1:=s1;have h3:H1 p3=sO (.tup [.ref pa,.ref pb]):=h3;refine(zg rfl ⟨pl,X.cL,dxl,_,_,rfl,s1 _ _ hpl,L.cl,L.a2,rfl,ixT (s1 _ _ hqn) aI1 ⟨p3,lnn,fO,tV,_,_,rfl,SqK.t h3,SqK.l (s1 _ _ hlnn),xK (xs:=[.ref pa,.ref pb]) (ys:=[wa,wb]) rfl (fun j τ zs H'=>Same H1 H'/\(∃u v,τ=[sO (.ref X.pu),sR pl,sR p,nO,nO,u,v])/\All2 (ITk X H' R) ((kP X.ns X.ow (.iff x a b) r m).take j) zs) ⟨Same.refl _,⟨nO,nO,rfl⟩,.nil⟩ (fun j τ zs H' _ h=>⟨SqK.t (h.1 _ _ h3),SqK.l (h.1 _ _ (s1 _ _ hlnn))⟩) ?_ ?_⟩⟩)
  ·rintro i v1 v2 T τ zs H3 g1 g2 hT ⟨s3,⟨u,v,rfl⟩,hk⟩
   obtain⟨t,pk0,k1,rfl,k2,k3,k4,k5⟩:=hkid i v1 v2 g1 g2;have hkl:=hk.len;rw[ut]at hkl;have hil:i < 2:=(ud.mp g1).1;have s4:=s3.new (o:=.tup [.ref pk0,v2]) hT;have s34:=zk (o:=.tup [.ref pk0,v2]) hT;refine⟨T,(zg rfl ⟨SqT.of uX9,rfl,_,_,rfl,_,_,rfl,rfl,?_⟩)⟩;generalize upd H3 T (.tup [.ref pk0,v2])=H4 at *;have s04:=s1.trans s4;refine(zq rfl rfl (zg rfl ⟨pl,X.cL,dxl,_,_,rfl,s04 _ _ hpl,L.cl,L.a3,rfl,fun pk dk hpk hdk npk=>⟨pk,dk,.ref pk0,v2,.ref ln,rfl,uX9,fun H8 k8 h8=>⟨rfl,by lia,?_⟩⟩⟩));have s48:Same H4 H8:=fun b u e=>k8 b u (zi e hpk) (by rw[zj (zi e hpk),zj (zi e hdk)];exact e);have s08:=s04.trans s48;refine⟨s4.trans s48,⟨_,_,rfl⟩,?_⟩;rw[uD,k1];refine All2.app (hk.imp fun _ _ h=>⟨h.1,ITp.keep h.2 (hP.same (s1.trans s3)) (fun b u e _ _=>s48 _ _ (s34 _ _ e)) fun _ z=>z⟩) (.cons ⟨by rw[k2];exact k5,pk,dk,pk0,ln,v2,rfl,h8,k3.keep (.of s08),k4.keep ⟨.of s08,fun a xs _ e=>s08 _ _ e,fun _ z=>z⟩,by rw[k2];exact s08 _ _ hln,hRl⟩ .nil)
  rintro τ zs H5 ⟨s5,_,hk⟩ l5 h5;have hk:All2 (ITk X H5 R) (kP X.ns X.ow (.iff x a b) r m) zs:=hk;have s05:=s1.trans s5;have f5:H l5=nO:=s05.free h5;have s6:=s05.new (o:=.lst zs) h5;have hl5:=uX9 (H:=H5) (a:=l5) (o:=.lst zs);have hk6:All2 (ITk X (upd H5 l5 (.lst zs)) R) (kP X.ns X.ow (.iff x a b) r m) zs:=hk.imp fun _ _ h=>⟨h.1,ITp.keep h.2 (hP.same s05) (fun b u e _ _=>old h5 e) fun _ z=>z⟩;generalize upd H5 l5 (.lst zs)=H6 at *;have hP6:=hP.same s6;refine(zg rfl (yP hP6.t5 (by unfold ls5;exact .head _) (fun p hp _=>by unfold ls5 at hp;simp at hp;rcases hp with rfl|rfl<;>rfl) fun H7 fl cc ct k7 T7 hfl nfT ncT hfl7 hcc=>⟨sN2,fun rr hrr=>?_⟩));have k18:KM (·=X.T5) H6 (upd H7 rr (.tup [.ref l5,.ref fl])):=fun b u n e=>old hrr (k7 b u n e);have hP18:=hP6.tb5 x0 k18 (T7.same (zk hrr _));have hr18:=uX9 (H:=H7) (a:=rr) (o:=.tup [.ref l5,.ref fl]);have hf18:=old (o:=.tup [.ref l5,.ref fl]) hrr hfl7;have hc18:=old (o:=.tup [.ref l5,.ref fl]) hrr hcc;generalize upd H7 rr (.tup [.ref l5,.ref fl])=H18 at *;refine⟨[(s.heap.objs.size+2,.ref p)],fun x hx=>?_,fun H19 pb1=>?_⟩
  ·rw[uk.mp hx]
   exact⟨2,"body",rfl,rfl,rfl,.inl rfl⟩
  have s19:=Pub.same pb1;have hP19:=hP18.same s19;have k16:KM X.M H6 H19:=fun b u n e=>s19 _ _ (k18 b u (fun z=>n (.inr (.inr (.inl z)))) e);have k019:KM X.M H H19:=(KM.of s6).trans k16;have t019:=hP.tups k019;have hl519:=k16 _ _ (hP6.noL hl5) hl5;refine q H19 rr l5 fl zs (fun b=>R b\/b=l5) k019 hP19 (s19 _ _ hr18) f5 hl519 (fun _ z=>.inl z) ?_ ?_ (.inr rfl) (hk6.imp fun _ _ h=>⟨h.1,ITp.keep h.2 hP6 (fun b u e n _=>k16 b u n e) fun _ z=>.inl z⟩) ⟨_,s19 _ _ hf18⟩ ?_
  ·rintro b (z|rfl)
   ·exact .inl z
   ·exact .inr f5
  ·rintro b (z|rfl)
   ·cases e:H b with
    |none=>exact absurd e (hRd b z)
    |some u=>rw[k019 b u (hRM b z) e];simp
   ·rw[hl519];simp
  ·intro H' R2 z sub rl rs Q2 hrl hcs q2
   rw[kP]at hcs;rw[pcP]at q2;cases hcs with
   |@cons _ u1 _ _ hu1 hcs =>
   cases hcs with
   |@cons _ u2 _ _ hu2 hcs =>
   cases hcs;have g:∀{b:aO}{u:HO},H19 b=sO u->(∀ps,u≠.tbl ps)->(∀C dx fs,u≠.ins C dx fs)->(∀xs,u≠.lst xs)->H' b=sO u:=fun{b u} e n1 n2 n3=>z b u e (hP19.no e n1 fun k=>by unfold PO;exact n2 _ _ _) fun xs y=>absurd y (n3 xs);have tz:Tups H19 H':=fun b xs e=>g e (by intro _ z;cases z) (by intro _ _ _ z;cases z) (by intro _ z;cases z);have C:Clo H' (cl5 (s.heap.objs.size+2)) ["body"] [.ref p]:=by
    refine xV (cl:=[("body",s.heap.objs.size+2)]) (by show(["body"]:lS).Nodup;decide +kernel) (by simp) rfl fun i p v e1 e2=>?_
    match i,e1,e2 with
    |0,e1,e2 =>
     cases e1;cases e2;obtain⟨o,e⟩:=pb1.cel (_,_) (.head _);exact⟨o,g e (by intro _ z;cases z) (by intro _ _ _ z;cases z) (by intro _ z;cases z)⟩
    |i+1,e1,_=>simp at e1
   have hcA:∀a∈(cl5 (s.heap.objs.size+2)).map (·.2),∃v,Cel H' a v:=fun a ha=>by
    obtain⟨p,hp,rfl⟩:=uq.mp ha;exact C.all p hp
   have tp:=(t019.trans tz).trans (z7 hcA);have ml:∀{b:aO}{xs:List V},H' b=sO (.lst xs)->zZ H' ((cl5 (s.heap.objs.size+2)).map (·.2)) b=sO (.lst xs):=fun e=>zG hcA e (by intro _ _ _ z;cases z);refine xU (k:=1) zdb (.all (us1 fun _=>rfl)) (g (s19 _ _ hf18) (by intro _ z;unfold FunO at z;cases z) (by intro _ _ _ z;unfold FunO at z;cases z) (by intro _ z;unfold FunO at z;cases z)) (g (s19 _ _ hc18) (by intro _ z;unfold CodO at z;cases z) (by intro _ _ _ z;unfold CodO at z;cases z) (by intro _ z;unfold CodO at z;cases z)) C fun A2 outer2 s2 hr2=>?_;refine⟨_,zx wr (yC wL (jv 1) yM (yN zo)) (zS (zF K) rfl m_tuple uO (jA1 (jv 0))),?_⟩;refine(zg rfl ⟨2,rfl,p,(zg rfl ⟨tp _ _ hp,fun p4 H4 s4 h4=>(zg rfl ⟨rl,(zg rfl (.inl ⟨SqL.of (s4 _ _ (ml hrl)),fun t4 f4=>?_⟩))⟩)⟩)⟩);have s4:Same (zZ H' ((cl5 (s.heap.objs.size+2)).map (·.2))) H4:=s4;refine⟨p4,t4,[.str "if",.str x],(zg rfl ⟨rfl,SqT.of (old f4 h4),SqT.of uX9,(by intro z;cases z),sN4,(fun e=>by simp at e),fun _ pd fd' hnn=>?_⟩)⟩;have s6:=(s4.new (o:=.tup [u1,u2]) f4).new (o:=.tup ([.str "if",.str x]++[u1,u2])) fd';refine q2 _ _ (yW s6) (IsHc.keep (fun b xs e=>yR hnn e) ?_);exact⟨pd,u1,u2,rfl,uX9,hu1.keep ((z7 hcA).trans (.of s6)),hu2.keep ((z7 hcA).trans (.of s6))⟩
 |give x =>
  have hp:H p=sO (.tup [.str "give",.str x]):=by cases hb with|give a=>exact a
  refine(zg rfl (ixT hp aI0 ⟨rfl,(zg rfl (iteF ?_))⟩));refine(zg rfl (ixT hp aI0 ⟨rfl,(zg rfl (iteF ?_))⟩));refine(zg rfl (ixT hp aI0 ⟨rfl,(zg rfl (iteF ?_))⟩));have hxn:x∈X.ns:=hS.ok;have hmz:=hS.mz;rw[Bd.sz]at hmz;refine(zg rfl ⟨X.pu,X.dx,(zg rfl ⟨hP.o,rfl,(zg rfl (ixT hp aI1 ⟨sN1,fun lx hlx=>?_⟩))⟩)⟩);have s1:=zk (o:=.lst [.str x]) hlx;refine(zg rfl ⟨pl,X.cL,dxl,_,_,rfl,s1 _ _ hpl,L.cl,L.a3,rfl,X.pu,X.dx,X.od,X.bd,lx,ln,[x],r,m,rfl,s1 _ _ hP.o,uX9,s1 _ _ hln,by show m+1<=LIMT;lia,by show 1<=100;decide,fun y hy=>?_,fun H9 t9 ls9 lp9 qs9 k9 o9 ht9 nls nlp hls9 hlp9 hal9=>?_⟩)
  ·rw[uk.mp hy];exact x0.sh _ hxn
  have hP1:=hP.same s1;generalize upd H lx (.lst [.str x])=H1 at *;have hP9:=hP1.cnt k9 o9;have k09:KM X.M H H9:=fun b u n e=>k9 b u (fun z=>n (.inl z)) (s1 _ _ e);have hsl:=yO r [x] m;generalize hSP:spn r [x] m=S at *;obtain⟨st,prs,m2⟩:=S;dsimp only at hsl o9 hls9 hlp9 hal9 hP9
  obtain⟨s0,rfl⟩:∃s0,st=[s0]:=List.length_eq_one_iff.mp hsl.1;refine⟨sN0,fun l16 h16=>?_⟩;have s16:=zk (o:=.lst []) h16;have hP16:=hP9.same s16;have hl16:=uX9 (H:=H9) (a:=l16) (o:=.lst []);generalize upd H9 l16 (.lst [])=H16 at *;refine yP hP16.t5 (by unfold ls5;exact .tail _ (.head _)) (fun p hp _=>by unfold ls5 at hp;simp at hp;rcases hp with rfl|rfl<;>rfl) fun H17 fl cc ct k17 T17 hfl nfT ncT hfl17 hcc=>?_;refine⟨sN2,fun rr hrr=>?_⟩;have k18:KM (·=X.T5) H16 (upd H17 rr (.tup [.ref l16,.ref fl])):=fun b u n e=>old hrr (k17 b u n e);have hP18:=hP16.tb5 x0 k18 (T17.same (zk hrr _));have hr18:=uX9 (H:=H17) (a:=rr) (o:=.tup [.ref l16,.ref fl]);have hf18:=old (o:=.tup [.ref l16,.ref fl]) hrr hfl17;have hc18:=old (o:=.tup [.ref l16,.ref fl]) hrr hcc;generalize upd H17 rr (.tup [.ref l16,.ref fl])=H18 at *;refine⟨[(s.heap.objs.size+3,.ref t9)],fun x hx=>?_,fun H19 pb1=>?_⟩
  ·rw[uk.mp hx]
   exact⟨4,"spending",rfl,rfl,rfl,.inl rfl⟩
  have s19:=Pub.same pb1;have hP19:=hP18.same s19;have k16:KM X.M H16 H19:=fun b u n e=>s19 _ _ (k18 b u (fun z=>n (.inr (.inr (.inl z)))) e);have k9':KM X.M H9 H19:=(KM.of s16).trans k16;have k019:KM X.M H H19:=k09.trans k9';have t919:=hP9.tups k9';have f16:H l16=nO:=k09.free (fun z=>hP9.ne z h16) h16;have fls:H ls9=nO:=s1.free nls;have flp:H lp9=nO:=s1.free nlp;have hls19:=k9' _ _ (hP9.noL hls9) hls9;have hlp19:=k9' _ _ (hP9.noL hlp9) hlp9;have hl1619:=k16 _ _ (hP16.noL hl16) hl16;refine q H19 rr l16 fl [] (fun b=>R b\/b=l16\/b=ls9\/b=lp9) k019 (by rw[midP,hSP];exact hP19) (s19 _ _ hr18) f16 hl1619 (fun _ z=>.inl z) ?_ ?_ (.inr (.inl rfl)) (by rw[kP];exact .nil) ⟨_,s19 _ _ hf18⟩ ?_
  ·rintro b (z|rfl|rfl|rfl)
   ·exact .inl z
   ·exact .inr f16
   ·exact .inr fls
   ·exact .inr flp
  ·rintro b (z|rfl|rfl|rfl)
   ·cases e:H b with
    |none=>exact absurd e (hRd b z)
    |some u=>rw[k019 b u (hRM b z) e];simp
   ·rw[hl1619];simp
   ·rw[hls19];simp
   ·rw[hlp19];simp
  ·intro H' R2 z sub rl rs Q2 hrl hcs q2
   rw[pcP,hSP]at q2;dsimp only at q2
   have g:∀{b:aO}{u:HO},H19 b=sO u->(∀ps,u≠.tbl ps)->(∀C dx fs,u≠.ins C dx fs)->(∀xs,u≠.lst xs)->H' b=sO u:=fun{b u} e n1 n2 n3=>z b u e (hP19.no e n1 fun k=>by unfold PO;exact n2 _ _ _) fun xs y=>absurd y (n3 xs);have tz:Tups H19 H':=fun b xs e=>g e (by intro _ z;cases z) (by intro _ _ _ z;cases z) (by intro _ z;cases z);have C:Clo H' (cl8 (s.heap.objs.size+3)) ["spending"] [.ref t9]:=by
    refine xV (cl:=[("spending",s.heap.objs.size+3)]) (by show(["spending"]:lS).Nodup;decide +kernel) (by simp) rfl fun i p v e1 e2=>?_
    match i,e1,e2 with
    |0,e1,e2 =>
     cases e1;cases e2;obtain⟨o,e⟩:=pb1.cel (_,_) (.head _);exact⟨o,g e (by intro _ z;cases z) (by intro _ _ _ z;cases z) (by intro _ z;cases z)⟩
    |i+1,e1,_=>simp at e1
   have hcA:∀a∈(cl8 (s.heap.objs.size+3)).map (·.2),∃v,Cel H' a v:=fun a ha=>by
    obtain⟨p,hp,rfl⟩:=uq.mp ha;exact C.all p hp
   have tp:=(t919.trans tz).trans (z7 hcA);have ml:∀{b:aO}{xs:List V},H' b=sO (.lst xs)->zZ H' ((cl8 (s.heap.objs.size+3)).map (·.2)) b=sO (.lst xs):=fun e=>zG hcA e (by intro _ _ _ z;cases z);have hlpz:=z _ _ hlp19 (hP19.noL hlp19) (fun _ _=>.inr (.inr (.inr rfl)));have hlsz:=z _ _ hls19 (hP19.noL hls19) (fun _ _=>.inr (.inr (.inl rfl)));refine xU (k:=1) zdc (.all (us1 fun _=>rfl)) (g (s19 _ _ hf18) (by intro _ z;unfold FunO at z;cases z) (by intro _ _ _ z;unfold FunO at z;cases z) (by intro _ z;unfold FunO at z;cases z)) (g (s19 _ _ hc18) (by intro _ z;unfold CodO at z;cases z) (by intro _ _ _ z;unfold CodO at z;cases z) (by intro _ z;unfold CodO at z;cases z)) C fun A2 outer2 s2 hr2=>?_;refine⟨_,cA GW hr2 (jA2 (zp K (jv 1)) (zA (jA2 zz (zU K (zp K (jv 1)))))),?_⟩;refine(zg rfl (ixT (tp _ _ ht9) aI1 (zg rfl (ixT (tp _ _ ht9) aI0 (ixL (ml hlsz) aI0 ⟨sN2,fun tl htl=>?_⟩)))));have sm:=zk (o:=.tup [.str "give",.str s0]) htl;refine⟨lp9,prs,qs9,.give s0,.ref tl,rfl,old htl (ml hlpz),hal9.imp fun _ _ e=>old htl (tp _ _ e),⟨tl,rfl,uX9⟩,fun H3 v3 s3 h3 hnn=>?_⟩;exact q2 _ v3 (yW (sm.trans s3)) (h3.keep fun b xs e=>yR hnn e)
def cl4(c1 c2:aO):List (Str×aO):=[("finish",c1),("drops",c2)]
theorem zdd:LamScope ["results","finish","drops"] ["results"] ["finish","drops"] (lmS jQ):=⟨rfl,rfl,rfl,by decide +kernel,rfl,by decide +kernel,by decide +kernel,by decide +kernel,by decide +kernel⟩
section
variable(P:Program)(w:World)(K:uc)(mg:Str->Option aA)(base:Heap)(X:HX)
inductive spBegPl(vs:List V)(H:Hp)(Q:VK)(e_3:XK):Prop
 |mk (v:V) (t:Pk):(∃R:aO->Prop,vs=[.ref X.pu,v]/\ITk X H R t v/\POk X t.m H/\(∀b,R b->H b≠nO)/\(∀b,R b->¬ X.M b)/\∀(H':Hp)(q l fl:aO)(vs:List V)(R':aO->Prop),KM X.M H H'->POk X (t.mid X.ns X.ow) H'->H' q=sO (.tup [.ref l,.ref fl])->H l=nO->H' l=sO (.lst vs)->(∀b,R b->R' b)->(∀b,R' b->R b\/H b=nO)->(∀b,R' b->H' b≠nO)->R' l->All2 (ITk X H' R') (t.kids X.ns X.ow) vs->Fin P w K mg base 3 X H' R' ((t.kids X.ns X.ow).map (Pk.code X.ns X.ow)) (t.code X.ns X.ow) fl->Q (.ref q) H')->spBegPl vs H Q e_3
end
theorem scBegPlace:FnScope ["putter","place","drops","rest","pair","finish"] lS4 (zt xQ):=.ok
theorem jh:(["putter","place","drops","rest","pair","finish","name"]:lS).Nodup:=by decide +kernel
theorem YE(F:FunC K "begun_place" xQ c f fd)(hB:BMn mg base)(hc:Ua K c X.T4=tV)(x0:XOk X)(N:Pn K X.cP)(L:Ln K X.cL)(GA:Me P w K mg base CX0 1 X.cP "is_ahead" lS19 (spAhd X.cP))(GP:Ca P w K mg base CX0 4 "begun_piece" lS4 (spBeg P w K mg base 2 X fun _=>True))(GL:Ma P w K mg base CX0 1 "Place" X.cL lS6 (spPlInit X.cL))(GD:Ca P w K mg base CX0 1 "with_drops" ["names","body"] spDrops):FnOk P w K mg base CX0 5 f fd lS4 (spBegPl P w K mg base X):=by
 refine F.byR scBegPlace (fun vs H Q E h=>?_) (fun A outer s H vs Q E hr h fresh=>?_)
 ·obtain⟨v,t,R,rfl,_⟩:=h
  rfl
 obtain⟨v,⟨b,l,m⟩,R,rfl,⟨hS,pl,dxl,p,ln,vn,rfl,hpl,hb,hN,hln,hRl⟩,hP,hRd,hRM,q⟩:=h;dsimp only at hS hb hN hln hP
 have hr1:Room 1 _:=hr.mono (by decide);have hr2:Room 2 _:=hr.mono (by decide);refine⟨_,
  (zT (sE 2 scBegPlace.nd (yg ["name"] rfl (zP K (zI K (jv 1))) (fun _ _ _ _ _=>(gN 6 jh)) (fun _ _ _ _ _=>(yt (xE (yv (vN (jv 0) N.cl GA hr1 yI (jA2 (jv 6) (zI K (jv 1)))))))) (fun _ _ _ _ _=>(jv 6))))
  (zT (yu ["name"] (i:=3) scBegPlace.nd rfl (Or.inl rfl) rfl (zP K (zI K (jv 1))) (fun _ _ _ _ _=>(gN 6 jh)) (fun _ _ _ _ _=>(yt (yv (vN (jv 0) N.cl GA hr1 yI (jA2 (jv 6) (zI K (jv 1))))))) (fun _ _ _ _ _=>(jv 6)))
  (zT (sE 4 scBegPlace.nd (cA GP hr (jA2 (jv 0) (vm GL hr2 rfl yI (jA3 (zI K (jv 1)) (zI K (jv 1)) (jv 3))))))
  (zT (sE 5 scBegPlace.nd (zp K (jv 4)))
  (xH (zA (jA2 (zp K (jv 4)) (xh (params:=lmP jQ) (body:=lmB jQ) (scope:=lmS jQ) (pos:=xz jQ) (T:=X.T4) (qual:=zbv) (cl:=cl4 (s.heap.objs.size+4) (s.heap.objs.size+3)) hB rfl hc rfl)))))))),?_⟩
 have sl:=zN;have hll:l.length<=2000000:=uH (UX _ _) hS.nb;have hNt:Nt H (b.mk X.ns) vn:=hN.nt;refine(zg rfl ⟨pl,X.cL,dxl,_,_,rfl,hpl,L.cl,L.a3,rfl,ln,rfl,⟨_,SqL.of hln⟩,yp (xs:=l.map V.str) (fun j τ zs H'=>H=H'/\(∃u,τ=[sO (.ref X.pu),sR pl,nO,nO,nO,nO,u])/\zs=((l.take j).filter fun y=>!ahB X.ns b y).map V.str) ⟨rfl,⟨nO,rfl⟩,rfl⟩ (fun j τ zs H' _ h=>SqL.of (h.1 ▸ hln)) ?_ ?_⟩)
 ·rintro j v τ zs H8 hv ⟨rfl,⟨u,rfl⟩,rfl⟩
  obtain⟨y,hy,rfl⟩:=L2.gM hv;rw[wQ hy];have hfl:(((l.take j).filter fun y=>!ahB X.ns b y).map V.str).length < sizeLine:=by
   rw[ub];refine Ue (uB _ _) ?_;rw[ut];lia
  refine(zg rfl ⟨X.pu,X.dx,(zg rfl ⟨hP.o,rfl,(zq rfl rfl ⟨pl,X.cL,dxl,_,_,rfl,hpl,L.cl,L.a2,rfl,X.pu,X.dx,X.od,X.bd,y,m,b.mk X.ns,vn,X.ns,rfl,hP.o,hP.b,hS.ln y (uw hy),hNt,(zg rfl ?_)⟩)⟩)⟩);show if(!ahB X.ns b y)=tV then _ else _
  cases hah:ahB X.ns b y
  ·exact iteT (zg rfl ⟨hfl,rfl,⟨_,rfl⟩,rfl⟩)
  ·exact iteF ⟨rfl,⟨_,rfl⟩,(uU _).symm⟩
 rintro τ zs H8 ⟨rfl,_,rfl⟩ ld hld;rw[ub,UM];have s1:=zk (o:=.lst ((l.filter fun y=>!ahB X.ns b y).map V.str)) hld;have hld1:=uX9 (H:=H) (a:=ld) (o:=.lst ((l.filter fun y=>!ahB X.ns b y).map V.str));generalize upd H ld (.lst ((l.filter fun y=>!ahB X.ns b y).map V.str))=H1 at *;have hP1:=hP.same s1;refine(zg rfl ⟨pl,X.cL,dxl,_,_,rfl,s1 _ _ hpl,L.cl,L.a3,rfl,ln,rfl,⟨_,SqL.of (s1 _ _ hln)⟩,yp (xs:=l.map V.str) (fun j τ zs H'=>H1=H'/\(∃u,τ=[sO (.ref X.pu),sR pl,sR ld,nO,nO,nO,u])/\zs=((l.take j).filter fun y=>ahB X.ns b y).map V.str) ⟨rfl,⟨nO,rfl⟩,rfl⟩ (fun j τ zs H' _ h=>SqL.of (h.1 ▸ s1 _ _ hln)) ?_ ?_⟩)
 ·rintro j v τ zs H8 hv ⟨rfl,⟨u,rfl⟩,rfl⟩
  obtain⟨y,hy,rfl⟩:=L2.gM hv;rw[wQ hy];have hfl:(((l.take j).filter fun y=>ahB X.ns b y).map V.str).length < sizeLine:=by
   rw[ub];refine Ue (uB _ _) ?_;rw[ut];lia
  refine(zg rfl ⟨X.pu,X.dx,(zg rfl ⟨hP1.o,rfl,(zq rfl rfl ⟨pl,X.cL,dxl,_,_,rfl,s1 _ _ hpl,L.cl,L.a2,rfl,X.pu,X.dx,X.od,X.bd,y,m,b.mk X.ns,vn,X.ns,rfl,hP1.o,hP1.b,hS.ln y (uw hy),hNt.keep (.of s1),(zg rfl ?_)⟩)⟩)⟩);show if(ahB X.ns b y)=tV then _ else _
  cases hah:ahB X.ns b y
  ·exact iteF ⟨rfl,⟨_,rfl⟩,(uU _).symm⟩
  ·exact iteT (zg rfl ⟨hfl,rfl,⟨_,rfl⟩,rfl⟩)
 rintro τ zs H8 ⟨rfl,_,rfl⟩ lr hlr;rw[ub,UM];have s2:=s1.new (o:=.lst ((rO X.ns b l).map V.str)) hlr;have s12:=zk (o:=.lst ((rO X.ns b l).map V.str)) hlr;have flr:H lr=nO:=s1.free hlr;have hlr2:=uX9 (H:=H1) (a:=lr) (o:=.lst ((rO X.ns b l).map V.str));have hld2:=s12 _ _ hld1;have elr:(l.filter fun y=>ahB X.ns b y)=rO X.ns b l:=rfl;rw[elr];generalize upd H1 lr (.lst ((rO X.ns b l).map V.str))=H2 at *;refine(zq rfl rfl ⟨pl,X.cL,dxl,_,_,rfl,s2 _ _ hpl,L.cl,L.a1,rfl,(zg rfl ⟨pl,X.cL,dxl,_,_,rfl,s2 _ _ hpl,L.cl,L.a2,rfl,(zg rfl (fun pk dk hpk hdk npk=>⟨pk,dk,.ref p,vn,.ref lr,rfl,uX9,fun H3 k3 h3=>⟨rfl,?_⟩⟩))⟩)⟩);have s23:Same H2 H3:=fun b u e=>k3 b u (zi e hpk) (by rw[zj (zi e hpk),zj (zi e hdk)];exact e);have s03:=s2.trans s23;have hP3:=hP.same s03;have hlr3:=s23 _ _ hlr2;have hld3:=s23 _ _ hld2;have fl3:=uB (fun y=>ahB X.ns b y) l;rw[elr]at fl3;have nM3:∀b,(R b\/b=lr\/b=ld)->¬ X.M b:=fun b z=>by
  rcases z with z|rfl|rfl
  ·exact hRM b z
  ·exact hP3.noL hlr3
  ·exact hP3.noL hld3
 refine⟨pk,dk,p,lr,vn,b,rO X.ns b l,m,fun b=>R b\/b=lr\/b=ld,rfl,trivial,h3,hb.keep (.of s03),hN.keep ⟨.of s03,fun a xs _ e=>s03 _ _ e,fun _ z=>.inl z⟩,hlr3,.inr (.inl rfl),⟨fun y hy=>hS.ln y (uI.mp hy).1,hS.ok,hS.mz,hS.sz,by have:=hS.nb;lia⟩,hP3,?_,nM3,fun H4 q4 l4 fl4 vs4 R4 k4 hP4 hq4 f4 hl4 sub4 new4 pre4 rl4 hk4 hfl4 fin4=>?_⟩
 ·rintro b (z|rfl|rfl)
  ·cases e:H b with
   |none=>exact absurd e (hRd b z)
   |some u=>rw[s03 b u e];simp
  ·rw[hlr3];simp
  ·rw[hld3];simp
 have nM4:∀b,R4 b->¬ X.M b:=fun b z=>by
  rcases new4 b z with y|y
  ·exact nM3 b y
  ·exact fun y'=>hP3.ne y' y
 have hld4:=k4 _ _ (hP3.noL hld3) hld3;have rld:R4 ld:=sub4 ld (.inr (.inr rfl));refine(zg rfl (ixT hq4 aI1 ?_));refine(zg rfl (ixT hq4 aI0 ?_));refine yP hP4.t4 (by unfold ls4;exact .head _) (fun p hp _=>by unfold ls4 at hp;rw[uk.mp hp]) fun H5 fl cc ct k5 T5 hfl nfT ncT hfl5 hcc=>⟨sN2,fun rr hrr=>?_⟩;have k18:KM (·=X.T4) H4 (upd H5 rr (.tup [.ref l4,.ref fl])):=fun b u n e=>old hrr (k5 b u n e);have hP18:=hP4.tb4 x0 k18 (T5.same (zk hrr _));have hr18:=uX9 (H:=H5) (a:=rr) (o:=.tup [.ref l4,.ref fl]);have hf18:=old (o:=.tup [.ref l4,.ref fl]) hrr hfl5;have hc18:=old (o:=.tup [.ref l4,.ref fl]) hrr hcc;generalize upd H5 rr (.tup [.ref l4,.ref fl])=H18 at *;refine⟨[(s.heap.objs.size+4,.ref fl4),(s.heap.objs.size+3,.ref ld)],fun x hx=>?_,fun H19 pb1=>?_⟩
 ·simp only[uy,Uz,or_false]at hx
  rcases hx with rfl|rfl
  ·exact⟨5,"finish",rfl,rfl,rfl,.inl rfl⟩
  ·exact⟨2,"drops",rfl,rfl,rfl,.inl rfl⟩
 have s19:=Pub.same pb1;have hP19:=hP18.same s19;have k418:KM X.M H4 H18:=fun b u n e=>k18 b u (fun z=>n (.inr (.inl z))) e;have k419:KM X.M H4 H19:=k418.trans (.of s19);have k019:KM X.M H H19:=((KM.of s03).trans k4).trans k419;have hl419:=k419 _ _ (hP4.noL hl4) hl4;have hld19:=k419 _ _ (hP4.noL hld4) hld4;refine q H19 rr l4 fl vs4 R4 k019 hP19 (s19 _ _ hr18) (s03.free f4) hl419 (fun b z=>sub4 b (.inl z)) ?_ ?_ rl4 (hk4.imp fun _ _ h=>⟨h.1,ITp.keep h.2 hP4 (fun b u e n _=>k419 b u n e) fun _ z=>z⟩) ?_
 ·intro b z
  rcases new4 b z with(y|rfl|rfl)|y
  ·exact .inl y
  ·exact .inr flr
  ·exact .inr hld
  ·exact .inr (s03.free y)
 ·intro b z
  cases e:H4 b with
  |none=>exact absurd e (pre4 b z)
  |some u=>rw[k419 b u (nM4 b z) e];simp
 ·intro H' R2 z sub rl rs Q2 hrl hcs q2
  have q2:∀H'' v,Same H' H''->IsHc H'' (wD (dO X.ns b l) (pcP X.ns X.ow b (rO X.ns b l) m)) v->Q2 v H'':=fun H'' v a e=>q2 H'' v a (by show IsHc H'' (GN.hB X.ns X.ow b l m).1 v;rw[zby];exact e);have g:∀{b:aO}{u:HO},H19 b=sO u->(∀ps,u≠.tbl ps)->(∀C dx fs,u≠.ins C dx fs)->(∀xs,u≠.lst xs)->H' b=sO u:=fun{b u} e n1 n2 n3=>z b u e (hP19.no e n1 fun k=>by unfold PO;exact n2 _ _ _) fun xs y=>absurd y (n3 xs);have cel:∀{c:aO}{v:V},Cel H19 c v->Cel H' c v:=fun⟨o,e⟩=>⟨o,g e (by intro _ z;cases z) (by intro _ _ _ z;cases z) (by intro _ z;cases z)⟩;have C:Clo H' (cl4 (s.heap.objs.size+4) (s.heap.objs.size+3)) ["finish","drops"] [.ref fl4,.ref ld]:=by
   refine xV (cl:=[("finish",s.heap.objs.size+4),("drops",s.heap.objs.size+3)]) (by show(["finish","drops"]:lS).Nodup;decide +kernel) (by simp) rfl fun i p v e1 e2=>?_
   match i,e1,e2 with
   |0,e1,e2=>cases e1;cases e2;exact cel (pb1.cel (_,_) (.head _))
   |1,e1,e2=>cases e1;cases e2;exact cel (pb1.cel (_,_) (.tail _ (.head _)))
   |i+2,e1,_=>simp at e1
  have hcA:∀a∈(cl4 (s.heap.objs.size+4) (s.heap.objs.size+3)).map (·.2),∃v,Cel H' a v:=fun a ha=>by
   obtain⟨p,hp,rfl⟩:=uq.mp ha;exact C.all p hp
  have ml:∀{b:aO}{xs:List V},H' b=sO (.lst xs)->zZ H' ((cl4 (s.heap.objs.size+4) (s.heap.objs.size+3)).map (·.2)) b=sO (.lst xs):=fun e=>zG hcA e (by intro _ _ _ z;cases z);have hldz:=z _ _ hld19 (hP19.noL hld19) (fun _ _=>rld);have zm:Kz X.M R4 H4 (zZ H' ((cl4 (s.heap.objs.size+4) (s.heap.objs.size+3)).map (·.2))):=fun a u e n hl=>by
   have e18:=k418 a u n e;rw[zX]
   ·exact z a u (s19 _ _ e18) n hl
   ·intro y
    have:a∈([(s.heap.objs.size+4,V.ref fl4),(s.heap.objs.size+3,V.ref ld)]:List (aO×V)).map (·.1):=y
    obtain⟨x,hx,rfl⟩:=uq.mp this;rw[pb1.non x hx]at e18;cases e18
  refine xU (k:=2) zdd (.all (us1 fun _=>rfl)) (g (s19 _ _ hf18) (by intro _ z;unfold FunO at z;cases z) (by intro _ _ _ z;unfold FunO at z;cases z) (by intro _ z;unfold FunO at z;cases z)) (g (s19 _ _ hc18) (by intro _ z;unfold CodO at z;cases z) (by intro _ _ _ z;unfold CodO at z;cases z) (by intro _ z;unfold CodO at z;cases z)) C fun A2 outer2 s2 hr2=>?_;refine⟨_,zbi GD (hr2.mono (by decide)) rfl yI (jA2 (jv 2) (vQ hr2 (jv 1) yI (jA1 (jv 0)))),?_⟩;refine(zg rfl (wK (f:=fl4) (vs:=[.ref rl]) rfl (fun _ h=>(zg rfl (h))) (fin4 _ R4 zm (fun _ h=>h) rl rs _ (ml hrl) (hcs.imp fun _ _ h=>h.keep (z7 hcA)) fun H6 v6 s6 h6=>?_)));refine⟨ld,dO X.ns b l,pcP X.ns X.ow b (rO X.ns b l) m,v6,rfl,s6 _ _ (ml hldz),h6,fun H7 v7 s7 h7 hnn=>?_⟩;exact q2 _ v7 (yW (s6.trans s7)) (h7.keep fun b xs e=>yR hnn e)
end
theorem CanC.mono{K:uc}{k k':Nat}{vs:List V}{E:XK}(h:CanC P w K mg base k H f vs Q E)(e:k<=k'):CanC P w K mg base k' H f vs Q E:=by obtain⟨fd,ps,sp,F,r⟩:=h;exact⟨fd,ps,sp,F.mono e,r⟩
def KC(H H':Hp):Prop:=∀b u,H b=sO u->(∀o c v,u≠.frz o (CelO c v))->H' b=sO u
theorem KC.tups(k:KC H H'):Tups H H':=fun b xs e=>k _ _ e (by intro _ _ _ z;cases z)
theorem ITp.kc{b:Bd}{l:lS}{v:V}(h:ITp X H R b l v)(k:KC H H'):ITp X H' R b l v:=by
 obtain⟨pl,dxl,p,ln,vn,e,h1,h2,h3,h4,h5⟩:=h;exact⟨pl,dxl,p,ln,vn,e,k _ _ h1 (by intro _ _ _ z;unfold LO at z;cases z),h2.keep k.tups,h3.keep ⟨k.tups,fun a xs _ e=>k _ _ e (by intro _ _ _ z;cases z),fun _ z=>z⟩,k _ _ h4 (by intro _ _ _ z;cases z),h5⟩
theorem POk.kc(h:POk X m H)(k:KC H H'):POk X m H':=by
 have tb:∀{T ls},TbG T ls H->TbG T ls H':=fun{T ls} t=>t.keep (fun ps e=>k _ _ e (by intro _ _ _ z;cases z)) fun c q e=>k _ _ e (by intro _ _ _ z;unfold CodO at z;cases z);refine⟨k _ _ h.o (by intro _ _ _ z;unfold PO at z;cases z),k _ _ h.b (by intro _ _ _ z;cases z),?_,tb h.t4,tb h.t5,tb h.t6,tb h.t7⟩;obtain⟨kv,h1,h2⟩:=h.w;refine⟨kv,k _ _ h1 (by intro _ _ _ z;cases z),fun f hf=>?_⟩;obtain⟨a,g1,g2⟩:=h2 f hf;exact⟨a,g1,k _ _ g2 (by intro _ _ _ z;cases z)⟩
theorem POk.nl(h:POk X m H)(k:∀b u,H b=sO u->(∀xs,u≠.lst xs)->H' b=sO u):POk X m H':=by
 have tb:∀{T ls},TbG T ls H->TbG T ls H':=fun{T ls} t=>t.keep (fun ps e=>k _ _ e (by intro _ z;cases z)) fun c q e=>k _ _ e (by intro _ z;unfold CodO at z;cases z);refine⟨k _ _ h.o (by intro _ z;unfold PO at z;cases z),k _ _ h.b (by intro _ z;cases z),?_,tb h.t4,tb h.t5,tb h.t6,tb h.t7⟩;obtain⟨kv,h1,h2⟩:=h.w;refine⟨kv,k _ _ h1 (by intro _ z;cases z),fun f hf=>?_⟩;obtain⟨a,g1,g2⟩:=h2 f hf;exact⟨a,g1,k _ _ g2 (by intro _ z;cases z)⟩
theorem zbB(ns:lS)(ow:Str->List Bool)(x:Str)(r:lS):∀(as:Arms)(m:Nat),((kA ns ow x r as m).map fun t:Pk=>2*t.b.sz).sum<=2*as.sz
 |.nil,m=>by unfold kA;exact uK _
 |.cons t xs b as,m=>by
  have:=zbB ns ow x r as (hB ns ow b (stA (tkB ns x r b) x r xs) m).2
  rw[kA,uF,Uy,Arms.sz];show 2*b.sz+_<=_;lia
theorem zaM(ns:lS)(ow:Str->List Bool)(t:Pk):((t.kids ns ow).map fun t:Pk=>2*t.b.sz).sum+2<=2*t.b.sz:=by
 obtain⟨b,l,m⟩:=t;unfold Pk.kids;dsimp only
 cases b with
 |give x=>rw[kP,Bd.sz];exact uj _
 |lt x d b=>rw[kP,Bd.sz];simp;lia
 |iff x a b=>rw[kP,Bd.sz];simp;lia
 |case x as =>
  have:=zbB ns ow x (rO ns (.case x as) l) as m
  rw[kP,Bd.sz];lia
def wR:Expr:=match zO wE with
 |[_,_,_,.Assign _ e _,_]=>JT e
 |_=>.Constant .none 0 ⟨0,0,0,0⟩
def Wg:Str:=("held_def":Str)++(".<locals>.":Str)++("<lambda>":Str)
def ls9:List (Pos×Str):=[(xz wR,Wg)]
def cl9(c1:aO):List (Str×aO):=[("putter",c1)]
theorem zde:LamScope ["place","putter"] ["place"] ["putter"] (lmS wR):=⟨rfl,rfl,rfl,by decide +kernel,rfl,by decide +kernel,by decide +kernel,by decide +kernel,by decide +kernel⟩
structure HOk(mg:Str->Option aA)(X:HX)(fl c1 cc:aO)(ct:aA)(m:Nat)(H:Hp):Prop where
 p:POk X m H
 f:H fl=sO (FunO fl (lamC mg Wg (lmP wR) (lmB wR) (lmS wR) (cl9 c1) cc ct))
 c:H cc=sO (CodO cc Wg)
 e:Cel H c1 (.ref X.pu)
section
variable{K:uc}
theorem HOk.keep{m':Nat}(h:HOk mg X fl c1 cc ct m H)(p:POk X m' H')(k:KM X.M H H'):HOk mg X fl c1 cc ct m' H':=by
 obtain⟨o,e⟩:=h.e;exact⟨p,k _ _ (h.p.noF h.f) h.f,k _ _ (h.p.noC h.c) h.c,o,k _ _ (h.p.no e (by intro _ z;cases z) (by intro _ z;unfold PO at z;cases z)) e⟩
def zdf(GP:Ca P w K mg base CX0 5 "begun_place" lS4 (spBegPl P w K mg base X))(fl c1 cc:aO)(ct:aA):WoD P w K mg base 6 where
 Tk:=Pk
 M:=X.M
 fb:=fl
 wt:=fun t=>2*t.b.sz
 kids:=Pk.kids X.ns X.ow
 wk:=zaM X.ns X.ow
 IT:=fun H R=>ITk X H fun b=>R b/\b≠c1
 IR:=fun H _ t v=>IsHc H (t.code X.ns X.ow) v
 IF:=fun H R t v=>∃f,v=.ref f/\Fin P w K mg base 3 X H (fun b=>R b/\b≠c1) ((t.kids X.ns X.ow).map (Pk.code X.ns X.ow)) (t.code X.ns X.ow) f
 S:=Nat
 pre:=Pk.m
 mid:=Pk.mid X.ns X.ow
 post:=Pk.post X.ns X.ow
 chn:=Pk.chn X.ns X.ow
 Ok:=HOk mg X fl c1 cc ct
 itk:=fun h ok z sub=>⟨h.1,ITp.keep h.2 ok.p (fun b u e n l=>z b u e n fun xs y=>(l xs y).1) fun b y=>⟨sub b y.1,y.2⟩⟩
 irk:=fun h ok z _=>h.keep fun b xs e=>z b _ e (ok.p.noT e) (by intro _ z;cases z)
 ifk:=fun⟨f,e,h⟩ _ z sub=>⟨f,e,fun H' R' z' sub'=>h H' R' (fun b u e n l=>z' b u (z b u e n fun xs y=>(l xs y).1) n fun xs y=>⟨sub b (l xs y).1,(l xs y).2⟩) fun b y=>sub' b ⟨sub b y.1,y.2⟩⟩
 okk:=fun{H H' s} ok z=>by
  have g:∀b u,H b=sO u->(∀xs,u≠.lst xs)->H' b=sO u:=fun b u e n=>z b u e fun xs q=>absurd q (n xs);obtain⟨o,e⟩:=ok.e;exact⟨ok.p.nl g,g _ _ ok.f (by intro _ z;unfold FunO at z;cases z),g _ _ ok.c (by intro _ z;unfold CodO at z;cases z),o,g _ _ e (by intro _ z;cases z)⟩
 okM:=fun ok z=>ok.p.ne z
 beg:=fun{H R t v Q} h ok hRd hRM q=>by
  have C:Clo H (cl9 c1) ["putter"] [.ref X.pu]:=by
   refine xV (cl:=[("putter",c1)]) (by show(["putter"]:lS).Nodup;decide +kernel) (by simp) rfl fun i p v e1 e2=>?_
   match i,e1,e2 with
   |0,e1,e2=>cases e1;cases e2;exact ok.e
   |i+1,e1,_=>simp at e1
  have hcA:∀a∈(cl9 c1).map (·.2),∃v,Cel H a v:=fun a ha=>by
   obtain⟨p,hp,rfl⟩:=uq.mp ha;exact C.all p hp
  have kc:KC H (zZ H ((cl9 c1).map (·.2))):=fun b u e n=>zG hcA e n;refine xU (k:=5) zde (.all (us1 fun _=>rfl)) ok.f ok.c C fun A2 outer2 s2 hr2=>?_;refine⟨_,cA GP hr2 (jA2 (jv 1) (jv 0)),?_⟩;have mo:∀{b:aO},b≠c1->b∉(cl9 c1).map (·.2):=fun{b} n z=>n (by unfold cl9 at z;simpa using z);have pm:=ok.p.kc kc;refine(zq rfl rfl ⟨v,t,fun b=>R b/\b≠c1,rfl,⟨h.1,h.2.kc kc⟩,pm,fun b z=>by rw[zX (mo z.2)];exact hRd b z.1,fun b z=>hRM b z.1,fun H' r l f2 vs R' k1 p1 hr hl hl1 sub new pre rl hk hfin hnn=>?_⟩);have hn1:H' c1=nO:=hnn c1 (by unfold cl9;simp);have sp:Same H' (xm H' H ((cl9 c1).map (·.2))):=fun b u e=>yR hnn e;have ne1:∀{b:aO},H' b≠nO->b≠c1:=fun{b} n z=>n (by rw[z];exact hn1);have km:KM X.M H (xm H' H ((cl9 c1).map (·.2))):=fun b u n e=>by
   by_cases z:b∈(cl9 c1).map (·.2)
   ·rw[wA z];exact e
   ·rw[yJ z]
    exact k1 b u n (by rw[zX z];exact e)
  have out:∀{b:aO},H' b≠nO->zZ H ((cl9 c1).map (·.2)) b=nO->H b=nO:=fun{b} n e=>by
   rw[zX (mo (ne1 n))]at e;exact e
  refine q _ r l f2 vs (fun b=>R' b\/R b) km (ok.keep (p1.same sp) km) (sp _ _ hr) (out (by rw[hl1];simp) hl) (sp _ _ hl1) (fun b z=>.inr z) ?_ ?_ (.inl rl) ?_ ⟨f2,rfl,?_⟩
  ·rintro b (z|z)
   ·rcases new b z with y|y
    ·exact .inl y.1
    ·exact .inr (out (pre b z) y)
   ·exact .inl z
  ·rintro b (z|z)
   ·cases e:H' b with
    |none=>exact absurd e (pre b z)
    |some u=>rw[sp b u e];simp
   ·cases e:H b with
    |none=>exact absurd e (hRd b z)
    |some u=>rw[km b u (hRM b z) e];simp
  ·exact hk.imp fun _ _ h=>⟨h.1,ITp.keep h.2 p1 (fun b u e _ _=>sp b u e) fun b z=>⟨.inl z,ne1 (pre b z)⟩⟩
  ·intro H2 R2 z2 sub2
   exact hfin H2 R2 (fun b u e n l=>z2 b u (sp b u e) n fun xs y=>⟨.inl (l xs y),ne1 (by rw[e];simp)⟩) fun b z=>sub2 b ⟨.inl z,ne1 (pre b z)⟩
 fin:=fun{H R t f2 rl rs Q} hh ok hRd hRM hRr hrl hrs q=>by
  obtain⟨f,e,hf⟩:=hh;cases e;refine(hf H (fun b=>R b/\b≠c1) (fun b u e _ _=>e) (fun _ z=>z) rl rs Q hrl (All2.mapl hrs) fun H' v s1 h1=>?_).mono (by decide);refine q H' v R (.of s1) (ok.keep (ok.p.same s1) (.of s1)) (fun _ z=>z) (fun _ z=>.inl z) (fun b z=>?_) h1;cases e:H b with
  |none=>exact absurd e (hRd b z)
  |some u=>rw[s1 b u e];simp
end
structure TT where
 t1:aO
 t2:aO
 t3:aO
 t4:aO
 t5:aO
 t6:aO
 t7:aO
def TT.M(t:TT)(b:aO):Prop:=b=t.t1\/b=t.t2\/b=t.t3\/b=t.t4\/b=t.t5\/b=t.t6\/b=t.t7
structure TT.Ok(t:TT)(H:Hp):Prop where
 n:Tbs t.t1 t.t2 H
 h:TbG t.t3 ls9 H
 a:TbG t.t4 ls4 H
 b:TbG t.t5 ls5 H
 c:TbG t.t6 ls6 H
 d:TbG t.t7 ls7 H
theorem TT.Ok.keep{t:TT}(h:t.Ok H)(k:∀{T ls},TbG T ls H->(T=t.t1\/T=t.t2\/T=t.t3\/T=t.t4\/T=t.t5\/T=t.t6\/T=t.t7)->TbG T ls H'):t.Ok H' :=
 ⟨⟨k h.n.t1 (.inl rfl),k h.n.t2 (.inr (.inl rfl))⟩,k h.h (.inr (.inr (.inl rfl))),k h.a (.inr (.inr (.inr (.inl rfl)))),k h.b (.inr (.inr (.inr (.inr (.inl rfl))))),k h.c (.inr (.inr (.inr (.inr (.inr (.inl rfl)))))),k h.d (.inr (.inr (.inr (.inr (.inr (.inr rfl))))))⟩
theorem TT.Ok.same{t:TT}(h:t.Ok H)(s:Same H H'):t.Ok H':=h.keep fun a _=>a.same s
theorem TT.Ok.no{t:TT}(h:t.Ok H){u:HO}(e:H b=sO u)(n:∀ps,u≠.tbl ps):¬ t.M b:=by
 rintro(z|z|z|z|z|z|z)
 ·exact h.n.t1.no e n z
 ·exact h.n.t2.no e n z
 ·exact h.h.no e n z
 ·exact h.a.no e n z
 ·exact h.b.no e n z
 ·exact h.c.no e n z
 ·exact h.d.no e n z
theorem xc:∀(l acc:lS)(x:Str),x∈once acc l↔x∈acc\/x∈l
 |[],acc,x=>by unfold once;simp
 |y::l,acc,x=>by
  unfold once;rw[xc l];split
  ·rename_i h
   constructor
   ·rintro(a|a)
    ·exact .inl a
    ·exact .inr (.tail _ a)
   ·rintro(a|a)
    ·exact .inl a
    ·rcases uy.mp a with rfl|a
     ·exact .inl h
     ·exact .inr a
  ·simp[or_assoc]
def resR(H:Hp)(R:aO->Prop)(a:aO):Prop:=R a/\∃xs,H a=sO (.lst xs)
mutual
theorem IsN.res{ns:lS}{H:Hp}{R:aO->Prop}:∀{b:Bd}{v:V},IsN ns H R b v->IsN ns H (resR H R) b v
 |.give x,v,⟨q,l,e,a,b,c⟩=>⟨q,l,e,a,⟨b,_,c⟩,c⟩
 |.lt x d b,v,⟨w,⟨q,l,e,a,r,c⟩,h⟩=>⟨w,⟨q,l,e,a,⟨r,_,c⟩,c⟩,IsN.res h⟩
 |.iff x a b,v,⟨w,u,⟨q,l,e,a',r,c⟩,h1,h2⟩=>⟨w,u,⟨q,l,e,a',⟨r,_,c⟩,c⟩,IsN.res h1,IsN.res h2⟩
 |.case x as,v,⟨ws,⟨q,l,e,a,r,c⟩,h⟩=>⟨ws,⟨q,l,e,a,⟨r,_,c⟩,c⟩,IsNA.res h⟩
theorem IsNA.res{ns:lS}{H:Hp}{R:aO->Prop}:∀{as:Arms}{ws:List V},IsNA ns H R as ws->IsNA ns H (resR H R) as ws
 |.nil,ws,h=>h
 |.cons _ _ b r,ws,⟨w,ws',e,g,i⟩=>⟨w,ws',e,IsN.res g,IsNA.res i⟩
end
def nsOf(d:Df):lS:=once [] (d.ns++d.b.binds)
def IsHF(H:Hp)(ow:Str->List Bool)(d:Df)(r:aO):Prop:=∃q1 q2 v,H r=sO (.tup [.str d.z,.ref q1,.ref q2,v])/\H q1=sO (.tup (d.ns.map V.str))/\H q2=sO (.tup ((ow d.z).map V.bl))/\IsHc H (hB (nsOf d) ow d.b (upN d.ns (ow d.z)) 0).1 v
theorem IsHF.keep{r:aO}(h:IsHF H ow d r)(t:Tups H H'):IsHF H' ow d r:=by obtain⟨q1,q2,v,a,b,c,e⟩:=h;exact⟨q1,q2,v,t _ _ a,t _ _ b,t _ _ c,e.keep t⟩
structure DfOk(ow:Str->List Bool)(N:lS)(d:Df):Prop where
 z:d.z∈N
 l:(ow d.z).length=d.ns.length
 n:d.ns.length<=3
 s:d.b.sz<=400000
 a:(nsOf d).length<=1000
 u:(nsOf d).Nodup
 h:∀x∈nsOf d,x.length<=1000
 b:∀X:HX,X.ns=nsOf d->X.ow=ow->X.N=N->OkB X d.b
inductive spHeldDef(t:TT)(vs:List V)(H:Hp)(Q:VK)(e_3:XK):Prop
 |mk (p:aO) (od:aO) (d:Df) (ow:Str->List Bool):(∃N:lS,vs=[.ref p,.ref od]/\IsF H d p/\OwA H od ow N/\DfOk ow N d/\t.Ok H/\∀H' r,KM t.M H H'->t.Ok H'->IsHF H' ow d r->Q (.ref r) H')->spHeldDef t vs H Q e_3
section
variable{K:uc}
theorem scHeldDef:FnScope ["one","owns","putter","params","begin","body"] ["one","owns"] (zt wE):=.ok
theorem j3:(["one","owns","putter","params","begin","body","param","own"]:lS).Nodup:=by decide +kernel
theorem XG{t:TT}(F:FunC K "held_def" wE c f fd)(hB:BMn mg base)(hc:Ua K c t.t3=tV)(nd:[t.t1,t.t2,t.t3,t.t4,t.t5,t.t6,t.t7].Nodup)(N:Pn K cP)(L:Ln K cL)(GPu:Ma P w K mg base CX0 3 "Putter" cP lS26 (spPuInit cP))(GL:Ma P w K mg base CX0 1 "Place" cL lS6 (spPlInit cL))(GNo:Ca P w K mg base CX0 6 "noted" lS18 (spNoted t.t1 t.t2))(GWo:Ca P w K mg base CX0 7 "worked_out" lS27 (spWorked P w K mg base 6))(GP:∀X:HX,XOk X->X.cP=cP->X.cL=cL->X.T4=t.t4->X.T5=t.t5->X.T6=t.t6->X.T7=t.t7->Ca P w K mg base CX0 5 "begun_place" lS4 (spBegPl P w K mg base X))(m_zip:mg "zip"=nO)(m_tuple:mg "tuple"=nO):FnOk P w K mg base CX0 8 f fd ["one","owns"] (spHeldDef t):=by
 refine F.by scHeldDef (fun vs H Q E h=>?_) (fun A outer s H vs Q E hr h=>?_)
 ·obtain⟨p,od,d,ow,N,rfl,_⟩:=h
  rfl
 obtain⟨p,od,d,ow,NN,rfl,hF,hO,hD,hT,q⟩:=h;have hr2:Room 2 _:=hr.mono (by decide);have hr4:Room 4 _:=hr.mono (by decide);have hr6:Room 6 _:=hr.mono (by decide);refine⟨_,
  (zh (sE 2 scHeldDef.nd (vm GPu hr4 rfl yI (jA2 (jv 0) (jv 1))))
  (zh (yu ["param","own"] (i:=3) scHeldDef.nd rfl (Or.inl rfl) rfl (yG K rfl m_zip (jA2 (zp K (jv 0)) (yK hr (jv 1) (zp K (jv 0))))) (fun _ _ _ _ _=>(zK K (n:=2) rfl (zu (gN 6 j3) (zu (gN 7 j3) zJ)))) (fun _ _ _ _ _=>(yt (yv (jv 7)))) (fun _ _ _ _ _=>(jv 6)))
  (zh (sE 4 scHeldDef.nd (vm GL hr2 rfl yI (jA3 (zp K (jv 0)) (cA GNo hr6 (jA2 (zp K (jv 0)) (zI K (jv 2)))) (jv 3))))
  (zh (sE 5 scHeldDef.nd (VZ (E:=E0) GWo hr scHeldDef.nd rfl (fun _=>rfl) (jA2 (jv 4) (xh (params:=lmP wR) (body:=lmB wR) (scope:=lmS wR) (pos:=xz wR) (T:=t.t3) (qual:=Wg) (cl:=cl9 (s.heap.objs.size+1)) hB rfl hc rfl))))
  (zn (zv (zA (jA4 (zp K (jv 0)) (zp K (jv 0)) (zS (zF K) rfl m_tuple uO (jA1 (yK hr (jv 1) (zp K (jv 0))))) (jv 5))))))))),?_⟩
 have sl:=zN;obtain⟨pq,pb,hp,hpq,hpb⟩:=hF.ex;obtain⟨kv,hkv,hN⟩:=id hO;obtain⟨ao,ga,hao⟩:=hN _ hD.z;have hn3:=hD.n;have hol:=hD.l;refine(zq rfl rfl (fun pu dxp hpu hdx npd=>⟨pu,dxp,p,od,d,rfl,uX9,?_,by lia,by have:=hD.s;lia,hD.a,hD.u,fun H1 bd k1 fbd hbd1 hpu1=>⟨rfl,?_⟩⟩))
 ·exact hF.keep fun b xs e=>by rw[zj (zi e hpu),zj (zi e hdx)];exact e
 have s1:Same H H1:=fun b u e=>k1 b u (zi e hpu) (by rw[zj (zi e hpu),zj (zi e hdx)];exact e);have zl:(d.ns.zip (ow d.z)).length=d.ns.length:=by rw[Ub,hol,Nat.min_self]
 refine(zg rfl (ixT (s1 _ _ hp) aI1 (zq rfl rfl (ixT (s1 _ _ hp) aI0 ⟨od,.ref ao,rfl,(show DGet H1 od (kV (.inr d.z)) (sO (.ref ao))from ga ▸ DGet.k (s1 _ _ hkv)),pq,ao,fO,fO,_,_,rfl,SqK.t (s1 _ _ hpq),SqK.t (s1 _ _ hao),xK (xs:=d.ns.map V.str) (ys:=(ow d.z).map V.bl) (by rw[ub,ub];exact hol.symm) (fun j τ zs H'=>Same H1 H'/\(∃u v,τ=[sR p,sR od,sR pu,nO,nO,nO,u,v])/\zs=(((d.ns.zip (ow d.z)).take j).filter (·.2)).map fun p=>V.str p.1) ⟨Same.refl _,⟨nO,nO,rfl⟩,rfl⟩ (fun j τ zs H' _ h=>⟨SqK.t (h.1 _ _ (s1 _ _ hpq)),SqK.t (h.1 _ _ (s1 _ _ hao))⟩) ?_ ?_⟩))))
 ·rintro i v1 v2 T τ zs H3 hv1 hv2 hTT ⟨s3,⟨u,v,rfl⟩,rfl⟩
  rw[uh]at hv1 hv2;obtain⟨y,hy,rfl⟩:=ug.mp hv1;obtain⟨e,he,rfl⟩:=ug.mp hv2;rw[wP (Uc (z:=(y,e)).mpr ⟨hy,he⟩)];refine⟨T,(zg rfl ⟨SqT.of uX9,rfl,_,_,rfl,_,_,rfl,rfl,(zq rfl rfl ?_)⟩)⟩;have hfl:((((d.ns.zip (ow d.z)).take i).filter (·.2)).map fun p=>V.str p.1).length < sizeLine:=by
   rw[ub];refine Ue (uB _ _) ?_;rw[ut];lia
  cases e
  ·exact iteF ⟨s3.new hTT,⟨_,_,rfl⟩,(uU _).symm⟩
  ·exact iteT (zg rfl ⟨hfl,s3.new hTT,⟨_,_,rfl⟩,rfl⟩)
 rintro τ zs H3 ⟨s3,_,rfl⟩ lpar hlpar;rw[ub,uo (by lia)];have epr:((d.ns.zip (ow d.z)).filter (·.2)).map (fun p=>V.str p.1)=(upN d.ns (ow d.z)).map V.str:=by unfold upN;rw[UD];rfl
 rw[epr];have s14:Same H1 (upd H3 lpar (.lst ((upN d.ns (ow d.z)).map V.str))):=s3.new hlpar;have hlp4:=uX9 (H:=H3) (a:=lpar) (o:=.lst ((upN d.ns (ow d.z)).map V.str));generalize upd H3 lpar (.lst ((upN d.ns (ow d.z)).map V.str))=H4 at *;have s04:=s1.trans s14;have hT4:=hT.same s04;refine(zg rfl (ixT (s04 _ _ hp) aI2 (zg rfl (ixT (s04 _ _ hp) aI2 (zg rfl ⟨pu,cP,dxp,_,_,rfl,s14 _ _ hpu1,N.cl,N.a2,rfl,pb,bd,d.b,nsOf d,rfl,hpb.keep (.of s04),hD.s,s14 _ _ hbd1,hT4.n,fun H5 vn R5 k5 n5 hN5=>(zg rfl (fun pk dk hpk hdk npk=>⟨pk,dk,.ref pb,vn,.ref lpar,rfl,uX9,fun H6 k6 h6=>⟨rfl,?_⟩⟩))⟩)))));have k5':KM t.M H4 H5:=fun b u n e=>k5 b u (fun z=>n (z.imp_right .inl)) e;have s56:Same H5 H6:=fun b u e=>k6 b u (zi e hpk) (by rw[zj (zi e hpk),zj (zi e hdk)];exact e);have nm:[t.t1,t.t2,t.t3,t.t4,t.t5,t.t6,t.t7].Nodup:=nd;simp at nm
 obtain⟨⟨n12,n13,n14,n15,n16,n17⟩,⟨n23,n24,n25,n26,n27⟩,⟨n34,n35,n36,n37⟩,⟨n45,n46,n47⟩,⟨n56,n57⟩,n67⟩:=nm;have k56:KM t.M H4 H6:=k5'.trans (.of s56);have kp5:∀{b:aO}{u:HO},H4 b=sO u->(∀ps,u≠.tbl ps)->H6 b=sO u:=fun{b u} e n=>k56 b u (hT4.no e n) e;have tb5:∀{T ls},TbG T ls H4->T≠t.t1->T≠t.t2->TbG T ls H5:=fun{T ls} a m1 m2=>a.keep (fun ps e=>k5 _ _ (fun z=>z.elim m1 m2) e) fun c q e=>k5' _ _ (hT4.no e (by intro _ z;unfold CodO at z;cases z)) e;have hT6:t.Ok H6:=⟨n5.same s56,(tb5 hT4.h (fun z=>n13 z.symm) (fun z=>n23 z.symm)).same s56,(tb5 hT4.a (fun z=>n14 z.symm) (fun z=>n24 z.symm)).same s56,(tb5 hT4.b (fun z=>n15 z.symm) (fun z=>n25 z.symm)).same s56,(tb5 hT4.c (fun z=>n16 z.symm) (fun z=>n26 z.symm)).same s56,(tb5 hT4.d (fun z=>n17 z.symm) (fun z=>n27 z.symm)).same s56⟩;have t06:Tups H H6:=fun b xs e=>kp5 (s04 _ _ e) (by intro _ z;cases z);have hP6:POk ⟨cP,cL,pu,dxp,od,bd,t.t4,t.t5,t.t6,t.t7,nsOf d,ow,NN⟩ 0 H6:=⟨kp5 (s14 _ _ hpu1) (by intro _ z;unfold PO at z;cases z),kp5 (s14 _ _ hbd1) (by intro _ z;cases z),hO.keep fun b u e n1 _ _=>kp5 (s04 _ _ e) n1,hT6.a,hT6.b,hT6.c,hT6.d⟩;have hlp6:=kp5 hlp4 (by intro _ z;cases z);have hN6:=(IsN.res hN5).keep (R':=resR H5 R5) ⟨.of s56,fun a xs _ e=>s56 _ _ e,fun _ z=>z⟩;generalize hX:(⟨cP,cL,pu,dxp,od,bd,t.t4,t.t5,t.t6,t.t7,nsOf d,ow,NN⟩:HX)=X at *;have xok:XOk X:=by
  subst hX;exact⟨by simp[n45,n46,n47,n56,n57,n67],hD.h⟩
 have GP':=GP X xok (by rw[<- hX]) (by rw[<- hX]) (by rw[<- hX]) (by rw[<- hX]) (by rw[<- hX]) (by rw[<- hX]);refine(zg rfl (yP hT6.h (by unfold GN.ls9;exact .head _) (fun p hp _=>by unfold GN.ls9 at hp;rw[uk.mp hp]) fun H7 fl cc ct k7 T7 hfl nfT ncT hfl7 hcc=>?_));refine⟨[(s.heap.objs.size+1,.ref pu)],fun x hx=>?_,fun H8 pb8=>?_⟩
 ·rw[uk.mp hx]
  exact⟨2,"putter",rfl,rfl,rfl,.inl rfl⟩
 have e4:X.T4=t.t4:=by rw[<- hX]
 have e5:X.T5=t.t5:=by rw[<- hX]
 have e6:X.T6=t.t6:=by rw[<- hX]
 have e7:X.T7=t.t7:=by rw[<- hX]
 have epu:X.pu=pu:=by rw[<- hX]
 have ecL:X.cL=cL:=by rw[<- hX]
 have ens:X.ns=nsOf d:=by rw[<- hX]
 have eow:X.ow=ow:=by rw[<- hX]
 have s78:=Pub.same pb8;have hP7:POk X 0 H7:=⟨k7 _ _ (hT6.h.no hP6.o (by intro _ z;unfold PO at z;cases z)) hP6.o,k7 _ _ (hT6.h.no hP6.b (by intro _ z;cases z)) hP6.b,hP6.w.keep fun b u e n1 _ _=>k7 b u (hT6.h.no e n1) e,yx hP6.t4 k7 (by rw[e4];exact fun z=>n34 z.symm) hT6.h,yx hP6.t5 k7 (by rw[e5];exact fun z=>n35 z.symm) hT6.h,yx hP6.t6 k7 (by rw[e6];exact fun z=>n36 z.symm) hT6.h,yx hP6.t7 k7 (by rw[e7];exact fun z=>n37 z.symm) hT6.h⟩;have hP8:=hP7.same s78;have ok8:HOk mg X fl (s.heap.objs.size+1) cc ct 0 H8:=⟨hP8,s78 _ _ hfl7,s78 _ _ hcc,by rw[epu];exact pb8.cel (_,_) (.head _)⟩;have kp7:∀{b:aO}{u:HO},H6 b=sO u->(∀ps,u≠.tbl ps)->H8 b=sO u:=fun{b u} e n=>s78 _ _ (k7 b u (hT6.h.no e n) e);have t68:Tups H6 H8:=fun b xs e=>kp7 e (by intro _ z;cases z);have hlp8:=kp7 hlp6 (by intro _ z;cases z);have notc:∀{b:aO}{xs:List V},H8 b=sO (.lst xs)->b≠s.heap.objs.size+1:=fun{b xs} e z=>by
  obtain⟨o,e2⟩:=pb8.cel (s.heap.objs.size+1,.ref pu) (.head _);rw[z]at e;rw[show H8 (s.heap.objs.size+1)=_ from e2]at e;cases e
 have hRl:∀b,resR H5 R5 b\/b=lpar->∃xs,H8 b=sO (.lst xs):=fun b z=>by
  rcases z with⟨_,xs,e⟩|rfl
  ·exact⟨xs,kp7 (s56 _ _ e) (by intro _ z;cases z)⟩
  ·exact⟨_,hlp8⟩
 have hbl:=Bd.binds_len d.b;have hsz:=hD.s;have hul:=We d.ns (ow d.z);refine⟨zdf GP' fl (s.heap.objs.size+1) cc ct,.ref pk,⟨d.b,upN d.ns (ow d.z),0⟩,fun b=>resR H5 R5 b\/b=lpar,rfl,⟨⟨fun y hy=>?_,hD.b X ens eow (by rw[<- hX]),?_,hD.s,?_⟩,pk,dk,pb,lpar,vn,rfl,?_,hpb.keep (t06.trans t68),?_,hlp8,.inr rfl,notc hlp8⟩,ok8,fun b z=>?_,fun b z=>?_,?_,.inl ⟨⟨_,ok8.f⟩,hP8.noF ok8.f⟩,fun H9 v9 R9 k9 ok9 _ hv9 hcel=>?_⟩
 ·rw[ens]
  unfold upN at hy;obtain⟨z,hz,rfl⟩:=uq.mp hy;unfold nsOf;rw[xc];exact .inr (uz _ (Uv (uI.mp hz).1).1)
 ·show 0+41*d.b.sz<=LIMT
  unfold LIMT;lia
 ·show(upN d.ns (ow d.z)).length+d.b.binds.length<=2000000
  lia
 ·rw[ecL]
  exact kp7 h6 (by intro _ z;unfold LO at z;cases z)
 ·rw[ens]
  exact hN6.keep ⟨t68,fun a xs _ e=>kp7 e (by intro _ z;cases z),fun a z=>⟨.inl z,let ⟨xs,e⟩:=hRl a (.inl z);notc e⟩⟩
 ·obtain⟨xs,e⟩:=hRl b z
  rw[e];simp
 ·obtain⟨xs,e⟩:=hRl b z
  exact hP8.noL e
 ·show 2*d.b.sz<=10000000
  lia
 have hcA:∀a∈([(s.heap.objs.size+1,V.ref pu)]:List (aO×V)).map (·.1),∃v,Cel H9 a v:=fun a ha=>by
  obtain⟨x,hx,rfl⟩:=uq.mp ha;exact⟨_,hcel x hx⟩
 have hv:IsHc H9 (GN.hB (nsOf d) ow d.b (upN d.ns (ow d.z)) 0).1 v9:=by
  rw[<- ens,<- eow];rw[<- eow]at hv9;exact hv9
 have kb:∀{b:aO}{u:HO},H7 b=sO u->¬ X.M b->zZ H9 (([(s.heap.objs.size+1,V.ref pu)]:List (aO×V)).map (·.1)) b=sO u:=fun{b u} e n=>by
  rw[zX]
  ·exact k9 b u n (s78 _ _ e)
  ·intro z
   obtain⟨x,hx,rfl⟩:=uq.mp z;rw[pb8.non x hx]at e;cases e
 have k010:KM t.M H (zZ H9 (([(s.heap.objs.size+1,V.ref pu)]:List (aO×V)).map (·.1))):=fun b u n e=>by
  refine kb (k7 b u (fun z=>n (.inr (.inr (.inl z)))) (k56 b u n (s04 _ _ e))) ?_;rintro(z|z|z|z|z)
  ·rw[z,epu,hpu]at e;cases e
  ·exact n (.inr (.inr (.inr (.inl (z.trans e4)))))
  ·exact n (.inr (.inr (.inr (.inr (.inl (z.trans e5))))))
  ·exact n (.inr (.inr (.inr (.inr (.inr (.inl (z.trans e6)))))))
  ·exact n (.inr (.inr (.inr (.inr (.inr (.inr (z.trans e7)))))))
 have t010:Tups H (zZ H9 (([(s.heap.objs.size+1,V.ref pu)]:List (aO×V)).map (·.1))):=fun b xs e=>k010 b _ (hT.no e (by intro _ z;cases z)) e;have nX:∀{T ls},TbG T ls H7->T≠t.t4->T≠t.t5->T≠t.t6->T≠t.t7->¬ X.M T:=fun{T ls} a m4 m5 m6 m7=>by
  rintro(z|z|z|z|z)
  ·obtain⟨ps,h,_⟩:=a
   rw[z,hP7.o]at h;unfold PO at h;cases h
  ·exact m4 (z.trans e4)
  ·exact m5 (z.trans e5)
  ·exact m6 (z.trans e6)
  ·exact m7 (z.trans e7)
 have up:∀{T ls},TbG T ls H7->¬ X.M T->TbG T ls (zZ H9 (([(s.heap.objs.size+1,V.ref pu)]:List (aO×V)).map (·.1))):=fun{T ls} a n=>a.keep (fun ps e=>kb e n) fun c q e=>kb e (hP7.noC e);have dn:∀{T ls},TbG T ls H9->TbG T ls (zZ H9 (([(s.heap.objs.size+1,V.ref pu)]:List (aO×V)).map (·.1))):=fun{T ls} a=>a.keep (fun ps e=>zG hcA e (by intro _ _ _ z;cases z)) fun c q e=>zG hcA e (by intro _ _ _ z;unfold CodO at z;cases z);have g1:=yx hT6.n.t1 k7 n13 hT6.h;have g2:=yx hT6.n.t2 k7 n23 hT6.h;have ok10:t.Ok (zZ H9 (([(s.heap.objs.size+1,V.ref pu)]:List (aO×V)).map (·.1))):=⟨⟨up g1 (nX g1 n14 n15 n16 n17),up g2 (nX g2 n24 n25 n26 n27)⟩,up T7 (nX T7 n34 n35 n36 n37),by rw[<- e4];exact dn ok9.p.t4,by rw[<- e5];exact dn ok9.p.t5,by rw[<- e6];exact dn ok9.p.t6,by rw[<- e7];exact dn ok9.p.t7⟩;have hv10:=hv.keep (z7 hcA);have hkv10:=k010 _ _ (hT.no hkv (by intro _ z;cases z)) hkv;generalize zZ H9 (([(s.heap.objs.size+1,V.ref pu)]:List (aO×V)).map (·.1))=H10 at *;refine(zg rfl (ixT (t010 _ _ hp) aI0 (zg rfl (ixT (t010 _ _ hp) aI1 (zq rfl rfl (ixT (t010 _ _ hp) aI0 ⟨od,.ref ao,rfl,(show DGet H10 od (kV (.inr d.z)) (sO (.ref ao))from ga ▸ DGet.k hkv10),ao,(zg rfl (.inr ⟨SqT.of (t010 _ _ hao),(zg rfl ⟨sN4,fun r hr=>?_⟩)⟩))⟩))))));have sn:=zk (o:=.tup [.str d.z,.ref pq,.ref ao,v9]) hr;exact q _ r (k010.trans (.of sn)) (ok10.same sn) ⟨pq,ao,v9,uX9,sn _ _ (t010 _ _ hpq),sn _ _ (t010 _ _ hao),hv10.keep (.of sn)⟩
inductive spHeld(t:TT)(vs:List V)(H:Hp)(Q:VK)(e_3:XK):Prop
 |mk (pp:aO) (pd:aO) (od:aO) (v0:V) (ps:List aO) (dfs:List Df) (ow:Str->List Bool):(∃N:lS,vs=[.ref pp,.ref od]/\H pp=sO (.tup [v0,.ref pd])/\H pd=sO (.tup (ps.map V.ref))/\IsFs H dfs ps/\dfs.length<=1000/\OwA H od ow N/\(∀d∈dfs,DfOk ow N d)/\t.Ok H/\∀H' r q rs,KM t.M H H'->t.Ok H'->H' r=sO (.tup [v0,.ref q])->H' q=sO (.tup (rs.map V.ref))->All2 (IsHF H' ow) dfs rs->Q (.ref r) H')->spHeld t vs H Q e_3
theorem zdg:FnScope lS29 lS29 (zt Jg):=.ok
theorem zdh:(["program","owns","one"]:lS).Nodup:=by decide +kernel
theorem zaN{t:TT}(F:Fun K "held" "held" Jg f fd)(GD:Ca P w K mg base CX0 8 "held_def" ["one","owns"] (spHeldDef t))(m_tuple:mg "tuple"=nO):FnOk P w K mg base CX0 9 f fd lS29 (spHeld t):=by
 refine F.by zdg (fun vs H Q E h=>?_) (fun cdv A outer s H vs Q E hr h=>?_)
 ·obtain⟨pp,pd,od,v0,ps,dfs,ow,N,rfl,_⟩:=h
  rfl
 obtain⟨pp,pd,od,v0,ps,dfs,ow,N,rfl,hp,hpd,hFs,hlen,hO,hD,hT,q⟩:=h;refine⟨_,(zn (zv (zA (jA2 (zp K (jv 0)) (zS (zF K) rfl m_tuple uO (jA1 (yg ["one"] rfl (yF K (zp K (jv 0))) (fun _ _ _ _ _=>(gN 2 zdh)) (fun _ _ _ _ _=>zW) (fun _ _ _ _ _=>(cA GD hr (jA2 (jv 2) (jv 1))))))))))),?_⟩;have sl:=zN;have fl:=hFs.len;have tk:∀{H':Hp},KM t.M H H'->Tups H H':=fun k b xs e=>k _ _ (hT.no e (by intro _ z;cases z)) e;refine(zg rfl (ixT hp aI0 (zg rfl (ixT hp aI1 ⟨pd,rfl,⟨_,SqT.of hpd⟩,vO (xs:=ps.map V.ref) (fun j τ zs H'=>KM t.M H H'/\t.Ok H'/\(∃u,τ=[sR pp,sR od,u])/\∃rs:List aO,zs=rs.map V.ref/\All2 (IsHF H' ow) (dfs.take j) rs) ⟨KM.refl,hT,⟨nO,rfl⟩,[],rfl,.nil⟩ (fun j τ zs H' _ h=>SqT.of (tk h.1 _ _ hpd)) ?_ ?_⟩))))
 ·rintro j v τ zs H1 hv ⟨k1,T1,⟨u,rfl⟩,rs,rfl,hrs⟩
  obtain⟨p0,hp0,rfl⟩:=L2.gM hv;obtain⟨d,hd,hF⟩:=hFs.get hp0;have rl:=hrs.len;rw[ut]at rl;refine(zq rfl rfl ⟨p0,od,d,ow,N,rfl,hF.keep (tk k1),hO.keep fun b u e n1 _ _=>k1 b u (hT.no e n1) e,hD d (uw hd),T1,fun H2 r k2 T2 h2=>⟨by rw[ub];lia,k1.trans k2,T2,⟨_,rfl⟩,rs++[r],by simp,?_⟩⟩);rw[uD,hd];exact All2.app (hrs.imp fun _ _ h=>h.keep fun b xs e=>k2 _ _ (T1.no e (by intro _ z;cases z)) e) (.cons h2 .nil)
 ·rintro τ zs H1 ⟨k1,T1,_,rs,rfl,hrs⟩ l hl
  rw[ub,uo (by lia)]at hrs;refine⟨l,(zg rfl (.inl ⟨SqL.of uX9,fun q2 hq2=>⟨sN2,fun r hr=>?_⟩⟩))⟩;have s1:Same H1 _:=(zk (o:=.lst (rs.map V.ref)) hl).new (o:=.tup (rs.map V.ref)) hq2;have s2:=s1.new (o:=.tup [v0,.ref q2]) hr;exact q _ r q2 rs (k1.trans (.of s2)) (T1.same s2) uX9 (old hr uX9) (hrs.imp fun _ _ h=>h.keep (.of s2))
theorem JV:∀{m:Nat},m≠0->∃i,m.testBit i=tV:=fun{m} h=>by
 by_cases c:∃i,m.testBit i=tV
 ·exact c
 ·exact absurd (Nat.eq_of_testBit_eq fun i=>by
   rw[tK];cases e:m.testBit i
   ·rfl
   ·exact absurd ⟨i,e⟩ c) h
theorem w9(nd:ns.Nodup){b:Bd}(hx:x∈ns):ahB ns b x=tV↔b.fr x:=by
 unfold ahB;rw[bne_iff_ne]
 constructor
 ·intro h
  obtain⟨i,hi⟩:=JV h;rw[Nat.testBit_and,uS,wJ nd,dA]at hi;obtain⟨y,h1,h2⟩:=(Bd.mk_bit nd i b).mp hi.1;rw[hi.2]at h1;cases h1;exact h2
 ·intro h e
  obtain⟨i,hi,e2⟩:=List.getElem_of_mem hx;have g:ns[i]?=sO x:=by rw[ui hi,e2]
  have:(b.mk ns &&& bitN ns x).testBit i=tV:=by
   rw[Nat.testBit_and,uS,wJ nd,dA];exact⟨(Bd.mk_bit nd i b).mpr ⟨x,g,h⟩,g⟩
  rw[e,tK]at this;cases this
def less:lS->lS->Option (lS)
 |l,[]=>sO l
 |l,x::xs=>if x∈l then less (l.erase x) xs else nO
def spr(fr:lS):lS->lS->Nat->lS×List (Str×Str)×Nat
 |_,[],m=>([],[],m)
 |st,x::r,m=>if x∈fr/\x∉st then(x::(spr fr (st++[x]) r m).1,(spr fr (st++[x]) r m).2)else(nnm x (m+1)::(spr fr (st++[nnm x (m+1)]) r (m+1)).1,(nnm x (m+1),x)::(spr fr (st++[nnm x (m+1)]) r (m+1)).2.1,(spr fr (st++[nnm x (m+1)]) r (m+1)).2.2)
theorem ZD(fr:lS):∀(xs st:lS)(ps:List (Str×Str))(m:Nat),xs.foldl (spS fr) (st,ps,m)=(st++(spr fr st xs m).1,ps++(spr fr st xs m).2.1,(spr fr st xs m).2.2)
 |[],st,ps,m=>by unfold spr;simp
 |x::xs,st,ps,m=>by
  rw[UJ,spr];by_cases c:x∈fr/\x∉st
  ·rw[show spS fr (st,ps,m) x=(st++[x],ps,m)from iP c,iP c,ZD fr xs]
   simp
  ·rw[show spS fr (st,ps,m) x=(st++[nnm x (m+1)],ps++[(nnm x (m+1),x)],m+1)from iN c,iN c,ZD fr xs]
   simp
theorem wS(fr xs:lS)(m:Nat):spn fr xs m=spr fr [] xs m:=by
 unfold spn;rw[ZD];simp
theorem ji{fr:lS}:∀(xs st L:lS)(m:Nat),L.Nodup->(∀y∈fr,y∉st->y∈L)->(∀z k,nnm z k∉L)->less (L++(spr fr st xs m).2.1.map (·.1)) (spr fr st xs m).1=sO (L.filter fun y=>decide (y∉(spr fr st xs m).1))
 |[],st,L,m,nd,hf,hd=>by
  unfold spr less;rw[tG,uU]
  congr 1
  exact(List.filter_eq_self.mpr fun y _=>by simp).symm
 |x::xs,st,L,m,nd,hf,hd=>by
  unfold spr;split
  ·rename_i c
   have hx:x∈L:=hf x c.1 c.2;have ih:=ji xs (st++[x]) (L.erase x) m (nd.erase x) (fun y hy hn=>(List.Nodup.mem_erase_iff nd).mpr ⟨fun e=>hn (by rw[e];simp),hf y hy fun z=>hn (uz _ z)⟩) fun z k hm=>hd z k (List.mem_of_mem_erase hm);dsimp only
   unfold less;rw[iP (uz _ hx),List.erase_append_left _ hx,ih,nd.erase_eq_filter,List.filter_filter]
   congr 1
   refine U1 fun y _=>?_;have e:(y != x)=!decide (y=x):=by rw[UP];simp
   rw[e];simp[Bool.and_comm]
  ·dsimp only
   have ih:=ji xs (st++[nnm x (m+1)]) L (m+1) nd (fun y hy hn=>hf y hy fun z=>hn (uz _ z)) hd;unfold less;rw[uF,iP (uv _ (Uk)),List.erase_append_right _ (hd _ _),List.erase_cons_head,ih]
   congr 1
   refine U1 fun y hy=>?_
   have:y≠nnm x (m+1):=fun e=>hd x (m+1) (e ▸ hy)
   simp[this]
theorem ZE{fr:lS}:∀(xs st:lS)(m:Nat)(y:Str),y∈(spr fr st xs m).1->y∈fr\/∃z k,y=nnm z k
 |[],st,m,y,h=>by unfold spr at h;cases h
 |x::xs,st,m,y,h=>by
  unfold spr at h;split at h
  ·rename_i c
   rcases uy.mp h with rfl|h
   ·exact .inl c.1
   ·exact ZE xs _ m y h
  ·rcases uy.mp h with rfl|h
   ·exact .inr ⟨_,_,rfl⟩
   ·exact ZE xs _ (m+1) y h
theorem vc{fr:lS}:∀(xs st:lS)(m:Nat)(p:Str×Str),p∈(spr fr st xs m).2.1->p.2∈xs/\∃k,p.1=nnm p.2 k
 |[],st,m,p,h=>by unfold spr at h;cases h
 |x::xs,st,m,p,h=>by
  unfold spr at h;split at h
  ·obtain⟨a,b⟩:=vc xs _ m p h
   exact⟨.tail _ a,b⟩
  ·rcases uy.mp h with rfl|h
   ·exact⟨.head _,_,rfl⟩
   ·obtain⟨a,b⟩:=vc xs _ (m+1) p h
    exact⟨.tail _ a,b⟩
def rpr:lS->List Bool->lS->lS
 |x::xs,e::es,st=>if e then st.headD "" :: rpr xs es st.tail else x::rpr xs es st
 |_,_,_=>[]
theorem ZG(st:lS):∀(xs:lS)(es:List Bool)(acc:lS)(k:Nat),((xs.zip es).foldl (rpS st) (acc,k)).1=acc++rpr xs es (st.drop k)
 |[],es,acc,k=>by unfold rpr;simp
 |x::xs,[],acc,k=>by unfold rpr;simp
 |x::xs,e::es,acc,k=>by
  rw[List.zip_cons_cons,UJ,rpr];cases e
  ·rw[show rpS st (acc,k) (x,fO)=(acc++[x],k)from rfl,ZG st xs es]
   simp
  ·rw[show rpS st (acc,k) (x,tV)=(acc++[st.getD k ""],k+1)from rfl,ZG st xs es,iP rfl,List.tail_drop]
   have:st.getD k ""=(st.drop k).headD "":=by rw[u6,List.headD_eq_head?_getD,List.head?_drop]
   rw[this];simp
theorem Wh(xs:lS)(es:List Bool)(st:lS):rpl xs es st=rpr xs es st:=by
 unfold rpl;rw[ZG];simp
theorem xf(x:Str)(xs:lS)(e:Bool)(es:List Bool):upN (x::xs) (e::es)=if e then x::upN xs es else upN xs es:=by
 unfold upN;cases e<;>simp
theorem xM(x:Str)(xs:lS)(e:Bool)(es:List Bool):ltN (x::xs) (e::es)=if e then ltN xs es else x::ltN xs es:=by
 unfold ltN;cases e<;>simp
theorem ZH:∀(xs:lS)(es:List Bool)(st:lS),xs.length=es.length->st.length=(upN xs es).length->upN (rpr xs es st) es=st
 |[],[],st,_,h=>by
  unfold rpr upN at *;simp at h
  rw[h]
  rfl
 |x::xs,e::es,st,hl,h=>by
  rw[rpr];rw[xf]at h;simp at hl
  cases e
  ·rw[iN (by decide),xf,iN (by decide)]
   rw[iN (by decide)]at h;exact ZH xs es st hl h
  ·rw[iP rfl,xf,iP rfl]
   rw[iP rfl]at h;cases st with
   |nil=>simp at h
   |cons s st =>
    rw[List.tail_cons,ZH xs es st hl (by simpa using h)]
    rfl
theorem ZI:∀(xs:lS)(es:List Bool)(st:lS),xs.length=es.length->ltN (rpr xs es st) es=ltN xs es
 |[],[],st,_=>by unfold rpr;rfl
 |x::xs,e::es,st,hl=>by
  rw[rpr,xM];simp at hl
  cases e
  ·rw[iN (by decide),xM,iN (by decide),iN (by decide),ZI xs es st hl]
  ·rw[iP rfl,xM,iP rfl,iP rfl,ZI xs es st.tail hl]
theorem ZJ:∀(xs st:lS),st.length=xs.length->rpr xs (xs.map fun _=>tV) st=st
 |[],st,h=>by
  unfold rpr;simp at h
  rw[h]
 |x::xs,st,h=>by
  cases st with
  |nil=>simp at h
  |cons s st =>
   rw[uF,rpr,iP rfl,List.tail_cons,ZJ xs st (by simpa using h)]
   rfl
theorem ZK:∀xs:lS,upN xs (xs.map fun _=>tV)=xs
 |[]=>rfl
 |x::xs=>by rw[uF,xf,iP rfl,ZK xs]
def ups(ow:Str->List Bool):De->lS
 |.app w f xs=>if w="ask"then f::xs else if w="call"then upN xs (ow f)else xs
 |_=>[]
def yT(ow:Str->List Bool):De->lS
 |.op _ a b=>[a,b]
 |.app w f xs=>if w="call"then ltN xs (ow f)else[]
 |_=>[]
theorem zdi{d:De}{st:lS}(hc:CaD N ow d)(h:st.length=(upN d.uses (ends ow d)).length):ups ow (hdD ow d st)=st/\∀y∈yT ow (hdD ow d st),y∈ltN d.uses (ends ow d):=by
 unfold hdD;rw[Wh];cases d with
 |num i =>
  have:st=[]:=Ug.mp h
  exact⟨this.symm,fun y hy=>by cases hy⟩
 |op w a b =>
  have e:st=[]:=Ug.mp h;exact⟨e.symm,fun y hy=>hy⟩
 |app w f xs =>
  by_cases e:w="ask"
  ·subst e
   have ee:ends ow (.app "ask" f xs)=(f::xs).map fun _=>tV:=by
    rw[<- yy (f:=f) (xs:=xs)];exact iN (t:=ow f) (show ¬ (("ask":Str)="call") by decide)
   rw[ee,yy,ZK]at h;rw[ee,yy,ZJ _ _ h];cases st with
   |nil=>simp at h
   |cons s st =>
    rw[JN];refine⟨by unfold ups;exact iP rfl,fun y hy=>?_⟩
    have:yT ow (.app "ask" s st)=[]:=by unfold yT;exact iN (by decide)
    rw[this]at hy;cases hy
  ·rw[ZA e]
   rw[yi e]at h ⊢;by_cases e2:w="call"
   ·subst e2
    have ee:ends ow (.app "call" f xs)=ow f:=by unfold ends;exact iP rfl
    have hl:=(hc rfl).2;rw[ee]at h ⊢;have u:ups ow (.app "call" f (rpr xs (ow f) st))=upN (rpr xs (ow f) st) (ow f):=by
     show(if("call":Str)="ask"then f::rpr xs (ow f) st else if("call":Str)="call"then upN (rpr xs (ow f) st) (ow f)else rpr xs (ow f) st)=_;rw[iN (show ¬ (("call":Str)="ask") by decide),iP rfl]
    have l:yT ow (.app "call" f (rpr xs (ow f) st))=ltN (rpr xs (ow f) st) (ow f):=by unfold yT;exact iP rfl
    rw[u,l,ZH xs (ow f) st hl.symm h,ZI xs (ow f) st hl.symm];exact⟨rfl,fun y hy=>hy⟩
   ·have ee:ends ow (.app w f xs)=xs.map fun _=>tV:=by
     rw[show ends ow (.app w f xs)=(De.uses (.app w f xs)).map fun _=>tV from iN e2,yi e]
    rw[ee,ZK]at h;rw[ee,ZJ _ _ h];refine⟨?_,fun y hy=>?_⟩
    ·show(if w="ask"then f::st else if w="call"then upN st (ow f)else st)=st
     rw[iN e,iN e2]
    ·have:yT ow (.app w f st)=[]:=iN e2
     rw[this]at hy;cases hy
mutual
def wk(ow:Str->List Bool)(lent:lS):Hc->lS->Bool
 |.give x,l=>decide (l=[x])
 |.drop x b,l=>match less l [x]with
  |none=>fO
  |some l'=>wk ow lent b l'
 |.lt x d b,l=>match less l (ups ow d)with
  |none=>fO
  |some l'=>((yT ow d).all fun y=>decide (y∈l') || decide (y∈lent)) && wk ow lent b (l'++[x])
 |.hold n x b,l=>(decide (x∈l) || decide (x∈lent)) && wk ow lent b (l++[n])
 |.iff x a b,l=>(decide (x∈l) || decide (x∈lent)) && (wk ow lent a l && wk ow lent b l)
 |.case x as,l=>(decide (x∈l) || decide (x∈lent)) && wkA ow lent x as l
def wkA(ow:Str->List Bool)(lent:lS)(x:Str):Ha->lS->Bool
 |.nil,_=>tV
 |.cons _ xs m b r,l=>(match (if m then less l [x]else sO l)with
  |none=>fO
  |some l'=>wk ow lent b (l'++xs)) && wkA ow lent x r l
end
theorem YF(ow:Str->List Bool)(lent:lS)(c:Hc):∀(ds l:lS),l.Nodup->ds.Nodup->(∀y∈ds,y∈l)->wk ow lent (wD ds c) l=wk ow lent c (l.filter fun y=>decide (y∉ds))
 |[],l,_,_,_=>by
  rw[show l.filter (fun y=>decide (y∉([]:lS)))=l from List.filter_eq_self.mpr fun y _=>by simp]
  rfl
 |x::ds,l,nl,nd,h=>by
  obtain⟨h1,h2⟩:=uP.mp nd;have hx:=h x (.head _);show wk ow lent (.drop x (wD ds c)) l=_;rw[wk];have e:less l [x]=sO (l.erase x):=by
   unfold less;rw[iP hx];unfold less
   rfl
  rw[e];dsimp only
  rw[YF ow lent c ds (l.erase x) (nl.erase x) h2 fun y hy=>(List.Nodup.mem_erase_iff nl).mpr ⟨fun z=>h1 (z ▸ hy),h y (.tail _ hy)⟩,nl.erase_eq_filter,List.filter_filter]
  congr 1
  refine U1 fun y _=>?_;have e:(y != x)=!decide (y=x):=by rw[UP];simp
  rw[e];simp[Bool.and_comm]
theorem YG(ow:Str->List Bool)(lent:lS)(c:Hc):∀(ps:List (Str×Str))(l:lS),(∀p∈ps,p.2∈l\/p.2∈lent)->wk ow lent (wH ps c) l=wk ow lent c (l++ps.map (·.1))
 |[],l,_=>by rw[tG,uU];rfl
 |p::ps,l,h=>by
  show wk ow lent (.hold p.1 p.2 (wH ps c)) l=_;rw[wk,YG ow lent c ps (l++[p.1]) fun q hq=>(h q (.tail _ hq)).imp_left (uz _)]
  have:(decide (p.2∈l) || decide (p.2∈lent))=tV:=by
   rw[Uj,dA,dA];exact h p (.head _)
  rw[this,Bool.true_and,uF,UC]
  rfl
theorem zdj:∀{l:lS},l.Nodup->(∀y∈l,y=x)->x∈l->l=[x]
 |[],_,_,h=>by cases h
 |y::l,nd,h,_=>by
  obtain⟨h1,h2⟩:=uP.mp nd;have e:=h y (.head _);cases l with
  |nil=>rw[e]
  |cons z l=>exact absurd (by rw[e,<- h z (.tail _ (.head _))];exact .head _) h1
theorem wT{b:Bd}{l:lS}(nl:l.Nodup):wk X.ow lent (hB X.ns X.ow b l m).1 l=wk X.ow lent (pcP X.ns X.ow b (rO X.ns b l) m) (rO X.ns b l):=by
 have dn:(dO X.ns b l).Nodup:=nl.filter _;have ds:∀y∈dO X.ns b l,y∈l:=fun y hy=>(uI.mp hy).1;rw[zby,YF X.ow lent _ _ l nl dn ds]
 congr 1
 unfold rO;refine U1 fun y hy=>?_;unfold dO;cases e:ahB X.ns b y
 ·simp[hy,e]
 ·simp[e]
structure WkI(X:HX)(o:Wo)(lent sc l:lS):Prop where
 nl:l.Nodup
 ls:∀y∈l,y∈sc
 es:∀y∈lent,y∈sc
 sn:∀y∈sc,y∈X.ns
theorem wU{xs:lS}(h:y∈upN xs es):y∈xs:=by
 unfold upN at h;obtain⟨z,hz,rfl⟩:=uq.mp h;exact(Uv (uI.mp hz).1).1
theorem vC{xs:lS}(h:y∈ltN xs es):y∈xs:=by
 unfold ltN at h;obtain⟨z,hz,rfl⟩:=uq.mp h;exact(Uv (uI.mp hz).1).1
section
variable(nd:X.ns.Nodup)(hdot:∀z k,nnm z k∉X.ns)(lent:lS)
include nd hdot
mutual
theorem YH:∀(b:Bd)(sc l:lS)(m:Nat),SndB o sc b->OkB X b->WkI X o lent sc l->(∀y,b.fr y->y∈l\/y∈lent)->wk X.ow lent (hB X.ns X.ow b l m).1 l=tV
 |.give x,sc,l,m,hs,hk,hi,hf=>by
  rw[wT hi.nl,pcP,wS];have fr:∀y,y∈rO X.ns (.give x) l↔y∈l/\y=x:=fun y=>by
   unfold rO;rw[uI];refine and_congr_right fun hy=>?_;rw[w9 nd (hi.sn y (hi.ls y hy)),Bd.fr]
  have rn:(rO X.ns (.give x) l).Nodup:=hi.nl.filter _;generalize rO X.ns (.give x) l=R at *;unfold spr;by_cases c:x∈R
  ·rw[iP ⟨c,by simp⟩]
   have e:R=[x]:=zdj rn (fun y hy=>((fr y).mp hy).2) c;rw[e];unfold spr;show wk X.ow lent (.give x) [x]=tV;rw[wk];simp
  ·rw[iN (fun z=>c z.1)]
   have e:R=[]:=List.eq_nil_iff_forall_not_mem.mpr fun y hy=>c (((fr y).mp hy).2 ▸ hy);have hx:x∈lent:=(hf x (by rw[Bd.fr])).resolve_left fun z=>c ((fr x).mpr ⟨z,rfl⟩);rw[e];unfold spr;show wk X.ow lent (.hold (nnm x (m+1)) x (.give (nnm x (m+1)))) []=tV;rw[wk,wk];simp[hx]
 |.lt x d b,sc,l,m,hs,hk,hi,hf=>by
  rw[SndB]at hs;obtain⟨⟨hu,hx,_⟩,hs'⟩:=hs;obtain⟨⟨hxn,hun,hca⟩,hkb⟩:=show(x∈X.ns/\(∀y∈d.uses,y∈X.ns)/\CaD X.N X.ow d)/\OkB X b from hk
  rw[wT hi.nl,pcP];have mR:∀{y},y∈l->(Bd.lt x d b).fr y->y∈rO X.ns (.lt x d b) l:=fun{y} hy h=>uI.mpr ⟨hy,(w9 nd (hi.sn y (hi.ls y hy))).mpr h⟩;have Rl:∀{y},y∈rO X.ns (.lt x d b) l->y∈l:=fun hy=>(uI.mp hy).1;have rn:(rO X.ns (.lt x d b) l).Nodup:=hi.nl.filter _;have use:∀y∈d.uses,y∈rO X.ns (.lt x d b) l\/y∈lent:=fun y hy=>by
   have h:(Bd.lt x d b).fr y:=by rw[Bd.fr];exact .inr hy
   exact(hf y h).imp_left fun z=>mR z h
  have beh:∀y,b.fr y->y≠x->y∈rO X.ns (.lt x d b) l\/y∈lent:=fun y hy n=>by
   have h:(Bd.lt x d b).fr y:=by rw[Bd.fr];exact .inl ⟨hy,n⟩
   exact(hf y h).imp_left fun z=>mR z h
  generalize rO X.ns (.lt x d b) l=R at *;have hln:=yO (frL X.ns X.ow d b R) (upN d.uses (ends X.ow d)) m;have es:spL X.ns X.ow d b R m=spr (frL X.ns X.ow d b R) [] (upN d.uses (ends X.ow d)) m:=by unfold spL;exact wS _ _ _
  rw[wS]at hln;have hpr:=vc (fr:=frL X.ns X.ow d b R) (upN d.uses (ends X.ow d)) [] m;have hms:=ZE (fr:=frL X.ns X.ow d b R) (upN d.uses (ends X.ow d)) [] m;have hle:=ji (fr:=frL X.ns X.ow d b R) (upN d.uses (ends X.ow d)) [] R m rn (fun y hy _=>(uI.mp hy).1) fun z k hm=>hdot z k (hi.sn _ (hi.ls _ (Rl hm)));rw[es];generalize spr (frL X.ns X.ow d b R) [] (upN d.uses (ends X.ow d)) m=S at *;obtain⟨st,prs,m2⟩:=S;dsimp only at hln hpr hms hle ⊢
  rw[YG X.ow lent _ prs R fun p hp=>use _ (wU (hpr p hp).1),wk];obtain⟨u1,u2⟩:=zdi hca hln.1;rw[u1,hle];dsimp only
  rw[uS,UF];have nst:∀y∈R,y∈st->y∈frL X.ns X.ow d b R:=fun y hy hm=>by
   rcases hms y hm with z|⟨z,k,rfl⟩
   ·exact z
   ·exact absurd (hi.sn _ (hi.ls _ (Rl hy))) (hdot z k)
  refine⟨fun y hy=>?_,?_⟩
  ·rw[Uj,dA,dA]
   have hy:=u2 y hy;refine(use y (vC hy)).imp_left fun z=>uI.mpr ⟨z,decide_eq_true fun w=>?_⟩
   have:=(uI.mp (nst y z w)).2
   simp[hy]at this
  ·refine YH b (sc++[x]) (stL R st x) m2 hs' hkb ⟨?_,fun y hy=>?_,fun y hy=>uz _ (hi.es y hy),fun y hy=>?_⟩ fun y hy=>?_
   ·unfold stL
    refine List.nodup_append.mpr ⟨rn.filter _,by simp,fun a ha b hb=>?_⟩;rw[uk.mp hb];exact fun z=>hx (z ▸ hi.ls a (Rl (uI.mp ha).1))
   ·unfold stL at hy
    rcases ux.mp hy with hy|hy
    ·exact uz _ (hi.ls y (Rl (uI.mp hy).1))
    ·exact uv _ hy
   ·rcases ux.mp hy with hy|hy
    ·exact hi.sn y hy
    ·rw[uk.mp hy];exact hxn
   ·by_cases e:y=x
    ·exact .inl (by unfold stL;rw[e];simp)
    ·refine(beh y hy e).imp_left fun z=>?_
     unfold stL;refine uz _ (uI.mpr ⟨z,decide_eq_true fun w=>?_⟩)
     have:=(uI.mp (nst y z w)).2
     rw[(w9 nd (hi.sn y (hi.ls y (Rl z)))).mpr hy]at this;simp at this
 |.iff x a b,sc,l,m,hs,hk,hi,hf=>by
  rw[SndB]at hs;obtain⟨_,h1,h2⟩:=hs;obtain⟨k1,k2⟩:=show OkB X a/\OkB X b from hk
  rw[wT hi.nl,pcP,wk];have all:∀y,(Bd.iff x a b).fr y->y∈rO X.ns (.iff x a b) l\/y∈lent:=fun y h=>(hf y h).imp_left fun z=>uI.mpr ⟨z,(w9 nd (hi.sn y (hi.ls y z))).mpr h⟩;have I:WkI X o lent sc (rO X.ns (.iff x a b) l):=⟨hi.nl.filter _,fun y hy=>hi.ls y (uI.mp hy).1,hi.es,hi.sn⟩;rw[uS,uS,Uj,dA,dA];exact⟨all x (by rw[Bd.fr];exact .inr rfl),YH a sc _ m h1 k1 I fun y hy=>all y (by rw[Bd.fr];exact .inl (.inl hy)),YH b sc _ _ h2 k2 I fun y hy=>all y (by rw[Bd.fr];exact .inl (.inr hy))⟩
 |.case x as,sc,l,m,hs,hk,hi,hf=>by
  rw[SndB]at hs;rw[wT hi.nl,pcP,wk];have all:∀y,(Bd.case x as).fr y->y∈rO X.ns (.case x as) l\/y∈lent:=fun y h=>(hf y h).imp_left fun z=>uI.mpr ⟨z,(w9 nd (hi.sn y (hi.ls y z))).mpr h⟩;have I:WkI X o lent sc (rO X.ns (.case x as) l):=⟨hi.nl.filter _,fun y hy=>hi.ls y (uI.mp hy).1,hi.es,hi.sn⟩;rw[uS,Uj,dA,dA];exact⟨all x (by rw[Bd.fr];exact .inr rfl),zbC x as sc _ m hs.2 hk I fun y hy=>all y (by rw[Bd.fr];exact .inl hy)⟩
theorem zbC(x:Str):∀(as:Arms)(sc R:lS)(m:Nat),SndA o sc as->OkA X as->WkI X o lent sc R->(∀y,as.fr y->y∈R\/y∈lent)->wkA X.ow lent x (hA X.ns X.ow x R as m).1 R=tV
 |.nil,sc,R,m,_,_,_,_=>by rw[hA,wkA]
 |.cons t xs b r,sc,R,m,hs,hk,hi,hf=>by
  rw[SndA]at hs;obtain⟨⟨⟨⟨hn,_⟩,hxs⟩,hs1⟩,hs2⟩:=hs;obtain⟨⟨k1,k2⟩,k3⟩:=show((∀y∈xs,y∈X.ns)/\OkB X b)/\OkA X r from hk
  rw[hA,wkA];have e:(if tkB X.ns x R b=tV then less R [x]else sO R)=sO (R.filter fun y=>!tkB X.ns x R b || decide (y≠x)):=by
   cases c:tkB X.ns x R b
   ·rw[iN (by decide)]
    congr 1
    exact(List.filter_eq_self.mpr fun y _=>rfl).symm
   ·rw[iP rfl]
    have hx:x∈R:=by
     unfold tkB at c;rw[uS,dA]at c;exact c.1
    unfold less;rw[iP hx];unfold less;rw[hi.nl.erase_eq_filter]
    congr 1
    refine U1 fun y _=>?_;rw[UP];simp
  rw[e];dsimp only
  rw[uS];refine⟨YH b (sc++xs) (stA (tkB X.ns x R b) x R xs) m hs1 k2 ⟨?_,fun y hy=>?_,fun y hy=>uz _ (hi.es y hy),fun y hy=>?_⟩ fun y hy=>?_,zbC x r sc R _ hs2 k3 hi fun y hy=>hf y (by rw[Arms.fr];exact .inr hy)⟩
  ·unfold stA
   refine List.nodup_append.mpr ⟨hi.nl.filter _,hn,fun a ha b hb z=>?_⟩;exact hxs b hb (z ▸ hi.ls a (uI.mp ha).1)
  ·unfold stA at hy
   rcases ux.mp hy with hy|hy
   ·exact uz _ (hi.ls y (uI.mp hy).1)
   ·exact uv _ hy
  ·rcases ux.mp hy with hy|hy
   ·exact hi.sn y hy
   ·exact k1 y hy
  ·unfold stA
   by_cases c:y∈xs
   ·exact .inl (uv _ c)
   ·refine(hf y (by rw[Arms.fr];exact .inl ⟨hy,c⟩)).imp_left fun z=>uz _ (uI.mpr ⟨z,?_⟩)
    rw[Uj,dA];by_cases w:y=x
    ·refine .inl ?_
     have h:=(w9 nd (b:=b) (hi.sn y (hi.ls y z))).mpr hy;rw[w]at h;unfold tkB;rw[h];simp
    ·exact .inr w
end
end
def WdOk:De->Prop
 |.app w _ _=>w≠"num"/\w≠"op"
 |_=>True
inductive spLUps(vs:List V)(H:Hp)(Q:VK)(e_3:XK):Prop
 |mk (p:aO) (od:aO) (d:De) (ow:Str->List Bool):(∃N:lS,vs=[.ref p,.ref od]/\IsHd H d p/\WdOk d/\OwA H od ow N/\CaD N ow d/\d.uses.length<=100/\∀H' l,Same H H'->H l=nO->H' l=sO (.lst ((ups ow d).map V.str))->Q (.ref l) H')->spLUps vs H Q e_3
theorem JW{f0:Str}{xs:lS}(h:IsHd H (.app w0 f0 xs) p):∃q rest,H p=sO (.tup (.str w0::.str f0::.ref q::rest))/\H q=sO (.tup (xs.map V.str)):=by
 obtain⟨q,h1,h2⟩:=h;by_cases e:w0="make"
 ·rw[iP e]at h1;exact⟨q,_,h1,h2⟩
 ·rw[iN e]at h1;exact⟨q,_,h1,h2⟩
theorem zdk:FnScope lS2 lS2 (zt Jh):=.ok
theorem ZM:(["_law_deed_here","_law_owns_here","_law_name_here","_law_own"]:lS).Nodup:=by decide +kernel
theorem zaO(F:Fun K "_law_ups" "_law_ups" Jh f fd)(m_list:mg "list"=nO)(m_zip:mg "zip"=nO):FnOk P w K mg base CX0 1 f fd lS2 spLUps:=by
 refine F.by zdk (fun vs H Q E h=>?_) (fun cdv A outer s H vs Q E hr h=>?_)
 ·obtain⟨p,od,d,ow,N,rfl,_⟩:=h
  rfl
 obtain⟨p,od,d,ow,N,rfl,hd,hw,hO,hc,hu,q⟩:=h;refine⟨_,
  (zh (zH (jW.pt (vj (tN zM (zp K (jv 0)) zz) (x9 (tN zM (zp K (jv 0)) zz)))) (zn (zv (zC zL))) zB)
  (zh (zH (tN zM (zp K (jv 0)) zz) (zn (zv (zx yw (zC (jA1 (zp K (jv 0)))) (zS (xG K) rfl m_list UU (jA1 (zp K (jv 0))))))) zB)
  (zh (zH (tN zM (zp K (jv 0)) zz) (zn (zv (yg ["_law_name_here","_law_own"] rfl (yG K rfl m_zip (jA2 (zp K (jv 0)) (yK hr (jv 1) (zp K (jv 0))))) (fun _ _ _ _ _=>(zK K (n:=2) rfl (zu (gN 2 ZM) (zu (gN 3 ZM) zJ)))) (fun _ _ _ _ _=>(yt (yv (jv 3)))) (fun _ _ _ _ _=>(jv 2))))) zB)
  (zn (zv (zS (xG K) rfl m_list UU (jA1 (zp K (jv 0))))))))),?_⟩
 have sl:=zN;cases d with
 |num i =>
  refine(zg rfl (ixT hd aI0 ⟨rfl,(zg rfl (iteT (iteT ⟨sN0,fun l hl=>?_⟩)))⟩));exact q _ l (zk hl _) hl uX9
 |op w0 a b =>
  refine(zg rfl (ixT hd aI0 ⟨rfl,(zg rfl (iteF (zg rfl (ixT hd aI0 ⟨rfl,(zg rfl (iteT ⟨sN0,fun l hl=>?_⟩))⟩))))⟩));exact q _ l (zk hl _) hl uX9
 |app w0 f0 xs =>
  obtain⟨qx,rest,hp,hq⟩:=JW hd;refine(zg rfl (ixT hp aI0 ⟨rfl,(zg rfl ?_)⟩));rw[eO (fun e=>hw.1 (V.str.inj e))];refine iteF (zg rfl (ixT hp aI0 ⟨rfl,(zg rfl ?_)⟩));rw[eO (fun e=>hw.2 (V.str.inj e))];refine iteF ?_;refine(zg rfl (ixT hp aI0 ⟨rfl,(zg rfl ?_)⟩));by_cases e:w0="ask"
  ·subst e
   refine iteT ?_;refine(zg rfl (ixT hp aI1 ⟨sN1,fun l1 h1=>(zg rfl (ixT (old h1 hp) aI2 ⟨qx,(zg rfl ⟨.inr (SqT.of (old h1 hq)),fun l2 h2=>⟨l1,l2,(zw rfl rfl ⟨old h2 uX9,uX9,?_,fun l3 h3=>?_⟩)⟩⟩)⟩))⟩))
   ·rw[yy,um]at hu
    rw[ub];show 1+_<=_;lia
   ·have s3:=((zk (H:=H) h1 (.lst [.str f0])).new (o:=.lst (xs.map V.str)) h2)
    refine q _ l3 (s3.new h3) (s3.free h3) ?_;rw[uX9]
    have:ups ow (.app "ask" f0 xs)=f0::xs:=by unfold ups;exact iP rfl
    rw[this]
    rfl
  ·rw[eO (fun z=>e (V.str.inj z))]
   refine iteF ?_;rw[yi e]at hu;refine(zg rfl (ixT hp aI0 ⟨rfl,(zg rfl ?_)⟩));by_cases e2:w0="call"
   ·subst e2
    refine iteT ?_;obtain⟨kv,hkv,hN⟩:=hO;obtain⟨hf,hfl⟩:=hc rfl;obtain⟨ao,ga,hao⟩:=hN _ hf;have eu:ups ow (.app "call" f0 xs)=upN xs (ow f0):=by
     show(if("call":Str)="ask"then f0::xs else if("call":Str)="call"then upN xs (ow f0)else xs)=_;rw[iN (show ¬ (("call":Str)="ask") by decide),iP rfl]
    have zl:(xs.zip (ow f0)).length=xs.length:=by rw[Ub,hfl,Nat.min_self]
    refine(zg rfl (ixT hp aI2 (zq rfl rfl (ixT hp aI1 ⟨od,.ref ao,rfl,(show DGet H od (kV (.inr f0)) (sO (.ref ao))from ga ▸ DGet.k hkv),qx,ao,fO,fO,_,_,rfl,SqK.t hq,SqK.t hao,xK (xs:=xs.map V.str) (ys:=(ow f0).map V.bl) (by rw[ub,ub];exact hfl.symm) (fun j τ zs H'=>Same H H'/\(∃u v,τ=[sR p,sR od,u,v])/\zs=(((xs.zip (ow f0)).take j).filter (·.2)).map fun p=>V.str p.1) ⟨Same.refl _,⟨nO,nO,rfl⟩,rfl⟩ (fun j τ zs H' _ h=>⟨SqK.t (h.1 _ _ hq),SqK.t (h.1 _ _ hao)⟩) ?_ ?_⟩))))
    ·rintro i v1 v2 T τ zs H3 hv1 hv2 hT ⟨s3,⟨u,v,rfl⟩,rfl⟩
     rw[uh]at hv1 hv2;obtain⟨y,hy,rfl⟩:=ug.mp hv1;obtain⟨e,he,rfl⟩:=ug.mp hv2;rw[wP (Uc (z:=(y,e)).mpr ⟨hy,he⟩)];refine⟨T,(zg rfl ⟨SqT.of uX9,rfl,_,_,rfl,_,_,rfl,rfl,(zq rfl rfl ?_)⟩)⟩;have hfl:((((xs.zip (ow f0)).take i).filter (·.2)).map fun p=>V.str p.1).length < sizeLine:=by
      rw[ub];refine Ue (uB _ _) ?_;rw[ut];lia
     cases e
     ·exact iteF ⟨s3.new hT,⟨_,_,rfl⟩,(uU _).symm⟩
     ·exact iteT (zg rfl ⟨hfl,s3.new hT,⟨_,_,rfl⟩,rfl⟩)
    rintro τ zs H3 ⟨s3,_,rfl⟩ l hl;rw[ub,uo (by lia)];refine q _ l (s3.new hl) (s3.free hl) ?_;rw[uX9,eu];unfold upN;rw[UD]
    rfl
   ·rw[eO (fun z=>e2 (V.str.inj z))]
    refine iteF ?_;refine(zg rfl (ixT hp aI2 ⟨qx,(zg rfl ⟨.inr (SqT.of hq),fun l1 h1=>?_⟩)⟩));refine q _ l1 (zk h1 _) h1 ?_;rw[uX9]
    have:ups ow (.app w0 f0 xs)=xs:=(iN e).trans (iN e2)
    rw[this]
mutual
def Hc.dp:Hc->Nat
 |.give _=>1
 |.lt _ _ b=>b.dp+2
 |.hold _ _ b=>b.dp+1
 |.drop _ b=>b.dp+1
 |.iff _ a b=>max a.dp b.dp+1
 |.case _ as=>as.dp+2
def Ha.dp:Ha->Nat
 |.nil=>0
 |.cons _ _ _ b r=>max b.dp r.dp
end
mutual
def Hc.Ok(N:lS)(ow:Str->List Bool):Hc->Prop
 |.give _=>True
 |.lt _ d b=>(WdOk d/\CaD N ow d/\d.uses.length<=100)/\b.Ok N ow
 |.hold _ _ b=>b.Ok N ow
 |.drop _ b=>b.Ok N ow
 |.iff _ a b=>a.Ok N ow/\b.Ok N ow
 |.case _ as=>as.Ok N ow
def Ha.Ok(N:lS)(ow:Str->List Bool):Ha->Prop
 |.nil=>True
 |.cons _ ns _ b r=>(ns.length<=100/\b.Ok N ow)/\r.Ok N ow
end
theorem Hc.dp_pos:∀c:Hc,0 < c.dp
 |.give _=>by rw[Hc.dp];decide
 |.lt _ _ b=>by rw[Hc.dp];lia
 |.hold _ _ b=>by rw[Hc.dp];lia
 |.drop _ b=>by rw[Hc.dp];lia
 |.iff _ a b=>by rw[Hc.dp];lia
 |.case _ as=>by rw[Hc.dp];lia
theorem Bd.dp_pos:∀b:Bd,0 < b.dp
 |.give _=>by rw[Bd.dp];decide
 |.lt _ _ b=>by rw[Bd.dp];lia
 |.iff _ a b=>by rw[Bd.dp];lia
 |.case _ as=>by rw[Bd.dp];lia
theorem JX:∀{as:Arms}{i:Nat}{ns:lS}{b:Bd},as.ways[i]?=sO (ns,b)->b.dp<=as.dp
 |.nil,i,ns,b,h=>by unfold Arms.ways at h;simp at h
 |.cons t xs c r,i,ns,b,h=>by
  unfold Arms.ways at h;rw[Arms.dp];cases i with
  |zero=>simp at h;rw[h.2];exact Nat.le_max_left _ _
  |succ i=>exact uH (JX (as:=r) (i:=i) (by simpa using h)) (Nat.le_max_right _ _)
theorem YI{l:Wy}{p:lS×Bd}(h:l[i]?=sO p):wsz (l.take (i+1))=wsz (l.take i)+p.2.sz:=by
 rw[uD,h,vB]
 rfl
theorem JY(l:Wy)(i:Nat):wsz (l.take i)<=wsz l:=by
 have:=vB (l.take i) (l.drop i)
 rw[List.take_append_drop]at this;lia
inductive spNamed(n:Nat)(vs:List V)(H:Hp)(Q:VK)(e_3:XK):Prop
 |mk (p:aO):(∃b:Bd,vs=[.ref p]/\IsB H b p/\b.dp<=n/\b.sz<=1000000/\∀(H':Hp)(r:aO)(xs:lS),Same H H'->H r=nO->H' r=sO (.lst (xs.map V.str))->xs.length<=b.sz->Q (.ref r) H')->spNamed n vs H Q e_3
theorem scNamed:FnScope ["_law_body_here","_law_found","_law_tag","_law_names","_law_inner"] ["_law_body_here"] (zt vy):=.ok
theorem W4(F:Fun K "_law_named" "_law_named" vy f fd):FnOk P w K mg base CX0 (1+0) f fd ["_law_body_here"] (spNamed 0):=by
 refine F.by scNamed (fun vs H Q E h=>?_) (fun cdv A outer s H vs Q E hr h=>?_)
 ·obtain⟨p,b,rfl,_⟩:=h
  rfl
 obtain⟨p,b,rfl,_,hd,_⟩:=h;exact absurd hd (Nat.not_le_of_gt b.dp_pos)
theorem JZ(F:Fun K "_law_named" "_law_named" vy f fd)(GN':Ca P w K mg base CX0 (1+n) "_law_named" ["_law_body_here"] (spNamed n)):FnOk P w K mg base CX0 (1+(n+1)) f fd ["_law_body_here"] (spNamed (n+1)):=by
 refine F.by scNamed (fun vs H Q E h=>?_) (fun cdv A outer s H vs Q E hr h=>?_)
 ·obtain⟨p,b,rfl,_⟩:=h
  rfl
 obtain⟨p,b,rfl,hI,hd,hz,q⟩:=h;have hrN:Room (1+n) _:=hr;refine⟨_,
  (zh (zH (tN zM (zp K (jv 0)) zz)
   (zn (zv (zC zL)))  zB)
  (zh (zH (tN zM (zp K (jv 0)) zz)
   (zh (sE 1 scNamed.nd (cA GN' hrN (jA1 (zp K (jv 0)))))
   (zh (zH (tN zM (zp K (zp K (jv 0))) zz)
    (zn (yr (xg uN uV uW z6 (jv 1) (jA1 (zp K (zp K (jv 0)))))))  zB)
   (zn (zv (jv 1)))))  zB)
  (zh (zH (tN zM (zp K (jv 0)) zz)
   (zn (zv (zx yw (cA GN' hrN (jA1 (zp K (jv 0)))) (cA GN' hrN (jA1 (zp K (jv 0)))))))  zB)
  (zh (sE 1 scNamed.nd (zC zL))
  (zh (ya PassesOwn.never rfl (yF K (zp K (jv 0))) (zK K rfl (zu (gN 2 scNamed.nd) (zu (gN 3 scNamed.nd) (zu (gN 4 scNamed.nd) zJ))))
   (zn (sE 1 scNamed.nd (zx yw (jv 1) (cA GN' hrN (jA1 (jv 4)))))))
  (zn (zv (jv 1)))))))),?_⟩
 have sl:=zN;cases hI with
 |@give x p hp =>
  refine(wB rfl hp ⟨sN0,fun l1 h1=>?_⟩);exact q _ l1 [] (zk h1 _) h1 uX9 (uK _)
 |@lt x d b p q0 r hp hD hb =>
  rw[Bd.dp]at hd;rw[Bd.sz]at hz q;refine(yD rfl hp (wB rfl hp ?_));refine(zg rfl (ixT hp aI3 ⟨r,b,rfl,hb,by lia,by lia,fun H1 l1 xs s1 f1 h1 hxl=>?_⟩));have hD1:=hD.keep (.of s1);have hp1:=s1 _ _ hp;cases hD1 with
  |num h2 =>
   refine(zg rfl (ixT hp1 aI2 (ixT h2 aI0 ⟨rfl,(zg rfl (iteF (nxtC (zg rfl ?_))))⟩)));exact q _ l1 xs s1 f1 h1 (by lia)
  |op h2 =>
   refine(zg rfl (ixT hp1 aI2 (ixT h2 aI0 ⟨rfl,(zg rfl (iteF (nxtC (zg rfl ?_))))⟩)));exact q _ l1 xs s1 f1 h1 (by lia)
  |@app w0 f0 ys _ qy hw h2 h3 =>
   refine(zg rfl (ixT hp1 aI2 (ixT h2 aI0 ⟨rfl,(zg rfl ?_)⟩)));by_cases c:w0="func"
   ·rw[decide_eq_true (congrArg V.str c)]
    refine iteT ?_;refine(zg rfl ⟨.inl ⟨rfl,_,SqL.of h1⟩,(zg rfl (ixT hp1 aI2 (ixT h2 aI1 ⟨l1,(zw rfl rfl ⟨h1,by rw[ub];lia,(zg rfl ?_)⟩)⟩)))⟩);refine q _ l1 (xs++[f0]) (s1.put f1) f1 ?_ (by rw[uf,uY];lia);rw[uX9,ur]
    rfl
   ·rw[eO fun z=>c (V.str.inj z)]
    refine iteF (nxtC (zg rfl ?_));exact q _ l1 xs s1 f1 h1 (by lia)
 |@iff x a b p q0 r hp h1 h2 =>
  rw[Bd.dp]at hd;rw[Bd.sz]at hz q;refine(yD rfl hp (yD rfl hp ?_));refine(wB rfl hp ?_);refine(zg rfl (ixT hp aI2 ⟨q0,a,rfl,h1,by lia,by lia,fun H1 l1 xs s1 f1 g1 hxl=>?_⟩));refine(zg rfl (ixT (s1 _ _ hp) aI3 ⟨r,b,rfl,h2.keep (.of s1),by lia,by lia,fun H2 l2 ys s2 f2 g2 hyl=>?_⟩));refine⟨l1,l2,(zw rfl rfl ⟨s2 _ _ g1,g2,by rw[ub,ub];lia,fun l3 h3=>?_⟩)⟩;have s02:=s1.trans s2;refine q _ l3 (xs++ys) (s02.new h3) (s02.free h3) (by rw[uX9,ur]) (by rw[uf];lia)
 |@case x as ps p q0 hp hq hps hA =>
  rw[Bd.dp]at hd;rw[Bd.sz]at hz q;have az:=Arms.wsz as;refine(yD rfl hp (yD rfl hp ?_));refine(yD rfl hp ⟨sN0,fun l1 h1=>?_⟩);have s1:=zk (o:=.lst []) h1;refine(zg rfl (ixT (s1 _ _ hp) aI2 ⟨q0,rfl,⟨_,SqT.of (s1 _ _ hq)⟩,xq (xs:=ps.map V.ref) (fun i σ H'=>Same H H'/\∃r xs,(∃y1 y2 y3,σ=[sR p,sR r,y1,y2,y3])/\H r=nO/\H' r=sO (.lst (xs.map V.str))/\xs.length<=wsz (as.ways.take i)) ⟨s1,l1,[],⟨_,_,_,rfl⟩,h1,uX9,uK _⟩ (fun i σ H' _ h=>SqT.of (h.1 _ _ hq)) ?_ ?_⟩))
  ·rintro i v σ H4 hv ⟨s4,r,xs,⟨y1,y2,y3,rfl⟩,fr,hr4,hxl⟩
   obtain⟨pa,hpa,rfl⟩:=L2.gM hv;obtain⟨t,qa,ra,ns,b,g1,g2,g3,g4⟩:=hA.get hpa;have bd:=JX g1;have wl:=JY as.ways (i+1);rw[YI g1]at wl;refine⟨_,_,rfl,SqT.of (s4 _ _ g2),rfl,_,_,rfl,_,_,rfl,_,_,rfl,rfl,?_⟩;refine(zq rfl rfl ⟨ra,b,rfl,g4.keep (.of s4),by lia,by show b.sz<=_;simp only at wl;lia,fun H5 l5 ys s5 f5 h5 hyl=>?_⟩);refine⟨r,l5,(zw rfl rfl ⟨s5 _ _ hr4,h5,by rw[ub,ub];simp only at wl;lia,fun l6 h6=>?_⟩)⟩;have s05:=s4.trans s5;exact⟨s05.new h6,l6,xs++ys,⟨_,_,_,rfl⟩,s05.free h6,by rw[uX9,ur],by rw[YI g1,uf];show _<=_+b.sz;lia⟩
  ·rintro σ H4 ⟨s4,r,xs,⟨y1,y2,y3,rfl⟩,fr,hr4,hxl⟩
   have wl:=JY as.ways (ps.map V.ref).length;exact(zg rfl (q _ r xs s4 fr hr4 (by lia)))
theorem W5{l:lS}(h:l.Nodup)(e:l[i]?=sO x):x∉l.take i:=by
 intro m;obtain⟨j,hj,e2⟩:=List.mem_iff_getElem.mp m;obtain⟨hi,e1⟩:=ud.mp e;rw[ut]at hj;rw[List.getElem_take]at e2
 have:=(List.getElem_inj (h₀:=by lia) (h₁:=hi) h).mp (e2.trans e1.symm)
 lia
theorem J0(kvs:List (Key×V))(k:Key)(v:V):(putK kvs k v).length<=kvs.length+1:=by
 unfold putK;split
 ·rw[ub]
  lia
 ·rw[uf]
  exact uj _
inductive OwI(H:Hp)(od:aO)(ds:List Df):Prop
 |mk (kv:List (Key×V)):(∃ow:Str->List Bool,H od=sO (.dK kv)/\kv.length<=ds.length/\∀d∈ds,∃a,valV kv (.inr d.z)=sO (.ref a)/\H a=sO (.tup ((ow d.z).map V.bl))/\(ow d.z:List Bool).length=d.ns.length)->OwI H od ds
inductive spOwns(K:uc)(n:Nat)(vs:List V)(H:Hp)(Q:VK)(e_3:XK):Prop
 |mk (st:aO) (pp:aO) (pd:aO) (v0:V) (ps:List aO) (dfs:List Df):(∃B:Nat,vs=[.ref st,.ref pp]/\Sta K H st B/\B+9 < LIM/\H pp=sO (.tup [v0,.ref pd])/\H pd=sO (.tup (ps.map V.ref))/\IsFs H dfs ps/\ps.length=3/\(∀d∈dfs,d.ns.length<=3/\d.b.sz<=1000000/\d.b.dp<=n)/\(dfs.map (·.z)).Nodup/\∀H' od,Kp st H H'->Sta K H' st (B+9)->OwI H' od dfs->Q (.ref od) H')->spOwns K n vs H Q e_3
theorem scOwns:FnScope ["_law_state","_law_program_here","_law_handed_on","_law_name_here","_law_params","_law_body_here","_law_owns_here"] lS23 (zt Xw):=.ok
theorem zdl:(["_law_state","_law_program_here","_law_handed_on","_law_name_here","_law_params","_law_body_here","_law_owns_here","_law_param"]:lS).Nodup:=by decide +kernel
theorem J1(F:Fun K "_law_owns" "_law_owns" Xw f fd)(GD:Ca P w K mg base CX0 1 "_law_draw" lS5 (spDraw K))(GN':Ca P w K mg base CX0 (1+n) "_law_named" ["_law_body_here"] (spNamed n))(m_tuple:mg "tuple"=nO):FnOk P w K mg base CX0 (1+n+1) f fd lS23 (spOwns K n):=by
 refine F.by scOwns (fun vs H Q E h=>?_) (fun cdv A outer s H vs Q E hr h=>?_)
 ·obtain⟨st,pp,pd,v0,ps,dfs,B,rfl,_⟩:=h
  rfl
 obtain⟨st,pp,pd,v0,ps,dfs,B,rfl,S0,hB,hp,hpd,hF,hl,hb,hnd,q⟩:=h;have hrN:Room (1+n) _:=hr;have hr1:Room 1 _:=hrN.mono (by lia);refine⟨_,
  (zh (sE 2 scOwns.nd (zC zL))
  (zh (ya PassesOwn.never rfl (yF K (zp K (jv 1))) (zK K rfl (zu (gN 3 scOwns.nd) (zu (gN 4 scOwns.nd) (zu (gN 5 scOwns.nd) zJ))))
   (zn (sE 2 scOwns.nd (zx yw (jv 2) (cA GN' hrN (jA1 (jv 5)))))))
  (zh (sE 6 scOwns.nd xJ)
  (zh (ya PassesOwn.never rfl (yF K (zp K (jv 1))) (zK K rfl (zu (gN 3 scOwns.nd) (zu (gN 4 scOwns.nd) (zu (gN 5 scOwns.nd) zJ))))
   (zn (xw hr1 (jv 6) (jv 3) (zS (zF K) rfl m_tuple uO (jA1 (yg ["_law_param"] rfl (yF K (jv 4)) (fun _ _ _ _ _=>(gN 7 zdl)) (fun _ _ _ _ _=>zW) (fun _ _ _ _ _=>(zdG (xr jH (cA GD hr1 (jA2 (jv 0) zo)) zo (wX _)) (VB (xr (Xj K) (jv 3) (jv 2) (by with_unfolding_all rfl)))))))))))
  (zn (zv (jv 6))))))),?_⟩
 have sl:=zN;have LM:LIM=4611686018427387904:=rfl;have fl:=hF.len;refine⟨sN0,fun l1 h1=>?_⟩;have s1:=zk (o:=.lst []) h1;refine(zg rfl (ixT (s1 _ _ hp) aI1 ⟨pd,rfl,⟨_,SqT.of (s1 _ _ hpd)⟩,xq (xs:=ps.map V.ref) (fun i σ H'=>Same H H'/\∃r xs,(∃y1 y2 y3,σ=[sR st,sR pp,sR r,y1,y2,y3,nO])/\H r=nO/\H' r=sO (.lst (xs.map V.str))/\xs.length<=1000000*i) ⟨s1,l1,[],⟨_,_,_,rfl⟩,h1,uX9,uK _⟩ (fun i σ H' _ h=>SqT.of (h.1 _ _ hpd)) ?_ ?_⟩))
 ·rintro i v σ H4 hv ⟨s4,r,xs,⟨y1,y2,y3,rfl⟩,fr,hr4,hxl⟩
  obtain⟨pa,hpa,rfl⟩:=L2.gM hv;obtain⟨d,hd,hFd⟩:=hF.get hpa;have hi:=(ud.mp hd).1;obtain⟨qn,pb,g1,g2,g3⟩:=(hFd.keep (.of s4)).ex;obtain⟨_,b2,b3⟩:=hb d (uw hd);refine⟨_,_,rfl,SqT.of g1,rfl,_,_,rfl,_,_,rfl,_,_,rfl,rfl,?_⟩;refine(zq rfl rfl ⟨pb,d.b,rfl,g3,b3,b2,fun H5 l5 ys s5 f5 h5 hyl=>?_⟩);refine⟨r,l5,(zw rfl rfl ⟨s5 _ _ hr4,h5,by rw[ub,ub];lia,fun l6 h6=>?_⟩)⟩;have s05:=s4.trans s5;exact⟨s05.new h6,l6,xs++ys,⟨_,_,_,rfl⟩,s05.free h6,by rw[uX9,ur],by rw[uf];lia⟩
 rintro σ H4 ⟨s4,r,xs,⟨y1,y2,y3,rfl⟩,fr,hr4,-⟩;intro od hod;have s5:=s4.new (o:=.dK []) hod;have hod5:=uX9 (H:=H4) (a:=od) (o:=.dK []);have hr5:=(zk (o:=.dK []) hod) _ _ hr4;have fod:=s4.free hod;generalize upd H4 od (.dK [])=H5 at *;have S5:=S0.same s5;refine(zg rfl (ixT (s5 _ _ hp) aI1 ⟨pd,rfl,⟨_,SqT.of (s5 _ _ hpd)⟩,xq (xs:=ps.map V.ref) (fun i σ H'=>Kp st H H'/\Sta K H' st (B+3*i)/\(∃y1 y2 y3,σ=[sR st,sR pp,sR r,y1,y2,y3,sR od])/\H' r=sO (.lst (xs.map V.str))/\OwI H' od (dfs.take i)) ⟨.of s5,S5.mono (by lia),⟨_,_,_,rfl⟩,hr5,[],fun _=>[],hod5,uK _,fun d hd=>by cases hd⟩ (fun i σ H' _ h=>SqT.of (h.1.tups S0 _ _ hpd)) ?_ ?_⟩))
 ·rintro i v σ H6 hv ⟨k6,S6,⟨y1,y2,y3,rfl⟩,hr6,kv,ow,ho6,hkv,hO6⟩
  obtain⟨pa,hpa,rfl⟩:=L2.gM hv;obtain⟨d,hd,hFd⟩:=hF.get hpa;have hi:=(ud.mp hd).1;obtain⟨qn,pb,g1,g2,g3⟩:=(hFd.keep (k6.tups S0)).ex;obtain⟨b1,-,-⟩:=hb d (uw hd);have nrs:r≠st:=fun e=>S0.ne fr e;have nos:od≠st:=fun e=>S0.ne fod e;refine⟨_,_,rfl,SqT.of g1,rfl,_,_,rfl,_,_,rfl,_,_,rfl,rfl,?_⟩;refine(zg rfl ⟨qn,rfl,⟨_,SqT.of g2⟩,vO (xs:=d.ns.map V.str) (fun j τ zs H'=>Kp st H6 H'/\Sta K H' st (B+3*i+j)/\(∃u,τ=[sR st,sR pp,sR r,sO (.str d.z),sR qn,sR pb,sR od,u])/\∃bs:List Bool,zs=bs.map V.bl/\bs.length=j) ⟨Kp.refl,S6,⟨nO,rfl⟩,[],rfl,rfl⟩ (fun j τ zs H' _ h=>SqT.of (h.1.tups S6 _ _ g2)) ?_ ?_⟩)
  ·rintro j v τ zs H7 hv ⟨k7,S7,⟨u,rfl⟩,bs,rfl,hbl⟩
   have hj:=(ud.mp hv).1;rw[ub]at hj;refine(zg rfl ⟨st,3,(zg rfl ⟨S7,by lia,by decide,fun H8 x k8 S8 x0 x1=>(zw rfl rfl (zg rfl ?_))⟩)⟩);have fin:∀b:Bool,(bs.map V.bl).length < sizeLine/\Kp st H6 H8/\Sta K H8 st (B+3*i+(j+1))/\(∃u,[sO (V.ref st),sO (V.ref pp),sO (V.ref r),sO (V.str d.z),sO (V.ref qn),sO (V.ref pb),sO (V.ref od),sO v]=[sR st,sR pp,sR r,sO (.str d.z),sR qn,sR pb,sR od,u])/\∃bs':List Bool,bs.map V.bl++[V.bl b]=bs'.map V.bl/\bs'.length=j+1:=fun b=>⟨by rw[ub];lia,k7.trans k8,S8,⟨_,rfl⟩,bs++[b],by simp,by simp[hbl]⟩;by_cases c:0 < x
   ·rw[decide_eq_true c]
    exact iteT (fin tV)
   ·rw[eO c]
    exact iteF (zq rfl rfl ⟨r,(zg rfl ⟨.inl (SqL.of (k8.k _ _ nrs (k7.k _ _ nrs hr6))),rfl,jd xs,fin _⟩)⟩)
  ·rintro τ zs H7 ⟨k7,S7,_,bs,rfl,hbl⟩ l8 h8
   rw[ub]at hbl S7;refine⟨l8,(zg rfl (.inl ⟨SqL.of uX9,fun t9 h9=>?_⟩))⟩;have s9:=(zk (o:=.lst (bs.map V.bl)) h8).new (o:=.tup (bs.map V.bl)) h9;have ht9:=uX9 (H:=upd H7 l8 (.lst (bs.map V.bl))) (a:=t9) (o:=.tup (bs.map V.bl));generalize upd (upd H7 l8 (.lst (bs.map V.bl))) t9 (.tup (bs.map V.bl))=H9 at *;have k9:=k7.trans (.of s9);have ho9:=k9.k _ _ nos ho6;rw[ut]at hkv;refine(zq rfl rfl ⟨od,(zg rfl ⟨DPut.k (k:=.inr d.z) ho9 (by lia),?_⟩)⟩);have nz:d.z∉(dfs.take i).map (·.z):=by
    rw[List.map_take];exact W5 hnd (by rw[uh,hd];rfl)
   refine⟨(k6.trans k9).put fod,?_,⟨_,_,_,rfl⟩,?_,_,fun z=>if z=d.z then bs else ow z,uX9,?_,fun d' hd'=>?_⟩
   ·exact Sta.put S0 fod (k6.trans k9) ((S7.same s9).mono (by lia))
   ·rw[zj (fun e=>by rw[e,ho6]at hr6;cases hr6)]
    exact k9.k _ _ nrs hr6
   ·have:=J0 kv (.inr d.z) (.ref t9)
    rw[ut];lia
   ·rw[uD,hd]at hd'
    rcases ux.mp hd' with hd'|hd'
    ·obtain⟨a,e1,e2,e3⟩:=hO6 d' hd'
     have ne:d'.z≠d.z:=fun e=>nz (e ▸ UO hd');refine⟨a,by rw[xI,iN (fun e=>ne (Sum.inr.inj e))];exact e1,?_,?_⟩<;>dsimp only
     ·rw[iN ne,zj (fun e=>by rw[e,ho6]at e2;cases e2)]
      exact k9.tups S6 _ _ e2
     ·rw[iN ne];exact e3
    ·have e:d'=d:=by simpa using hd'
     subst e;refine⟨t9,by rw[xI,iP rfl],?_,?_⟩<;>dsimp only
     ·rw[iP rfl,zj (fun e=>by rw[e,ho9]at ht9;cases ht9)]
      exact ht9
     ·rw[iP rfl];exact hbl
 ·rintro σ H6 ⟨k6,S6,⟨y1,y2,y3,rfl⟩,hr6,hO6⟩
  rw[ub,uo (by lia)]at hO6;exact(zg rfl (q _ od k6 (S6.mono (by rw[ub];lia)) hO6))
end
theorem J2{α β:Type}{g:α->β}:∀{l:List α},(l.map g).Nodup->∀{a b:α},a∈l->b∈l->g a=g b->a=b
 |[],_,a,b,h,_,_=>by cases h
 |x::l,nd,a,b,ha,hb,e=>by
  rw[uF,uP]at nd;rcases uy.mp ha with h1|h1
  ·rcases uy.mp hb with h2|h2
   ·rw[h1,h2]
   ·exact absurd (by rw[<- h1,e];exact UO h2) nd.1
  ·rcases uy.mp hb with h2|h2
   ·exact absurd (by rw[<- h2,<- e];exact UO h1) nd.1
   ·exact J2 nd.2 h1 h2 e
theorem YJ:((uM 3).map fun k=>nm o.z o.b (2-k)).Nodup:=by
 unfold List.Nodup;rw[List.pairwise_map];refine List.Pairwise.imp_of_mem (fun{a b} ha hb hab e=>hab ?_) List.nodup_range
 have:=Uu.mp ha
 have:=Uu.mp hb
 have:=vA (by lia) (by lia) e
 lia
theorem zdT(wok:WOk o)(hn:dfs.map (·.z)=(uM 3).map (fun k=>nm o.z o.b (2-k)))(hF:∀d∈dfs,FNm o d)(hl:∀d∈dfs,(ow d.z).length=d.ns.length){d:De}(h:Yp o d):CaD (dfs.map (·.z)) ow d:=by
 cases d with
 |num i=>trivial
 |op w a b=>trivial
 |app w f xs =>
  intro e;obtain⟨s,hs,e1,e2⟩:=h e;have hm:s.1∈dfs.map (·.z):=by
   rw[hn,<- wok.dn];exact UO hs
  refine⟨e1 ▸ hm,?_⟩;obtain⟨d',hd',ez⟩:=uq.mp hm;obtain⟨s',hs',z1,z2⟩:=(hF d' hd').s
  have:s'=s:=J2 (g:=(·.1)) (by rw[wok.dn];exact YJ) hs' hs (z1.trans ez)
  rw[<- e1,<- ez,hl d' hd',<- z2,this,e2]
mutual
theorem jj{o:Wo}{X:HX}(hc:∀{d},Yp o d->CaD X.N X.ow d):∀(b:Bd)(sc:lS),SndB o sc b->(∀y∈sc,y∈X.ns)->(∀y∈b.binds,y∈X.ns)->OkB X b
 |.give x,sc,h,h1,h2=>by
  rw[SndB]at h;exact h1 x h
 |.lt x d b,sc,h,h1,h2=>by
  rw[SndB]at h;rw[Bd.binds]at h2;have hx:=h2 x (.head _);refine⟨⟨hx,fun y hy=>h1 y (h.1.1 y hy),hc h.1.2.2⟩,jj hc b _ h.2 (fun y hy=>?_) fun y hy=>h2 y (.tail _ hy)⟩;rcases ux.mp hy with hy|hy
  ·exact h1 y hy
  ·rw[uk.mp hy];exact hx
 |.iff x a b,sc,h,h1,h2=>by
  rw[SndB]at h;rw[Bd.binds]at h2;exact⟨jj hc a _ h.2.1 h1 fun y hy=>h2 y (uz _ hy),jj hc b _ h.2.2 h1 fun y hy=>h2 y (uv _ hy)⟩
 |.case x as,sc,h,h1,h2=>by
  rw[SndB]at h;rw[Bd.binds]at h2;exact J3 hc as _ h.2 h1 h2
theorem J3{o:Wo}{X:HX}(hc:∀{d},Yp o d->CaD X.N X.ow d):∀(b:Arms)(sc:lS),SndA o sc b->(∀y∈sc,y∈X.ns)->(∀y∈b.binds,y∈X.ns)->OkA X b
 |.nil,sc,h,h1,h2=>trivial
 |.cons t ns b r,sc,h,h1,h2=>by
  rw[SndA]at h;rw[Arms.binds]at h2;have hx:∀y∈ns,y∈X.ns:=fun y hy=>h2 y (uz _ hy);refine⟨⟨hx,jj hc b _ h.1.2 (fun y hy=>?_) fun y hy=>h2 y (uv _ (uz _ hy))⟩,J3 hc r _ h.2 h1 fun y hy=>h2 y (uv _ (uv _ hy))⟩;rcases ux.mp hy with hy|hy
  ·exact h1 y hy
  ·exact hx y hy
end
mutual
theorem YK{o:Wo}:∀(b:Bd)(sc:lS),SndB o sc b->∀y,b.fr y->y∈sc
 |.give x,sc,h,y,hy=>by
  rw[SndB]at h;rw[Bd.fr]at hy;rw[hy];exact h
 |.lt x d b,sc,h,y,hy=>by
  rw[SndB]at h;rw[Bd.fr]at hy;rcases hy with⟨hy,n⟩|hy
  ·rcases ux.mp (YK b _ h.2 y hy)with z|z
   ·exact z
   ·exact absurd (uk.mp z) n
  ·exact h.1.1 y hy
 |.iff x a b,sc,h,y,hy=>by
  rw[SndB]at h;rw[Bd.fr]at hy;rcases hy with(hy|hy)|hy
  ·exact YK a _ h.2.1 y hy
  ·exact YK b _ h.2.2 y hy
  ·rw[hy];exact h.1
 |.case x as,sc,h,y,hy=>by
  rw[SndB]at h;rw[Bd.fr]at hy;rcases hy with hy|hy
  ·exact J4 as _ h.2 y hy
  ·rw[hy];exact h.1
theorem J4{o:Wo}:∀(b:Arms)(sc:lS),SndA o sc b->∀y,b.fr y->y∈sc
 |.nil,sc,h,y,hy=>by
  rw[Arms.fr]at hy;cases hy
 |.cons t ns b r,sc,h,y,hy=>by
  rw[SndA]at h;rw[Arms.fr]at hy;rcases hy with⟨hy,n⟩|hy
  ·rcases ux.mp (YK b _ h.1.2 y hy)with z|z
   ·exact z
   ·exact absurd z n
  ·exact J4 r _ h.2 y hy
end
theorem Wi:∀(l acc:lS),acc.Nodup->(once acc l).Nodup
 |[],acc,h=>h
 |x::l,acc,h=>by
  unfold once;refine Wi l _ ?_;split
  ·exact h
  ·rename_i c
   refine List.nodup_append.mpr ⟨h,by simp,fun a ha b hb e=>c ?_⟩;rw[<- uk.mp hb,<- e];exact ha
theorem pig:∀(l tk:lS),l.Nodup->(∀x∈l,x∈tk)->l.length<=tk.length
 |[],tk,_,_=>uK _
 |x::l,tk,h,s=>by
  rw[uP]at h;have hx:=s x (.head _);have ih:=pig l (tk.erase x) h.2 fun y hy=>(List.mem_erase_of_ne (fun e=>h.1 (by rw[<- e];exact hy))).mpr (s y (.tail _ hy))
  have:=List.length_erase_of_mem hx
  have:0 < tk.length:=List.length_pos_of_mem hx
  rw[um];lia
theorem zbD{b:Bool}{k:Nat}(h:∀c∈cl z,97<=c):∀c∈cl (nm z b k),97<=c:=by
 have h1:∀c∈cl (core k),97<=c:=fun c hc=>by
  rw[wG]at hc;simp only[uy,Uz,or_false]at hc
  lia
 have h2:∀c∈cl (ys k),97<=c:=fun c hc=>by
  rw[vX]at hc;rw[List.eq_of_mem_replicate hc]
  decide
 intro c hc;unfold nm at hc;cases b
 ·rw[iN (by decide),zY,zY]at hc
  rcases ux.mp hc with hc|hc
  ·exact(ux.mp hc).elim (h2 c) (h c)
  ·exact h1 c hc
 ·rw[iP rfl,zY,zY]at hc
  rcases ux.mp hc with hc|hc
  ·exact(ux.mp hc).elim (h1 c) (h c)
  ·exact h2 c hc
theorem J5(x:Str)(m:Nat):46∈cl (nnm x m):=by
 unfold nnm;rw[zY,zY];exact uz _ (uv _ (by decide +kernel))
theorem J6(h:FNm o d)(hl:d.ns.length<=3)(hx:x∈nsOf d):∃j,j < 900/\x=nm o.z o.b j:=by
 unfold nsOf at hx;rw[xc]at hx;rcases hx with hx|hx
 ·cases hx
 ·rcases ux.mp hx with hx|hx
  ·rw[h.n]at hx
   obtain⟨j,hj,rfl⟩:=uq.mp hx
   have:=Uu.mp hj
   exact⟨j,by lia,rfl⟩
  ·obtain⟨j,_,h2,h3⟩:=h.b x hx
   exact⟨j,h2,h3⟩
theorem zbE(h:FNm o d)(hl:d.ns.length<=3):d.ns.Nodup:=by
 rw[h.n]
 have:=zbq (o:=o) (k:=0) (n:=d.ns.length) (by lia)
 simp only[Nat.zero_add]at this
 exact this
theorem ZO(wok:WOk o)(hn:dfs.map (·.z)=(uM 3).map (fun k=>nm o.z o.b (2-k)))(hF:∀d∈dfs,FOk 6 d/\FNm o d)(hl:∀d∈dfs,(ow d.z).length=d.ns.length)(hd:d∈dfs):DfOk ow (dfs.map (·.z)) d:=by
 obtain⟨⟨f1,f2,f3⟩,h⟩:=hF d hd;have bn:∀x∈nsOf d,∃j,j < 900/\x=nm o.z o.b j:=fun x hx=>J6 h f1 hx;have u:(nsOf d).Nodup:=Wi _ _ (List.Pairwise.nil);refine⟨UO hd,hl d hd,f1,uH f2 (by decide),?_,u,fun x hx=>?_,fun X e1 e2 e3=>?_⟩
 ·have:=pig (nsOf d) ((uM 900).map fun j=>nm o.z o.b j) u fun x hx=>by
   obtain⟨j,hj,rfl⟩:=bn x hx;exact UO (Uu.mpr hj)
  rw[ub,US]at this;lia
 ·obtain⟨j,_,rfl⟩:=bn x hx
  exact uH (zcM wok.z) (by decide)
 ·refine jj (o:=o) (fun{d} hc=>?_) d.b d.ns h.sn (fun y hy=>?_) fun y hy=>?_
  ·rw[e2,e3]
   exact zdT wok hn (fun d hd=>(hF d hd).2) hl hc
  ·rw[e1]
   unfold nsOf;rw[xc];exact .inr (uz _ hy)
  ·rw[e1]
   unfold nsOf;rw[xc];exact .inr (uv _ hy)
mutual
def Bd.Dd:Bd->Prop
 |.give _=>True
 |.lt _ d b=>(WdOk d/\d.uses.length<=17)/\b.Dd
 |.iff _ a b=>a.Dd/\b.Dd
 |.case _ as=>as.Dd
def Arms.Dd:Arms->Prop
 |.nil=>True
 |.cons _ _ b r=>b.Dd/\r.Dd
end
theorem IsDe.dd:∀{d:De}{p:aO},IsDe H d p->WdOk d/\d.uses.length<=17
 |_,_,.num _=>⟨trivial,by show 0<=17;decide⟩
 |_,_,.op _=>⟨trivial,by show 2<=17;decide⟩
 |_,_,@IsDe.app _ w f xs _ _ h _ _=>by
  refine⟨⟨h.1,h.2.1⟩,?_⟩;by_cases e:w="ask"
  ·subst e
   rw[yy,um]
   have:=h.2.2
   lia
  ·rw[yi e]
   have:=h.2.2
   lia
mutual
theorem IsB.dd{H:Hp}:∀{b:Bd}{p:aO},IsB H b p->b.Dd
 |_,_,.give _=>by rw[Bd.Dd];trivial
 |_,_,.lt _ d b=>by rw[Bd.Dd];exact⟨d.dd,IsB.dd b⟩
 |_,_,.iff _ a b=>by rw[Bd.Dd];exact⟨IsB.dd a,IsB.dd b⟩
 |_,_,.case _ _ _ a=>by rw[Bd.Dd];exact IsA.dd a
theorem IsA.dd{H:Hp}:∀{b:Arms}{p:List aO},IsA H b p->b.Dd
 |_,_,.nil=>by rw[Arms.Dd];trivial
 |_,_,.cons _ _ b r=>by rw[Arms.Dd];exact⟨IsB.dd b,IsA.dd r⟩
end
mutual
def Bd.dq:Bd->Nat
 |.give _=>2
 |.lt _ d b=>d.uses.length+3+b.dq
 |.iff _ a b=>1+max a.dq b.dq
 |.case _ as=>2+as.dq
def Arms.dq:Arms->Nat
 |.nil=>0
 |.cons _ ns b r=>max (ns.length+b.dq) r.dq
end
mutual
theorem YL{o:Wo}:∀(b:Bd)(sc:lS),SndB o sc b->b.Dd->b.dq+18<=20*b.dp
 |.give x,sc,h,g=>by rw[Bd.dq,Bd.dp];decide
 |.lt x d b,sc,h,g=>by
  rw[SndB]at h;rw[Bd.Dd]at g
  have:=YL b _ h.2 g.2
  have:=g.1.2
  rw[Bd.dq,Bd.dp];lia
 |.iff x a b,sc,h,g=>by
  rw[SndB]at h;rw[Bd.Dd]at g
  have:=YL a _ h.2.1 g.1
  have:=YL b _ h.2.2 g.2
  rw[Bd.dq,Bd.dp];lia
 |.case x as,sc,h,g=>by
  rw[SndB]at h;rw[Bd.Dd]at g
  have:=J7 as _ h.2 g
  rw[Bd.dq,Bd.dp];lia
theorem J7{o:Wo}:∀(b:Arms)(sc:lS),SndA o sc b->b.Dd->b.dq<=20*b.dp
 |.nil,sc,h,g=>by rw[Arms.dq];exact uK _
 |.cons t ns b r,sc,h,g=>by
  rw[SndA]at h;rw[Arms.Dd]at g
  have:=YL b _ h.1.2 g.1
  have:=J7 r _ h.2 g.2
  have:=h.1.1.1.2
  rw[Arms.dq,Arms.dp];lia
end
theorem YM(c:Hc):∀ds:lS,(wD ds c).dp=ds.length+c.dp
 |[]=>by show c.dp=0+c.dp;lia
 |x::ds=>by
  show(Hc.drop x (wD ds c)).dp=_;rw[Hc.dp,YM c ds,um];lia
theorem J8(c:Hc):∀ps:List (Str×Str),(wH ps c).dp=ps.length+c.dp
 |[]=>by show c.dp=0+c.dp;lia
 |x::ps=>by
  show(Hc.hold x.1 x.2 (wH ps c)).dp=_;rw[Hc.dp,J8 c ps,um];lia
theorem YN{N:lS}{ow:Str->List Bool}{c:Hc}(h:c.Ok N ow):∀ds:lS,(wD ds c).Ok N ow
 |[]=>h
 |x::ds=>by
  show(Hc.drop x (wD ds c)).Ok N ow;rw[Hc.Ok];exact YN h ds
theorem J9{N:lS}{ow:Str->List Bool}{c:Hc}(h:c.Ok N ow):∀ps:List (Str×Str),(wH ps c).Ok N ow
 |[]=>h
 |x::ps=>by
  show(Hc.hold x.1 x.2 (wH ps c)).Ok N ow;rw[Hc.Ok];exact J9 h ps
theorem jk(ns:lS)(b:Bd):∀l:lS,(dO ns b l).length+(rO ns b l).length=l.length
 |[]=>rfl
 |x::l=>by
  have:=jk ns b l
  unfold dO rO at *;rw[List.filter_cons,List.filter_cons];cases e:ahB ns b x
  ·simp;lia
  ·simp;lia
theorem Qa(xs:lS)(es:List Bool):(upN xs es).length<=xs.length:=by
 unfold upN;rw[ub];refine uH (uB _ _) ?_;rw[Ub];exact Nat.min_le_left _ _
mutual
theorem YO(ns:lS)(ow:Str->List Bool):∀(b:Bd)(l:lS)(m:Nat),(hB ns ow b l m).1.dp<=l.length+b.dq
 |.give x,l,m=>by
  have h1:=jk ns (.give x) l;have h2:=(yO (rO ns (.give x) l) [x] m).2.2.2;rw[hB,Bd.dq];dsimp only
  rw[YM,J8,Hc.dp];simp only[uY]at h2
  lia
 |.lt x d b,l,m=>by
  have h1:=jk ns (.lt x d b) l;rw[hB,Bd.dq];dsimp only
  generalize rO ns (.lt x d b) l=R at *;have h2:(spL ns ow d b R m).2.1.length<=(upN d.uses (ends ow d)).length:=(yO _ _ m).2.2.2;have h3:=Qa d.uses (ends ow d);have h4:=YO ns ow b (stL R (spL ns ow d b R m).1 x) (spL ns ow d b R m).2.2;have h5:(stL R (spL ns ow d b R m).1 x).length<=R.length+1:=by
   unfold stL;rw[uf]
   have:=uB (fun y=>decide (y∉(spL ns ow d b R m).1)) R
   simp only[uY]
   lia
  rw[YM,J8,Hc.dp];lia
 |.iff x a b,l,m=>by
  have h1:=jk ns (.iff x a b) l;rw[hB,Bd.dq];dsimp only
  generalize rO ns (.iff x a b) l=R at *;have h2:=YO ns ow a R m;have h3:=YO ns ow b R (hB ns ow a R m).2;rw[YM,Hc.dp];lia
 |.case x as,l,m=>by
  have h1:=jk ns (.case x as) l;rw[hB,Bd.dq];dsimp only
  generalize rO ns (.case x as) l=R at *;have h2:=zbF ns ow x R as m;rw[YM,Hc.dp];lia
theorem zbF(ns:lS)(ow:Str->List Bool)(x:Str)(R:lS):∀(as:Arms)(m:Nat),(hA ns ow x R as m).1.dp<=R.length+as.dq
 |.nil,m=>by rw[hA,Ha.dp];exact uK _
 |.cons t xs b r,m=>by
  have h1:=YO ns ow b (stA (tkB ns x R b) x R xs) m;have h2:=zbF ns ow x R r (hB ns ow b (stA (tkB ns x R b) x R xs) m).2;have h3:(stA (tkB ns x R b) x R xs).length<=R.length+xs.length:=by
   unfold stA;rw[uf]
   have:=uB (fun y=>!tkB ns x R b || decide (y≠x)) R
   lia
  rw[hA,Ha.dp,Arms.dq];lia
end
theorem ZP:∀(xs:lS)(es:List Bool)(st:lS),(rpr xs es st).length=min xs.length es.length
 |[],es,st=>by unfold rpr;simp
 |x::xs,[],st=>by unfold rpr;simp
 |x::xs,e::es,st=>by
  rw[rpr,um,um];cases e
  ·rw[iN (by decide),um,ZP xs es st];lia
  ·rw[iP rfl,um,ZP xs es st.tail];lia
theorem zdU{d:De}{st:lS}(hc:CaD N ow d)(hw:WdOk d)(hu:d.uses.length<=17):WdOk (hdD ow d st)/\CaD N ow (hdD ow d st)/\(hdD ow d st).uses.length<=100:=by
 unfold hdD;rw[Wh];have hl:=ZP d.uses (ends ow d) st;cases d with
 |num i=>exact⟨trivial,trivial,by show 0<=100;decide⟩
 |op w a b=>exact⟨trivial,trivial,by show 2<=100;decide⟩
 |app w f xs =>
  by_cases e:w="ask"
  ·subst e
   generalize rpr (De.uses (.app "ask" f xs)) (ends ow (.app "ask" f xs)) st=L at *;have e1:wN (.app "ask" f xs) L=.app "ask" (L.getD 0 "") (L.drop 1):=by unfold wN;exact iP rfl
   rw[e1];refine⟨hw,fun z=>absurd z (by decide),?_⟩;rw[yy,um,List.length_drop];lia
  ·rw[ZA e]
   rw[yi e]at hl hu ⊢;refine⟨hw,fun z=>?_,?_⟩
   ·obtain⟨h1,h2⟩:=hc z
    refine⟨h1,?_⟩
    have:ends ow (.app w f xs)=ow f:=iP z
    rw[hl,this,h2,Nat.min_self]
   ·rw[yi e]
    lia
mutual
theorem YQ{o:Wo}{X:HX}:∀(b:Bd)(sc l:lS)(m:Nat),SndB o sc b->OkB X b->b.Dd->(hB X.ns X.ow b l m).1.Ok X.N X.ow
 |.give x,sc,l,m,h,k,g=>by
  rw[hB];refine YN (J9 ?_ _) _;rw[Hc.Ok]
  trivial
 |.lt x d b,sc,l,m,h,k,g=>by
  rw[SndB]at h;rw[Bd.Dd]at g;obtain⟨⟨_,_,hca⟩,hkb⟩:=show(x∈X.ns/\(∀y∈d.uses,y∈X.ns)/\CaD X.N X.ow d)/\OkB X b from k
  rw[hB];refine YN (J9 ?_ _) _;rw[Hc.Ok];exact⟨zdU hca g.1.1 g.1.2,YQ b _ _ _ h.2 hkb g.2⟩
 |.iff x a b,sc,l,m,h,k,g=>by
  rw[SndB]at h;rw[Bd.Dd]at g;obtain⟨k1,k2⟩:=show OkB X a/\OkB X b from k
  rw[hB];refine YN ?_ _;rw[Hc.Ok];exact⟨YQ a _ _ _ h.2.1 k1 g.1,YQ b _ _ _ h.2.2 k2 g.2⟩
 |.case x as,sc,l,m,h,k,g=>by
  rw[SndB]at h;rw[Bd.Dd]at g;rw[hB];refine YN ?_ _;rw[Hc.Ok];exact zbG x as _ _ _ h.2 k g
theorem zbG{o:Wo}{X:HX}(x:Str):∀(as:Arms)(sc R:lS)(m:Nat),SndA o sc as->OkA X as->as.Dd->(hA X.ns X.ow x R as m).1.Ok X.N X.ow
 |.nil,sc,R,m,h,k,g=>by rw[hA,Ha.Ok];trivial
 |.cons t xs b r,sc,R,m,h,k,g=>by
  rw[SndA]at h;rw[Arms.Dd]at g;obtain⟨⟨k1,k2⟩,k3⟩:=show((∀y∈xs,y∈X.ns)/\OkB X b)/\OkA X r from k
  have:=h.1.1.1.2
  rw[hA,Ha.Ok];exact⟨⟨by lia,YQ b _ _ _ h.1.2 k2 g.1⟩,zbG x r _ _ _ h.2 k3 g.2⟩
end
theorem ZQ:∀{xs:lS}{es:List Bool},xs.Nodup->(upN xs es).Nodup
 |[],es,_=>by unfold upN;simp
 |x::xs,[],_=>by unfold upN;simp
 |x::xs,e::es,h=>by
  rw[uP]at h;rw[xf];cases e
  ·rw[iN (by decide)];exact ZQ h.2
  ·rw[iP rfl]
   exact uP.mpr ⟨fun z=>h.1 (wU z),ZQ h.2⟩
theorem YR:∀{xs:lS}{es:List Bool},xs.length=es.length->∀{y:Str},y∈xs->y∈upN xs es\/y∈ltN xs es
 |[],es,_,y,h=>by cases h
 |x::xs,[],h,y,_=>by simp at h
 |x::xs,e::es,h,y,hy=>by
  simp at h
  rw[xf,xM];rcases uy.mp hy with rfl|hy
  ·cases e
   ·exact .inr (by rw[iN (by decide)];exact .head _)
   ·exact .inl (by rw[iP rfl];exact .head _)
  ·rcases YR h hy with z|z
   ·refine .inl ?_
    cases e
    ·exact z
    ·exact .tail _ z
   ·refine .inr ?_
    cases e
    ·exact .tail _ z
    ·exact z
theorem zdm(wok:WOk o)(hn:dfs.map (·.z)=(uM 3).map (fun k=>nm o.z o.b (2-k)))(hF:∀d∈dfs,FOk 6 d/\FNm o d)(hl:∀d∈dfs,(ow d.z).length=d.ns.length)(hd:d∈dfs)(hD:d.b.Dd):
  let c:=(hB (nsOf d) ow d.b (upN d.ns (ow d.z)) 0).1
  c.Ok (dfs.map (·.z)) ow/\(upN d.ns (ow d.z)).length<=3/\c.dp<=105:=by
 have dk:=ZO wok hn hF hl hd;obtain⟨⟨f1,f2,f3⟩,h⟩:=hF d hd;have ul:(upN d.ns (ow d.z)).length<=3:=uH (Qa _ _) f1;have ok:=dk.b ⟨0,0,0,0,0,0,0,0,0,0,nsOf d,ow,dfs.map (·.z)⟩ rfl rfl rfl;refine⟨YQ (X:=⟨0,0,0,0,0,0,0,0,0,0,nsOf d,ow,dfs.map (·.z)⟩) d.b d.ns _ 0 h.sn ok hD,ul,?_⟩
 have:=YO (nsOf d) ow d.b (upN d.ns (ow d.z)) 0
 have:=YL d.b d.ns h.sn hD
 lia
theorem zdn(wok:WOk o)(hn:dfs.map (·.z)=(uM 3).map (fun k=>nm o.z o.b (2-k)))(hF:∀d∈dfs,FOk 6 d/\FNm o d)(hl:∀d∈dfs,(ow d.z).length=d.ns.length)(hd:d∈dfs)(hD:d.b.Dd):
  let c:=(hB (nsOf d) ow d.b (upN d.ns (ow d.z)) 0).1
  c.Ok (dfs.map (·.z)) ow/\(upN d.ns (ow d.z)).length<=3/\c.dp<=105/\wk ow (ltN d.ns (ow d.z)) c (upN d.ns (ow d.z))=tV:=by
 have dk:=ZO wok hn hF hl hd;obtain⟨c1,c2,c3⟩:=zdm wok hn hF hl hd hD;obtain⟨⟨f1,f2,f3⟩,h⟩:=hF d hd;have ok:=dk.b ⟨0,0,0,0,0,0,0,0,0,0,nsOf d,ow,dfs.map (·.z)⟩ rfl rfl rfl;have sn:∀y∈d.ns,y∈nsOf d:=fun y hy=>by
  unfold nsOf;rw[xc];exact .inr (uz _ hy)
 refine⟨c1,c2,c3,?_⟩;refine YH (X:=⟨0,0,0,0,0,0,0,0,0,0,nsOf d,ow,dfs.map (·.z)⟩) (o:=o) dk.u (fun z k hm=>?_) (ltN d.ns (ow d.z)) d.b d.ns _ 0 h.sn ok ⟨ZQ (zbE h f1),fun y hy=>wU hy,fun y hy=>vC hy,sn⟩ fun y hy=>YR (hl d hd).symm (YK d.b _ h.sn y hy);obtain⟨j,_,e⟩:=J6 h f1 hm
 have:=J5 z k
 rw[e]at this
 have:=zbD wok.zc 46 this
 lia
end GN
namespace L2
open PySem PySem.Spec PyProof.Rows
theorem W6(a v:aA):argsOk "max" ⟨[a],[(("default":Str),v)]⟩:=by unfold argsOk;kernel_rfl
section
variable{R:Result->Shared->Prop}
theorem W7(hh:A.handled=nO)(I l:aO)(hlI:l≠I)(vs:Array aA)(hz:∀(i:Nat) v,vs[i]?=sO v->∃t,v=Value.int 0 t)(S:aO)(hS1:S≠I)(hS2:S≠l)(d:aA):
  ∀(k j:Nat)(s:Shared)(q:Array aA)(c:Nat),vs.size-j=k->j<=vs.size->(s.heap.IsListIter I l j/\s.heap.IsList l vs)->((q=#[]/\j=0)\/∃t,q=#[.int 0 t,.int 0 t]) ->
  s.heap.get? S=sO (seqObj "list" q c) ->
  (∀v h' tk,(v=d\/∃t,v=Value.int 0 t)->(∀b o,b≠I->b≠S->s.heap.get? b=sO o->h'.get? b=sO o)->R (.ok (.ret v)) { s with heap:=h',toks:=tk }) ->
  codeAny (model prog w) A (.builtin "max.loop" ⟨[.ref I,.none,.ref S],[(("default":Str),d)]⟩) R s:=by
 have nm:(toString "max" ++ toString ".loop":String)="max.loop":=by decide
 have W:=Walks.list (prog:=prog) (w:=w) (A:=A.in1) hh I l hlI vs;have Sf:S∉[I,l]:=by simp[hS1,hS2]
 intro k
 induction k with
 |zero =>
  intro j s q c hk hj st hq oS hR;have ej:j=vs.size:=by lia
  refine codeAny_builtin F.entry_max_loop ?_;rw[Around.under_plainId F.plain_max_loop _];refine(show wpAny _ A.in1 (seqItems? (.ref S) >>= _) _ _ s from bA (wpAny_seqItems oS rfl ?_));refine(show wpAny _ A.in1 (tryCatch (pyNext (.ref I)) _ >>= _) _ _ s from bA (wpAny_tryCatch (W.done s _ _ (ej ▸ st) fun h' tk kk=>?_)));have oS':=kk S _ (by simpa using hS1) oS;rcases hq with⟨rfl,rfl⟩|⟨t,rfl⟩
  ·show wpAny _ A.in1 (_ >>= fun _=>_) _ _ _
   exact bA (wpAny_rule (pO (hR d h' tk (.inl rfl) fun b o h1 h2 e=>kk b o (by simpa using h1) e)))
  ·refine(show wpAny _ A.in1 (updateSeq S (fun _=>#[]) >>= _) _ _ _ from bA ?_)
   exact wpAny_updateSeq oS' rfl (bA (wpAny_letGo (pO (hR _ _ tk (.inr ⟨t,rfl⟩) fun b o h1 h2 e=>(Ui _ _ (Ne.symm h2)).trans (kk b o (by simpa using h1) e)))))
 |succ k ih =>
  intro j s q c hk hj st hq oS hR;refine codeAny_builtin F.entry_max_loop ?_;rw[Around.under_plainId F.plain_max_loop _];refine(show wpAny _ A.in1 (seqItems? (.ref S) >>= _) _ _ s from bA (wpAny_seqItems oS rfl ?_));refine(show wpAny _ A.in1 (tryCatch (pyNext (.ref I)) _ >>= _) _ _ s from bA (wpAny_tryCatch (W.item j s _ _ (by lia) st fun v h' tk hv st' kk=>?_)));obtain⟨t,rfl⟩:=hz j v hv;have oS':=kk S _ (by simpa using hS1) oS;rcases hq with⟨rfl,rfl⟩|⟨t',rfl⟩
  ·refine(show wpAny _ A.in1 (updateSeq S (fun _=>#[.int 0 t,.int 0 t]) >>= _) _ _ _ from bA (wpAny_updateSeq oS' rfl ?_))
   rw[nm];refine pO ⟨plainId_quiet F.plain_max_loop _,ih 1 _ _ _ (by lia) (by lia) (W.frame _ _ _ st' fun b hb o e=>(Ui _ _ (fun h:S=b=>Sf (h ▸ hb))).trans e) (.inr ⟨t,rfl⟩) (UB _ oS' rfl) fun v2 h2 tk2 hv2 k2=>?_⟩;exact hR v2 h2 tk2 hv2 fun b o h1 h2 e=>k2 b o h1 h2 ((Ui _ _ (Ne.symm h2)).trans (kk b o (by simpa using h1) e))
  ·refine(show wpAny _ A.in1 (tryCatch (holding [.int 0 t,.int 0 t] (richCompare .Gt (.int 0 t) (.int 0 t') >>= _)) _ >>= _) _ _ _ from bA (wpAny_tryCatch (wpAny_holding (bA (CmpOf.ints_gt (prog:=prog) (w:=w) (A:=A.in1) (P:=fun _ v=>∃t,v=.int 0 t) (fun _=>0) (fun _ _ h=>h) 0 0 _ _ _ _ _ ⟨t,rfl⟩ ⟨t',rfl⟩ ?_)))))
   refine bA (wpAny_holding (wpAny_truthy_bool (bA (wpAny_letGo (pO ?_)))));simp only[Int.lt_irrefl,decide_false,tR,if_false,gt_iff_lt]
   refine bA (wpAny_letGo ?_);rw[nm];exact pO ⟨plainId_quiet F.plain_max_loop _,ih (j+1) _ _ c (by lia) (by lia) st' (.inr ⟨t',rfl⟩) oS' fun v2 h2 tk2 hv2 k2=>hR v2 h2 tk2 hv2 fun b o h1 h3 e=>k2 b o h1 h3 (kk b o (by simpa using h1) e)⟩
theorem Qb(hh:A.handled=nO){l:aO}{vs:Array aA}(hl:s.heap.IsList l vs)(hz:∀(i:Nat) v,vs[i]?=sO v->∃t,v=Value.int 0 t)(d:aA){Q:VSP}
  (hQ:∀v h' tk,(v=d\/∃t,v=Value.int 0 t)->(∀b o,s.heap.get? b=sO o->h'.get? b=sO o)->Q v { s with heap:=h',toks:=tk }) :
  wpAny (model prog w) A (call (.builtin "max") [.ref l] [(("default":Str),d)]) Q E s:=by
 have nm:(toString "max" ++ toString ".loop":String)="max.loop":=by decide
 obtain⟨ol,hol,_⟩:=id hl;have ll:=uC hol;refine kmb_tree F.kind_max F.plain_max F.entry_max (W6 _ _) ?_;show wpAny _ A.in1 (Builtin.Builtins.bindParams "max" ["key","default"] 0 ⟨[],[(("default":Str),d)]⟩ >>= _) _ _ s;refine bA (wpAny_of_eq (show Builtin.Builtins.bindParams "max" ["key","default"] 0 ⟨[],[(("default":Str),d)]⟩=pure [nO,sO d]from rfl) ?_);refine bA (pO (bA (wpAny_pyIter_list hl (bA (wpAny_newList ?_ (uK _))))));rw[nm];generalize eh:s.heap.push { cls:=.type "list_iterator",data:=.fields #[.ref l,.int 0 0] }=h1;have z1:h1.objs.size=s.heap.objs.size+1:=by rw[<- eh];exact Uf ..
 have gI:h1.get? s.heap.objs.size=sO { cls:=.type "list_iterator",data:=.fields #[.ref l,.int 0 0] }:=by rw[<- eh];exact uu _ rfl
 have hl1:h1.IsList l vs:=by rw[<- eh];exact hl.push _
 refine pO ⟨plainId_quiet F.plain_max_loop _,W7 hh s.heap.objs.size l (uT ll) vs hz h1.objs.size (by rw[z1];exact Nat.ne_of_gt (UW _)) (by rw[z1];exact Nat.ne_of_gt (Nat.lt_succ_of_lt ll)) d _ 0 _ #[] 0 rfl (uK _) ⟨⟨_,ue _ gI,rfl,rfl⟩,hl1.push _⟩ (.inl ⟨rfl,rfl⟩) (uu _ rfl) fun v h' tk hv kk=>hQ v h' tk hv fun b o e=>?_⟩
 have:=uC e
 exact kk b o (uT this) (by rw[z1];exact uT (Nat.lt_succ_of_lt this)) (ue _ (by rw[<- eh];exact ue _ e))
end
section
variable{p kpos:Pos}{d:Expr}
def zdV(te td:TE):TE:=fun σ H Q=>te σ H fun x H1=>td σ H1 fun z H2=>∃(l:aO)(n:Nat),x=.ref l/\z=.int 0/\H2 l=sO (.lst (uQ n (.int 0)))/\Q (.int 0) H2
theorem zaP(hc:X.calm=tV)(hg:Gl X "max")(hm:X.mg "max"=nO)(ha:jE X e te)(hd:jE X d td)(he:zy e=fO:=by rfl):jE X (.Call (.Name "max" p) [e] [⟨sO "default",d,kpos⟩] pos) (zdV te td):=by
 refine⟨fun pins s σ H Q I h=>?_⟩;refine wpAny_Call_Name_kw (xp I hg hm (u:=.builtin "max") (by kernel_rfl) ?_ (by decide) (by decide));have es:starEach [e] X.env=(fO,eval e X.env)::starEach [] X.env:=by
  cases e<;>first|rfl|cases he
 refine PySem.W.callWith_of (P:=fun _=>True) (by rw[es];rfl) (fun h _=>⟨.machine,.inr (.inl rfl),PySem.W.Looks.of_pure rfl⟩) (evalArgs_kw2 rfl ?_ es);rw[es];refine Calls.spliced_cons (thn (ha.out pins s σ H _ I h) fun u s1 ⟨x,H1,I1,r1,q1⟩=>Calls.spliced_nil ?_);refine kwAll_cons (thn (hd.out pins s1 σ H1 _ I1 q1) fun u2 s2 ⟨z,H2,I2,r2,l,n,e1,e2,hl,q⟩=>kwAll_nil ⟨trivial,?_⟩);subst e1 e2;cases r1;obtain⟨t2,rfl⟩:=r2;obtain⟨its,c,rv,hol,hsz⟩:=I2.lst hl;refine Qb (vs:=its.toArray) (I2.ok.hd hc) ⟨_,hol,rfl,c,rfl⟩ (fun i v hv=>?_) _ fun v h' tk hv kk=>?_
 ·rw[List.getElem?_toArray]at hv
  have li:=(ud.mp hv).1;rw[<- rv.length,Uq]at li;obtain⟨u,hu,ru⟩:=rv.get (i:=i) (x:=.int 0) (by rw[List.getElem?_replicate,iP li]);rw[hv]at hu;cases hu;exact ru
 ·rcases hv with rfl|⟨t,rfl⟩
  ·exact⟨.int 0,H2,I2.kept kk,⟨_,rfl⟩,q⟩
  ·exact⟨.int 0,H2,I2.kept kk,⟨_,rfl⟩,q⟩
end
theorem Inv.freeze(I:Inv X pins σ H s)(e:H d=sO (.dK kvs)):∃ob,s.heap.get? d=sO ob/\Inv X pins σ (upd H d (.frz ob (.dK kvs))) s:=by
 have ok:=I.hok d _ e;obtain⟨_,_,vs,r,ob,es,ep,g,c⟩:=id (show ObjOk X.prog X.w H s.heap d (.dK kvs)from ok);refine⟨ob,g,?_⟩;have tu:∀b xs,H b=sO (.tup xs)->upd H d (.frz ob (.dK kvs)) b=sO (.tup xs):=fun b xs q=>by rw[zj (yn q e (by intro z;cases z))];exact q
 have ow:∀b a,H b=sO (.own a)->upd H d (.frz ob (.dK kvs)) b=sO (.own a):=fun b a q=>by rw[zj (yn q e (by intro z;cases z))];exact q
 refine I.step (h':=s.heap) (g':=s.gens) (d':=s.drawn) (t':=s.toks) (ch:=[]) (fun _ z=>nomatch z) (fun b o _ _ _ q _=>q) (fun b o _ _ _ q _=>⟨o.slots,q⟩) (fun b o _ _ n=>by rw[zj (Ne.symm (zi e n))];exact n) (fun b o _ q=>⟨o,q⟩) tu (fun b o u q=>by rw[zj (yn q e (by intro z;cases z))];exact q) (fun b ps q=>⟨#[],by rw[zj (yn q e (by intro z;cases z)),Array.append_empty];exact q⟩) (fun m n=>n) (fun b o q=>?_) I.bare;by_cases c:b=d
 ·subst c
  rw[uX9]at q;cases q;exact⟨g,ok.stay (fun _ _ _ q=>q) (fun b q=>ow b _ q) tu⟩
 ·rw[zj c]at q
  exact(I.hok b o q).stay (fun _ _ _ q=>q) (fun b' q=>ow b' _ q) tu
def Itd(d:aO)(ob:Obj)(kvs:List (Key×V)):It :=
 ⟨fun i H=>i < kvs.length/\H d=sO (.frz ob (.dK kvs)),fun i H x H'=>H'=H/\∃kv,kvs[i]?=sO kv/\x=kV kv.1,fun i H=>kvs.length<=i/\H d=sO (.frz ob (.dK kvs))⟩
theorem W8{K:uc}(it:aO){es:Array DictEntry}{ep:Nat}(hob:ob.data=.dict es ep):Turn P w K tg (Itd d ob kvs) [it] it (fun i h=>h.IsKeyIter it d i kvs.length ep) where
 mem:=by simp
 obj:=fun i h st b hb=>by
  have e:b=it:=by simpa using hb
  subst e;obtain⟨o,e,c,d⟩:=st;exact⟨o,e,fun v z=>by rw[d]at z;cases z⟩
 keep:=fun i h h' st k=>st.at fun o e=>k it (by simp) o e
 item:=by
  intro X hP hw hK hc i pins s σ H E I hf st hg;subst hP hw hK;obtain⟨hi,hd⟩:=hg;obtain⟨g,_,_,vs,r,ob',es',ep',g',c1,c2,c3⟩:=(show ObjOk X.prog X.w H s.heap d (.frz ob (.dK kvs))from I.hok d _ hd);have eo:ob'=ob:=by rw[g]at g';injection g' with g';exact g'.symm
  subst eo;rw[hob]at c2;injection c2 with c2 c2'
  subst c2 c2';have dat:s.heap.DictAt (zR X.prog X.w) d vs ep:=⟨ob',es,g,c1,hob,c3⟩;have hl:=r.length;obtain⟨⟨k,u⟩,hu⟩:∃p,vs[i]?=sO p:=⟨vs[i]'(by lia),by rw[ui]⟩;obtain⟨x,hx,_⟩:=r.get hu;obtain⟨f0,f1,f2,f3,f4,f5⟩:=hf it (by simp);have st':s.heap.IsKeyIter it d i vs.length ep:=by rw[<- hl];exact st
  refine wpAny_pyNext_dict_item st' dat hu fun key h' hkey hit' hs'=>?_;have I1:Inv X pins σ H { s with heap:=h' }:=I.turned (t':=s.toks) (fun b o hb e=>hs'.extBut b o hb e) f0 f1 f3 f4 f5;obtain⟨o,e,c,dd⟩:=id hit';refine⟨key,rfl,Z0 (s:={ s with heap:=h' }) e c dd (by decide) ⟨kV k,H,I1,?_,⟨rfl,_,hx,rfl⟩,by rw[hl];exact hit',fun b hb=>(hf b hb).1⟩⟩;exact zbp hkey
 done:=by
  intro X hP hw hK hc i pins s σ H E I hf st hg;subst hP hw hK;obtain⟨hi,hd⟩:=hg;obtain⟨g,_,_,vs,r,ob',es',ep',g',c1,c2,c3⟩:=(show ObjOk X.prog X.w H s.heap d (.frz ob (.dK kvs))from I.hok d _ hd);have eo:ob'=ob:=by rw[g]at g';injection g' with g';exact g'.symm
  subst eo;rw[hob]at c2;injection c2 with c2 c2'
  subst c2 c2';have dat:s.heap.DictAt (zR X.prog X.w) d vs ep:=⟨ob',es,g,c1,hob,c3⟩;have hl:=r.length;obtain⟨f0,f1,f2,f3,f4,f5⟩:=hf it (by simp);have st':s.heap.IsKeyIter it d i vs.length ep:=by rw[<- hl];exact st
  exact wpAny_pyNext_dict_end (I.ok.hd hc) st' dat (U8 (by lia)) fun h' eb=>⟨rfl,I.turned (t':=s.toks) (fun b o hb e=>eb b o hb e) f0 f1 f3 f4 f5⟩
 self:=fun _ _ _ _ _ st h=>wpAny_pyIter_keyiter st h
def zbH(tl:TE):TI:=fun σ H R=>tl σ H fun x H1=>∃a kvs,x=.ref a/\H1 a=sO (.dK kvs)/\∀ob,R (Itd a ob kvs) (upd H1 a (.frz ob (.dK kvs)))
theorem zaQ{l:Expr}(hl:PE X l tl):PI X tg l (zbH tl):=by
 intro pins s σ H R I h;refine thn (hl pins s σ H _ I h) fun v s1 hq_=>?_;obtain⟨x,H1,I1,r1,q1⟩:=hq_;obtain⟨a,kvs,e,hq,q⟩:=q1;subst e;cases r1;obtain⟨_,hs,vs,r,ob',es,ep,g',c1,c2,c3⟩:=(show ObjOk X.prog X.w H1 s1.heap a (.dK kvs)from I1.hok a _ hq);obtain⟨ob,g,I2⟩:=I1.freeze hq;have eo:ob'=ob:=by rw[g]at g';injection g' with g';exact g'.symm
 subst eo;have dat:s1.heap.DictAt (zR X.prog X.w) a vs ep:=⟨ob',es,g,c1,c2,c3⟩;have hl:=r.length;refine wpAny_pyIter_dict hs dat ?_;refine⟨s1.heap.objs.size,[s1.heap.objs.size],_,_,_,rfl,I2.kept (t':=s1.toks) fun b o e=>ue _ e,W8 _ c2,?_,fun b hb=>?_,q ob'⟩
 ·rw[hl]
  exact⟨_,uu _ rfl,rfl,rfl⟩
 have e:b=s1.heap.objs.size:=by simpa using hb
 subst e;exact I2.fpOk (uj _) (I2.hok.fresh (uj _))
theorem zaR{l:Expr}(hl:jE X l tl):jI X tg l (zbH tl):=⟨zaQ hl.out⟩
section
variable{Q:VK}
theorem zaS(Pv:Nat->St->List V->Hp->Prop)(h0:Pv 0 σ [] H)(hl:∀i τ ys H,i<=kvs.length->Pv i τ ys H->H d=sO (.frz ob (.dK kvs)))
  (hs:∀i kv τ ys H,kvs[i]?=sO kv->Pv i τ ys H->g (kV kv.1) τ H fun τ2 H2=>tt τ2 H2 fun b H3=>if b=tV then te τ2 H3 fun y H4=>ys.length < sizeLine/\Pv (i+1) τ2 (ys++[y]) H4 else Pv (i+1) τ2 ys H3)
  (hd:∀τ ys H,Pv kvs.length τ ys H->∀p,H p=nO->Q (.ref p) (upd H p (.lst ys))):∃W,(∃m,W 0 m σ [] H)/\lcBy (Itd d ob kvs) g tt te Q W:=by
 refine⟨fun i m τ ys H=>m=kvs.length-i/\i<=kvs.length/\Pv i τ ys H,⟨kvs.length,by simp,uK _,h0⟩,?_⟩;rintro i m τ ys H ⟨rfl,hi,p⟩;have q:=hl i τ ys H hi p;by_cases hlt:i < kvs.length
 ·refine .inr ⟨⟨hlt,q⟩,Pv (i+1),fun τ' ys' H' p'=>⟨kvs.length-(i+1),by lia,rfl,hlt,p'⟩,fun x H' y=>?_⟩
  obtain⟨e,kv,y,rfl⟩:=y;subst e;exact hs i kv τ ys _ y p
 ·have e:i=kvs.length:=by lia
  subst e;exact .inl ⟨⟨uj _,q⟩,hd τ ys H p⟩
end
def Qc:List V->Hp->VK->Prop:=fun xs H Q=>∃d kvs,xs=[.ref d]/\H d=sO (.dK kvs)/\∀l,H l=nO->Q (.ref l) (upd H l (.dK kvs))
theorem jm:xB X (.type "dict") Qc:=by
 intro pins s σ H xs us Q I r h;obtain⟨d,kvs,rfl,hd,q⟩:=h;obtain⟨u,rfl,rx⟩:=jt r;cases rx;obtain⟨z,hs,ws,rel,dd⟩:=V2 I.hok hd;refine kt_call_dict (knd:=zR X.prog X.w) hs dd (by rw[<- rel.length];exact z) fun h' dn sb=>?_;have hk:∀b o,s.heap.get? b=sO o->h'.get? b=sO o:=fun b o e=>(sb.2 b (uT (uC e))).trans (ue _ e);refine⟨.ref s.heap.objs.size,_,I.laid (t':=s.toks) hk (uj _) (show ObjOk X.prog X.w _ h' _ (.dK kvs)from⟨z,?_,ws,rel,dn⟩),rfl,q _ (I.hok.fresh (uj _))⟩
 have:=I.big
 exact beq_eq_false_iff_ne.mpr (fun e=>by rw[e]at this;exact Uw _ this)
theorem wV:jCa X (.type "dict") Qc:=⟨jm⟩
end L2
namespace GN
open PySem L2 K11
inductive spLLends(vs:List V)(H:Hp)(Q:VK)(e_3:XK):Prop
 |mk (p:aO) (od:aO) (d:De) (ow:Str->List Bool):(∃N:lS,vs=[.ref p,.ref od]/\IsHd H d p/\WdOk d/\OwA H od ow N/\CaD N ow d/\d.uses.length<=100/\∀H' l,Same H H'->H l=nO->H' l=sO (.lst ((yT ow d).map V.str))->Q (.ref l) H')->spLLends vs H Q e_3
section
variable{K:uc}
theorem Qd:FnScope lS2 lS2 (zt Zs):=.ok
theorem W9(F:Fun K "_law_lends" "_law_lends" Zs f fd)(m_zip:mg "zip"=nO):FnOk P w K mg base CX0 1 f fd lS2 spLLends:=by
 refine F.by Qd (fun vs H Q E h=>?_) (fun cdv A outer s H vs Q E hr h=>?_)
 ·obtain⟨p,od,d,ow,N,rfl,_⟩:=h
  rfl
 obtain⟨p,od,d,ow,N,rfl,hd,hw,hO,hc,hu,q⟩:=h;refine⟨_,
  (zh (zH (tN zM (zp K (jv 0)) zz) (zn (zv (zC (jA2 (zp K (jv 0)) (zp K (jv 0)))))) zB)
  (zh (zH (tN zM (zp K (jv 0)) zz) (zn (zv (yg ["_law_name_here","_law_own"] rfl (yG K rfl m_zip (jA2 (zp K (jv 0)) (yK hr (jv 1) (zp K (jv 0))))) (fun _ _ _ _ _=>(zK K (n:=2) rfl (zu (gN 2 ZM) (zu (gN 3 ZM) zJ)))) (fun _ _ _ _ _=>(yt (xE (yv (jv 3))))) (fun _ _ _ _ _=>(jv 2))))) zB)
  (zn (zv (zC zL))))),?_⟩
 have sl:=zN;cases d with
 |num i =>
  refine(zg rfl (ixT hd aI0 ⟨rfl,(zg rfl (iteF (zg rfl (ixT hd aI0 ⟨rfl,(zg rfl (iteF ⟨sN0,fun l hl=>?_⟩))⟩))))⟩));exact q _ l (zk hl _) hl uX9
 |op w0 a b =>
  refine(zg rfl (ixT hd aI0 ⟨rfl,(zg rfl (iteT (zg rfl (ixT hd aI2 (zg rfl (ixT hd aI3 ⟨sN2,fun l hl=>?_⟩))))))⟩));exact q _ l (zk hl _) hl uX9
 |app w0 f0 xs =>
  obtain⟨qx,rest,hp,hq⟩:=JW hd;refine(zg rfl (ixT hp aI0 ⟨rfl,(zg rfl ?_)⟩));rw[eO (fun e=>hw.2 (V.str.inj e))];refine iteF (zg rfl (ixT hp aI0 ⟨rfl,(zg rfl ?_)⟩));by_cases e2:w0="call"
  ·subst e2
   rw[yi (by decide)]at hu;refine iteT ?_;obtain⟨kv,hkv,hN⟩:=hO;obtain⟨hf,hfl⟩:=hc rfl;obtain⟨ao,ga,hao⟩:=hN _ hf;have eu:yT ow (.app "call" f0 xs)=ltN xs (ow f0):=by unfold yT;exact iP rfl
   have zl:(xs.zip (ow f0)).length=xs.length:=by rw[Ub,hfl,Nat.min_self]
   refine(zg rfl (ixT hp aI2 (zg rfl (zg rfl (ixT hp aI1 ⟨od,.ref ao,rfl,(show DGet H od (kV (.inr f0)) (sO (.ref ao))from ga ▸ DGet.k hkv),qx,ao,fO,fO,_,_,rfl,SqK.t hq,SqK.t hao,xK (xs:=xs.map V.str) (ys:=(ow f0).map V.bl) (by rw[ub,ub];exact hfl.symm) (fun j τ zs H'=>Same H H'/\(∃u v,τ=[sR p,sR od,u,v])/\zs=(((xs.zip (ow f0)).take j).filter fun p=>!p.2).map fun p=>V.str p.1) ⟨Same.refl _,⟨nO,nO,rfl⟩,rfl⟩ (fun j τ zs H' _ h=>⟨SqK.t (h.1 _ _ hq),SqK.t (h.1 _ _ hao)⟩) ?_ ?_⟩)))))
   ·rintro i v1 v2 T τ zs H3 hv1 hv2 hT ⟨s3,⟨u,v,rfl⟩,rfl⟩
    rw[uh]at hv1 hv2;obtain⟨y,hy,rfl⟩:=ug.mp hv1;obtain⟨e,he,rfl⟩:=ug.mp hv2;rw[w6 (Uc (z:=(y,e)).mpr ⟨hy,he⟩)];refine⟨T,(zg rfl ⟨SqT.of uX9,rfl,_,_,rfl,_,_,rfl,rfl,(zg rfl (zg rfl ?_))⟩)⟩;have hfl:((((xs.zip (ow f0)).take i).filter fun p=>!p.2).map fun p=>V.str p.1).length < sizeLine:=by
     rw[ub];refine Ue (uB _ _) ?_;rw[ut];lia
    cases e
    ·exact iteT (zg rfl ⟨hfl,s3.new hT,⟨_,_,rfl⟩,rfl⟩)
    ·exact iteF ⟨s3.new hT,⟨_,_,rfl⟩,(uU _).symm⟩
   rintro τ zs H3 ⟨s3,_,rfl⟩ l hl;rw[ub,uo (by lia)];refine q _ l (s3.new hl) (s3.free hl) ?_;rw[uX9,eu];unfold ltN;rw[UD]
   rfl
  ·rw[eO (fun z=>e2 (V.str.inj z))]
   refine iteF ⟨sN0,fun l hl=>?_⟩;refine q _ l (zk hl _) hl ?_;rw[uX9]
   have:yT ow (.app w0 f0 xs)=[]:=iN e2
   rw[this]
   rfl
theorem Qe{α:Type}{c:α}:∀{a b r s:List α},c∉a->c∉b->a++c::r=b++c::s->a=b
 |[],[],_,_,_,_,_=>rfl
 |[],y::b,r,s,_,hb,e=>by
  injection e with e _
  exact absurd (e ▸ .head _) hb
 |x::a,[],r,s,ha,_,e=>by
  injection e with e _
  exact absurd (e ▸ .head _) ha
 |x::a,y::b,r,s,ha,hb,e=>by
  injection e with e1 e2
  rw[e1,Qe (fun h=>ha (.tail _ h)) (fun h=>hb (.tail _ h)) e2]
theorem Qf(m:Nat):46∉cl (Str.ofString (toString ((m:Nat):Int))):=fun h=>by
 rw[JJ]at h
 have:=JI m 46 h
 lia
theorem zaT(h:nnm x i=nnm y j):i=j:=by
 have e:=congrArg cl h;unfold nnm at e;rw[zY,zY,zY,zY,zY,zY,show cl (".":Str)=[46] by decide +kernel]at e;have e:=congrArg List.reverse e;rw[U3,U3,U3 (as:=cl Str.empty++cl y++[46]),U3 (as:=cl Str.empty++cl y)]at e;have e:=Qe (c:=46) (fun z=>Qf i (List.mem_reverse.mp z)) (fun z=>Qf j (List.mem_reverse.mp z)) e;have e:=List.reverse_inj.mp e;have e3:toString ((i:Nat):Int)=toString ((j:Nat):Int):=by
  rw[Str.ofString_eq_toList,Str.ofString_eq_toList]at e;have e:(toString ((i:Nat):Int)).toList.map Char.toNat=(toString ((j:Nat):Int)).toList.map Char.toNat:=e;exact String.ext ((List.map_inj_right fun _ _=>Char.toNat_inj.mp).mp e)
 exact Int.ofNat.inj (Int.repr_inj.mp e3)
abbrev Sn:=Str->Str
def Sn.put(σ:Sn)(n x:Str):Sn:=fun y=>if y=n then x else σ y
mutual
def wys(ow:Str->List Bool):Hc->Sn->List (List (Str×Int))
 |.give x,σ=>[[(σ x,-1)]]
 |.drop x b,σ=>(wys ow b σ).map ([(σ x,-1)] ++ ·)
 |.hold n x b,σ=>(wys ow b (σ.put n (σ x))).map ([(σ x,0),(σ x,1)] ++ ·)
 |.lt x d b,σ=>(wys ow b σ).map (((ups ow d).map (fun y=>(σ y,(-1:Int)))++(yT ow d).map (fun y=>(σ y,(0:Int)))++[(x,1)]) ++ ·)
 |.iff x a b,σ=>(wys ow a σ).map ([(σ x,0)] ++ ·)++(wys ow b σ).map ([(σ x,0)] ++ ·)
 |.case x as,σ=>wysA ow x as σ
def wysA(ow:Str->List Bool)(x:Str):Ha->Sn->List (List (Str×Int))
 |.nil,_=>[]
 |.cons _ xs m b r,σ=>(wys ow b σ).map ([(σ x,0)]++xs.map (fun y=>(y,(1:Int)))++(if m then[(σ x,-1)]else[]) ++ ·)++wysA ow x r σ
end
def Pays(lent:lS):List (Str×Int)->(Str->Int)->(Str->Int)->Prop
 |[],f,g=>f=g
 | (z,b)::r,f,g=>0<=f z+b/\(b=0->f z=0->z∈lent)/\Pays lent r (fun y=>if y=z then f z+b else f y) g
theorem Pays.app{lent:lS}:∀{w w':List (Str×Int)}{f g h:Str->Int},Pays lent w f g->Pays lent w' g h->Pays lent (w++w') f h
 |[],_,_,_,_,e,p=>by rw[Pays]at e;subst e;exact p
 | (z,b)::r,_,_,_,_,p,p'=>by
  rw[Pays]at p;rw[List.cons_append,Pays];exact⟨p.1,p.2.1,Pays.app p.2.2 p'⟩
def cnt(σ:Sn)(l:lS)(z:Str):Int:=((l.filter fun y=>decide (σ y=z)).length:Nat)
theorem ZR{σ:Sn}{l:lS}(h:y∈l):0 < cnt σ l (σ y):=by
 unfold cnt
 have:0 < (l.filter fun x=>decide (σ x=σ y)).length:=List.length_pos_of_mem (uI.mpr ⟨h,by simp⟩)
 lia
theorem xY{σ:Sn}{l l':lS}:cnt σ (l++l')=fun z=>cnt σ l z+cnt σ l' z:=by
 funext z
 unfold cnt;rw[UY,uf];lia
theorem vD{σ:Sn}:cnt σ [y] z=if z=σ y then 1 else 0:=by
 unfold cnt;by_cases e:σ y=z
 ·rw[List.filter_cons_of_pos (by simpa using e),iP e.symm];rfl
 ·rw[List.filter_cons_of_neg (by simpa using e),iN (Ne.symm e)];rfl
theorem j4{σ:Sn}{y:Str}:∀{l:lS},y∈l->∀z,cnt σ (l.erase y) z=cnt σ l z-(if z=σ y then 1 else 0)
 |[],h,_=>by cases h
 |x::l,h,z=>by
  by_cases e:x=y
  ·subst e
   rw[List.erase_cons_head,show x::l=[x]++l from rfl,xY];dsimp only
   rw[vD];lia
  ·have h':y∈l:=(uy.mp h).resolve_left (Ne.symm e)
   rw[List.erase_cons_tail (by simpa using e),show x::l.erase y=[x]++l.erase y from rfl,show x::l=[x]++l from rfl,xY,xY];dsimp only
   rw[j4 h'];lia
theorem xN{lent:lS}{σ:Sn}:∀{us l l':lS},less l us=sO l'->Pays lent (us.map fun y=>(σ y,(-1:Int))) (cnt σ l) (cnt σ l')
 |[],l,l',h=>by
  unfold less at h;cases h;rw[tG,Pays]
 |u::us,l,l',h=>by
  unfold less at h;by_cases c:u∈l
  ·rw[iP c]at h
   have p:=ZR (σ:=σ) c;rw[uF,Pays];refine⟨by lia,fun e=>absurd e (by decide),?_⟩;rw[show(fun y=>if y=σ u then cnt σ l (σ u) + -1 else cnt σ l y)=cnt σ (l.erase u)from ?_]
   ·exact xN h
   ·funext y
    rw[j4 c];by_cases e:y=σ u
    ·rw[iP e,iP e,e];lia
    ·rw[iN e,iN e];lia
  ·rw[iN c]at h
   cases h
theorem vd{lent:lS}{σ:Sn}{f:Str->Int}(hf:∀z,0<=f z):∀{ys:lS},(∀y∈ys,0 < f (σ y)\/σ y∈lent)->Pays lent (ys.map fun y=>(σ y,(0:Int))) f f
 |[],_=>by rw[tG,Pays]
 |y::ys,h=>by
  rw[uF,Pays];refine⟨by have:=hf (σ y);lia,fun _ e=>(h y (.head _)).resolve_left (by lia),?_⟩;rw[show(fun z=>if z=σ y then f (σ y)+0 else f z)=f from ?_]
  ·exact vd hf fun y hy=>h y (.tail _ hy)
  ·funext z
   by_cases e:z=σ y
   ·rw[iP e,e];lia
   ·rw[iN e]
theorem ZT{σ:Sn}{l:lS}(z:Str):0<=cnt σ l z:=by unfold cnt;lia
theorem ve{lent:lS}{σ:Sn}:∀{xs l:lS},(∀x∈xs,σ x=x)->Pays lent (xs.map fun x=>(x,(1:Int))) (cnt σ l) (cnt σ (l++xs))
 |[],l,_=>by rw[tG,Pays,uU]
 |x::xs,l,h=>by
  have n:=ZT (σ:=σ) (l:=l) x;rw[uF,Pays];refine⟨by lia,fun e=>absurd e (by decide),?_⟩;rw[show(fun y=>if y=x then cnt σ l x+1 else cnt σ l y)=cnt σ (l++[x])from ?_]
  ·have p:=ve (lent:=lent) (xs:=xs) (l:=l++[x]) fun y hy=>h y (.tail _ hy)
   rw[UC]at p;exact p
  ·funext y
   rw[xY];dsimp only
   rw[vD,h x (.head _)];by_cases e:y=x
   ·rw[iP e,iP e,e]
   ·rw[iN e,iN e];lia
mutual
def Hm(ns:lS):Hc->Nat->Prop
 |.give _,_=>True
 |.drop _ b,m=>Hm ns b m
 |.hold n _ b,m=>∃z k,n=nnm z k/\m < k/\Hm ns b k
 |.lt x _ b,m=>x∈ns/\Hm ns b m
 |.iff _ a b,m=>Hm ns a m/\Hm ns b m
 |.case _ as,m=>HmA ns as m
def HmA(ns:lS):Ha->Nat->Prop
 |.nil,_=>True
 |.cons _ xs _ b r,m=>((∀x∈xs,x∈ns)/\Hm ns b m)/\HmA ns r m
end
def Old(ns:lS)(m:Nat)(l:lS):Prop:=∀y∈l,y∈ns\/∃z k,y=nnm z k/\k<=m
theorem Old.mono{l:lS}{k:Nat}(h:Old ns m l)(e:m<=k):Old ns k l:=fun y hy=>(h y hy).imp_right fun⟨z,j,a,b⟩=>⟨z,j,a,uH b e⟩
theorem Old.app{l xs:lS}(h:Old ns m l)(g:∀x∈xs,x∈ns):Old ns m (l++xs):=fun y hy=>(ux.mp hy).elim (h y) fun z=>.inl (g y z)
theorem YS:∀{us l l':lS},less l us=sO l'->∀y∈l',y∈l
 |[],l,l',h,y,hy=>by unfold less at h;cases h;exact hy
 |u::us,l,l',h,y,hy=>by
  unfold less at h;by_cases c:u∈l
  ·rw[iP c]at h
   exact List.mem_of_mem_erase (YS h y hy)
  ·rw[iN c]at h
   cases h
theorem Old.less{l l' us:lS}(h:Old ns m l)(e:less l us=sO l'):Old ns m l':=fun y hy=>h y (YS e y hy)
theorem zaU{σ:Sn}:cnt σ []=fun _=>0:=by funext z;rfl
theorem vf{l:lS}{σ:Sn}(hs:∀y∈lent,σ y=y)(h:x∈l\/x∈lent):Pays lent [(σ x,0)] (cnt σ l) (cnt σ l) :=
 vd (ys:=[x]) ZT fun y hy=>by
  rw[uk.mp hy];exact h.imp ZR fun z=>by rw[hs x z];exact z
theorem zaV{σ:Sn}{l:lS}{n:Str}(h:n∉l):cnt (σ.put n x) l=cnt σ l:=by
 funext z
 unfold cnt;rw[U1 fun y hy=>?_];unfold Sn.put;rw[iN (fun(e:y=n)=>h (e ▸ hy))]
section
variable(hdot:∀z k,nnm z k∉ns)(hl:∀y∈lent,y∈ns)
include hdot hl
mutual
theorem xi:∀(c:Hc)(l:lS)(σ:Sn)(m:Nat),wk ow lent c l=tV->Hm ns c m->Old ns m l->(∀y∈ns,σ y=y)->∀w∈wys ow c σ,Pays lent w (cnt σ l) (fun _=>0)
 |.give x,l,σ,m,hw,hm,ho,hs,w,h=>by
  rw[wk,dA]at hw;rw[wys,uk]at h;subst hw h;have e:less [x] [x]=sO []:=by unfold less;rw[iP (.head _),List.erase_cons_head];unfold less;rfl
  have p:=xN (lent:=lent) (σ:=σ) e;rw[zaU]at p;exact p
 |.drop x b,l,σ,m,hw,hm,ho,hs,w,h=>by
  rw[wk]at hw;rw[Hm]at hm;rw[wys]at h;obtain⟨w',hw',rfl⟩:=uq.mp h;cases e:less l [x]with
  |none=>rw[e]at hw;cases hw
  |some l' =>
   rw[e]at hw;exact(xN (lent:=lent) (σ:=σ) e).app (xi b l' σ m hw hm (ho.less e) hs w' hw')
 |.lt x d b,l,σ,m,hw,hm,ho,hs,w,h=>by
  rw[wk]at hw;rw[Hm]at hm;rw[wys]at h;obtain⟨w',hw',rfl⟩:=uq.mp h;cases e:less l (ups ow d)with
  |none=>rw[e]at hw;cases hw
  |some l' =>
   rw[e]at hw;obtain⟨h1,h2⟩:=(uS _ _).mp hw;refine(((xN (lent:=lent) (σ:=σ) e).app (vd ZT fun y hy=>?_)).app (ve (xs:=[x]) fun y hy=>?_)).app (xi b (l'++[x]) σ m h2 hm.2 ((ho.less e).app fun y hy=>?_) hs w' hw')
   ·have:=UF.mp h1 y hy
    rw[Uj,dA,dA]at this;exact this.imp ZR fun z=>by rw[hs y (hl y z)];exact z
   ·rw[uk.mp hy];exact hs x hm.1
   ·rw[uk.mp hy];exact hm.1
 |.hold n x b,l,σ,m,hw,hm,ho,hs,w,h=>by
  rw[wk,uS,Uj,dA,dA]at hw;rw[Hm]at hm;obtain⟨z,k,rfl,mk,hm⟩:=hm;rw[wys]at h;obtain⟨w',hw',rfl⟩:=uq.mp h;have nl:nnm z k∉l:=fun q=>(ho _ q).elim (hdot z k) fun⟨z',k',e,le⟩=>by have:=zaT e;lia
  have p:=xi b (l++[nnm z k]) (σ.put (nnm z k) (σ x)) k hw.2 hm (fun y hy=>(ux.mp hy).elim (fun q=>(ho.mono (Nat.le_of_lt mk)) y q) fun q=>.inr ⟨z,k,uk.mp q,uj _⟩) (fun y hy=>by unfold Sn.put;rw[iN (fun(e:y=nnm z k)=>hdot z k (e ▸ hy))];exact hs y hy) w' hw';refine(vf (fun y hy=>hs y (hl y hy)) hw.1).app (w':=(σ x,1)::w') ?_;have n:=ZT (σ:=σ) (l:=l) (σ x);rw[Pays];refine⟨by lia,fun e=>absurd e (by decide),?_⟩;rw[show(fun y=>if y=σ x then cnt σ l (σ x)+1 else cnt σ l y)=cnt (σ.put (nnm z k) (σ x)) (l++[nnm z k])from ?_]
  ·exact p
  ·rw[xY,zaV nl]
   funext y
   rw[vD];have e:σ.put (nnm z k) (σ x) (nnm z k)=σ x:=by unfold Sn.put;exact iP rfl
   rw[e];by_cases c:y=σ x
   ·rw[iP c,iP c,c]
   ·rw[iN c,iN c];lia
 |.iff x a b,l,σ,m,hw,hm,ho,hs,w,h=>by
  rw[wk,uS,Uj,dA,dA,uS]at hw;rw[Hm]at hm;rw[wys]at h;have p:=vf (σ:=σ) (fun y hy=>hs y (hl y hy)) hw.1;rcases ux.mp h with h|h
  ·obtain⟨w',hw',rfl⟩:=uq.mp h
   exact p.app (xi a l σ m hw.2.1 hm.1 ho hs w' hw')
  ·obtain⟨w',hw',rfl⟩:=uq.mp h
   exact p.app (xi b l σ m hw.2.2 hm.2 ho hs w' hw')
 |.case x as,l,σ,m,hw,hm,ho,hs,w,h=>by
  rw[wk,uS,Uj,dA,dA]at hw;rw[Hm]at hm;rw[wys]at h;exact YT as x l σ m (vf (fun y hy=>hs y (hl y hy)) hw.1) hw.2 hm ho hs w h
theorem YT:∀(as:Ha)(x:Str)(l:lS)(σ:Sn)(m:Nat),Pays lent [(σ x,0)] (cnt σ l) (cnt σ l)->wkA ow lent x as l=tV->HmA ns as m->Old ns m l->(∀y∈ns,σ y=y)->∀w∈wysA ow x as σ,Pays lent w (cnt σ l) (fun _=>0)
 |.nil,x,l,σ,m,p,hw,hm,ho,hs,w,h=>by rw[wysA]at h;cases h
 |.cons t xs md b r,x,l,σ,m,p,hw,hm,ho,hs,w,h=>by
  rw[wkA,uS]at hw;rw[HmA]at hm;rw[wysA]at h;rcases ux.mp h with h|h
  ·obtain⟨w',hw',rfl⟩:=uq.mp h
   have pb:=ve (lent:=lent) (σ:=σ) (xs:=xs) (l:=l) fun y hy=>hs y (hm.1.1 y hy);cases md with
   |false =>
    exact((p.app pb).app (w':=[]) (by rw[Pays])).app (xi b (l++xs) σ m hw.1 hm.1.2 (ho.app hm.1.1) hs w' hw')
   |true =>
    have hw1:=hw.1;simp only[if_true]at hw1
    cases e:less l [x]with
    |none=>rw[e]at hw1;cases hw1
    |some l' =>
     rw[e]at hw1;have xl:x∈l:=by
      unfold less at e;by_cases c:x∈l
      ·exact c
      ·rw[iN c]at e;cases e
     have el:l'=l.erase x:=by
      unfold less at e;rw[iP xl]at e;unfold less at e;exact(uX.inj e).symm
     have e2:less (l++xs) [x]=sO (l'++xs):=by
      unfold less;rw[iP (uz _ xl)];unfold less;rw[List.erase_append_left _ xl,el]
     exact((p.app pb).app (xN e2)).app (xi b (l'++xs) σ m hw1 hm.1.2 ((ho.less e).app hm.1.1) hs w' hw')
  ·exact YT r x l σ m p hw.2 hm.2 ho hs w h
end
end
mutual
theorem Hm.mono{ns:lS}:∀{c:Hc}{m k:Nat},Hm ns c k->m<=k->Hm ns c m
 |.give _,_,_,_,_=>by rw[Hm];trivial
 |.drop _ b,m,k,h,e=>by rw[Hm]at h ⊢;exact Hm.mono h e
 |.hold n _ b,m,k,h,e=>by
  rw[Hm]at h ⊢;obtain⟨z,j,h1,h2,h3⟩:=h;exact⟨z,j,h1,Ue e h2,h3⟩
 |.lt x _ b,m,k,h,e=>by rw[Hm]at h ⊢;exact⟨h.1,Hm.mono h.2 e⟩
 |.iff _ a b,m,k,h,e=>by rw[Hm]at h ⊢;exact⟨Hm.mono h.1 e,Hm.mono h.2 e⟩
 |.case _ as,m,k,h,e=>by rw[Hm]at h ⊢;exact HmA.mono h e
theorem HmA.mono{ns:lS}:∀{as:Ha}{m k:Nat},HmA ns as k->m<=k->HmA ns as m
 |.nil,_,_,_,_=>by rw[HmA];trivial
 |.cons _ xs _ b r,m,k,h,e=>by rw[HmA]at h ⊢;exact⟨⟨h.1.1,Hm.mono h.1.2 e⟩,HmA.mono h.2 e⟩
end
theorem Hm.wD{ns:lS}{c:Hc}{m:Nat}(h:Hm ns c m):∀ds:lS,Hm ns (wD ds c) m
 |[]=>h
 |x::ds=>by
  show Hm ns (.drop x (GN.wD ds c)) m;rw[Hm];exact Hm.wD h ds
theorem Hm.wH{ns fr:lS}{c:Hc}:∀(xs st:lS)(m:Nat),Hm ns c (spr fr st xs m).2.2->Hm ns (wH (spr fr st xs m).2.1 c) m
 |[],st,m,h=>by unfold spr at h ⊢;exact h
 |x::xs,st,m,h=>by
  unfold spr at h ⊢;split at h
  ·rename_i e
   rw[iP e];exact Hm.wH xs _ m h
  ·rename_i e
   rw[iN e];show Hm ns (.hold (nnm x (m+1)) x (GN.wH _ c)) m;rw[Hm];exact⟨x,m+1,rfl,UW _,Hm.wH xs _ (m+1) h⟩
mutual
theorem j5(ns:lS)(ow:Str->List Bool):∀(b:Bd)(l:lS)(m:Nat),m<=(hB ns ow b l m).2
 |.give x,l,m=>by
  rw[hB];exact(yO _ _ _).2.1
 |.lt x d b,l,m=>by
  rw[hB];exact uH (yO _ _ _).2.1 (j5 ns ow b _ _)
 |.iff x a b,l,m=>by
  rw[hB];exact uH (j5 ns ow a _ _) (j5 ns ow b _ _)
 |.case x as,l,m=>by
  rw[hB];exact zbI ns ow x _ as m
theorem zbI(ns:lS)(ow:Str->List Bool)(x:Str)(r:lS):∀(as:Arms)(m:Nat),m<=(hA ns ow x r as m).2
 |.nil,m=>by rw[hA];exact uj _
 |.cons t xs b as,m=>by
  rw[hA];exact uH (j5 ns ow b _ _) (zbI ns ow x r as _)
end
mutual
theorem YU{ns:lS}{ow:Str->List Bool}:∀(b:Bd)(l:lS)(m:Nat),(∀x∈b.binds,x∈ns)->Hm ns (hB ns ow b l m).1 m
 |.give x,l,m,h=>by
  rw[hB];dsimp only
  rw[wS];exact Hm.wD (Hm.wH _ _ _ (by rw[Hm];trivial)) _
 |.lt x d b,l,m,h=>by
  rw[Bd.binds]at h;rw[hB];dsimp only
  refine Hm.wD ?_ _;unfold spL;rw[wS];refine Hm.wH _ _ _ ?_;rw[Hm];exact⟨h x (.head _),YU b _ _ fun y hy=>h y (.tail _ hy)⟩
 |.iff x a b,l,m,h=>by
  rw[Bd.binds]at h;rw[hB];dsimp only
  refine Hm.wD ?_ _;rw[Hm];exact⟨YU a _ _ fun y hy=>h y (uz _ hy),(YU b _ _ fun y hy=>h y (uv _ hy)).mono (j5 ns ow a _ _)⟩
 |.case x as,l,m,h=>by
  rw[Bd.binds]at h;rw[hB];dsimp only
  refine Hm.wD ?_ _;rw[Hm];exact Qg x _ as m h
theorem Qg{ns:lS}{ow:Str->List Bool}(x:Str)(r:lS):∀(as:Arms)(m:Nat),(∀x∈as.binds,x∈ns)->HmA ns (hA ns ow x r as m).1 m
 |.nil,m,_=>by rw[hA,HmA];trivial
 |.cons t xs b as,m,h=>by
  rw[Arms.binds]at h;rw[hA,HmA];exact⟨⟨fun y hy=>h y (uz _ hy),YU b _ _ fun y hy=>h y (uv _ (uz _ hy))⟩,(Qg x r as _ fun y hy=>h y (uv _ (uv _ hy))).mono (j5 ns ow b _ _)⟩
end
abbrev sLOn:Stmt:=top 48
abbrev ZU:Stmt:=top 49
abbrev XH:Stmt:=top 51
inductive SnD(H:Hp)(d:aO)(σ:Sn)(n:Nat):Prop
 |mk (kvs:List (Key×V)):H d=sO (.dK kvs)->kvs.length<=n->(∀x,(valV kvs (.inr x)).getD (.str x)=.str (σ x))->SnD H d σ n
theorem SnD.same{σ:Sn}(h:SnD H d σ n)(s:Same H H'):SnD H' d σ n:=by
 obtain⟨kvs,a,b,c⟩:=h;exact⟨kvs,s _ _ a,b,c⟩
inductive spMarks(vs:List V)(H:Hp)(Q:VK)(e_3:XK):Prop
 |mk (l:aO) (d:aO) (xs:lS) (by_:Int) (σ:Sn):(∃n:Nat,vs=[.ref l,.int by_,.ref d]/\H l=sO (.lst (xs.map V.str))/\xs.length<=1000000/\SnD H d σ n/\∀(H':Hp)(r:aO)(ps:List aO),Same H H'->H r=nO->H' r=sO (.lst (ps.map V.ref))->Tps H' (xs.map fun y=>(σ y,by_)) ps->Q (.ref r) H')->spMarks vs H Q e_3
theorem zaW:FnScope lS15 lS15 (zt ZU):=.ok
theorem zaX:(["_law_names","_law_by","_law_stands","_law_name_here"]:lS).Nodup:=by decide +kernel
theorem Qh(F:Fun K "_law_marks" "_law_marks" ZU f fd):FnOk P w K mg base CX0 1 f fd lS15 spMarks:=by
 refine F.by zaW (fun vs H Q E h=>?_) (fun cdv A outer s H vs Q E hr h=>?_)
 ·obtain⟨l,d,xs,by_,σ,n,rfl,_⟩:=h
  rfl
 obtain⟨l,d,xs,by_,σ,n,rfl,hl,hx,hd,q⟩:=h;refine⟨_,(zn (zv (yg ["_law_name_here"] rfl (zP K (jv 0)) (fun _ _ _ _ _=>(gN 3 zaX)) (fun _ _ _ _ _=>zW) (fun _ _ _ _ _=>(zA (jA2 (wM hr (jv 2) (jv 3) (jv 3)) (jv 1))))))),?_⟩;have sl:=zN;obtain⟨kvs,d1,d2,d3⟩:=hd;refine zg rfl ⟨l,rfl,⟨_,SqL.of hl⟩,yp (xs:=xs.map V.str) (fun j τ ys H'=>Same H H'/\(∃v,τ=[sR l,sO (.int by_),sR d,v])/\∃ps:List aO,ys=ps.map V.ref/\Tps H' ((xs.take j).map fun y=>(σ y,by_)) ps) ⟨Same.refl _,⟨nO,rfl⟩,[],rfl,.nil⟩ (fun j τ ys H' _ h=>SqL.of (h.1 _ _ hl)) ?_ ?_⟩
 ·rintro j v τ ys H1 hv ⟨s1,⟨v',rfl⟩,ps,rfl,hp⟩
  obtain⟨x,hx1,rfl⟩:=L2.gM hv;have jl:=(ud.mp hx1).1;have pl:=hp.len;rw[ub,ut]at pl;refine zg rfl ⟨d,rfl,.inl ⟨kvs,.inl (s1 _ _ d1)⟩,zq rfl rfl ⟨_,.inl ⟨kvs,.inr x,.inl (s1 _ _ d1),rfl,rfl⟩,?_⟩⟩;rw[d3];refine zg rfl ⟨sN2,fun t ht=>⟨by rw[ub];lia,s1.new ht,⟨_,rfl⟩,ps++[t],by rw[ur];rfl,?_⟩⟩;rw[uD,hx1,ur];exact(hp.keep (.of (zk ht _))).app (.cons uX9 .nil)
 ·rintro τ ys H1 ⟨s1,_,ps,rfl,hp⟩ r hr
  rw[ub,uo (uj _)]at hp;exact q _ r ps (s1.new hr) (s1.free hr) uX9 (hp.keep (.of (zk hr _)))
def WyR(H:Hp)(w:List (Str×Int))(p:aO):Prop:=∃ts:List aO,H p=sO (.lst (ts.map V.ref))/\Tps H w ts
theorem WyR.same{w:List (Str×Int)}(h:WyR H w p)(s:Same H H'):WyR H' w p:=by obtain⟨ts,a,b⟩:=h;exact⟨ts,s _ _ a,b.keep (.of s)⟩
structure WyS(H:Hp)(c:Hc)(v:V)(od d:aO)(σ:Sn)(n:Nat)(ow:Str->List Bool)(N:lS):Prop where
 hc:IsHc H c v
 ok:c.Ok N ow
 ho:OwA H od ow N
 hd:SnD H d σ n
 ln:n+c.dp<=10000
mutual
def Hc.wn:Hc->Nat
 |.give _=>1
 |.drop _ b=>b.wn
 |.hold _ _ b=>b.wn
 |.lt _ _ b=>b.wn
 |.iff _ a b=>a.wn+b.wn
 |.case _ as=>as.wn
def Ha.wn:Ha->Nat
 |.nil=>0
 |.cons _ _ _ b r=>b.wn+r.wn
end
inductive spWys(n:Nat)(vs:List V)(H:Hp)(Q:VK)(e_3:XK):Prop
 |mk (c:Hc) (v:V) (od:aO) (d:aO) (σ:Sn) (m:Nat) (ow:Str->List Bool):(∃N:lS,vs=[v,.ref od,.ref d]/\WyS H c v od d σ m ow N/\c.dp<=n/\c.wn<=1000000/\∀(H':Hp)(r:aO)(ps:List aO),Same H H'->H r=nO->H' r=sO (.lst (ps.map V.ref))->All2 (WyR H') (wys ow c σ) ps->(∀w∈wys ow c σ,w.length<=1000*c.dp)->(wys ow c σ).length=c.wn->Q (.ref r) H')->spWys n vs H Q e_3
inductive spOn(n:Nat)(vs:List V)(H:Hp)(Q:VK)(e_3:XK):Prop
 |mk (lm:aO) (c:Hc) (v:V) (od:aO) (d:aO) (σ:Sn) (m:Nat) (ow:Str->List Bool) (N:lS) (mk:List (Str×Int)):(∃ms:List aO,vs=[.ref lm,v,.ref od,.ref d]/\H lm=sO (.lst (ms.map V.ref))/\Tps H mk ms/\mk.length<=1000/\WyS H c v od d σ m ow N/\c.dp<=n/\c.wn<=1000000/\∀(H':Hp)(r:aO)(ps:List aO),Same H H'->H r=nO->H' r=sO (.lst (ps.map V.ref))->All2 (WyR H') ((wys ow c σ).map (mk ++ ·)) ps->(∀w∈wys ow c σ,w.length<=1000*c.dp)->(wys ow c σ).length=c.wn->Q (.ref r) H')->spOn n vs H Q e_3
theorem scOn:FnScope lS3 lS3 (zt sLOn):=.ok
theorem ndOn:(["_law_marks_here","_law_body_here","_law_owns_here","_law_stands","_law_way"]:lS).Nodup:=by decide +kernel
theorem zdW(F:Fun K "_law_on" "_law_on" sLOn f fd)(GW:Ca P w K mg base CX0 (2+2*n) "_law_ways" lS1 (spWys n)):FnOk P w K mg base CX0 (2+2*n+1) f fd lS3 (spOn n):=by
 refine F.by scOn (fun vs H Q E h=>?_) (fun cdv A outer s H vs Q E hr h=>?_)
 ·obtain⟨lm,c,v,od,d,σ,m,ow,N,mk,ms,rfl,_⟩:=h
  rfl
 obtain⟨lm,c,v,od,d,σ,m,ow,N,mk,ms,rfl,hlm,hmk,hml,hW,hdp,hwn,q⟩:=h;refine⟨_,(zn (zv (yg ["_law_way"] rfl (zP K (cA GW hr (jA3 (jv 1) (jv 2) (jv 3)))) (fun _ _ _ _ _=>(gN 4 ndOn)) (fun _ _ _ _ _=>zW) (fun _ _ _ _ _=>(zx yw (jv 0) (jv 4)))))),?_⟩;have sl:=zN;have hln:=hW.ln;have mkl:=hmk.len;refine zq rfl rfl (zg rfl ⟨c,v,od,d,σ,m,ow,N,rfl,hW,hdp,hwn,fun H1 r1 ps s1 f1 h1 ha hwl hwc=>?_⟩);have pl:=ha.len;refine⟨r1,rfl,⟨_,SqL.of h1⟩,yp (xs:=ps.map V.ref) (fun j τ ys H'=>Same H1 H'/\(∃z,τ=[sR lm,sO v,sR od,sR d,z])/\∃qs:List aO,ys=qs.map V.ref/\All2 (WyR H') (((wys ow c σ).take j).map (mk ++ ·)) qs) ⟨Same.refl _,⟨nO,rfl⟩,[],rfl,.nil⟩ (fun j τ ys H' _ h=>SqL.of (h.1 _ _ h1)) ?_ ?_⟩
 ·rintro j u τ ys H2 hv ⟨s2,⟨z,rfl⟩,qs,rfl,hq⟩
  obtain⟨p,hp,rfl⟩:=L2.gM hv;obtain⟨wy,hwy,ts,g1,g2⟩:=ha.get hp;have jl:=(ud.mp hwy).1;have ql:=hq.len;rw[ub,ut]at ql;have tl:=g2.len;have wl:=hwl wy (uw hwy);refine zq rfl rfl ⟨lm,p,zw rfl rfl ⟨s2 _ _ (s1 _ _ hlm),s2 _ _ g1,by rw[ub,ub];lia,fun l3 h3=>⟨by rw[ub];lia,s2.new h3,⟨_,rfl⟩,qs++[l3],by rw[ur];rfl,?_⟩⟩⟩;rw[uD,hwy,ur];have s3:=zk (o:=.lst (ms.map V.ref++ts.map V.ref)) h3;refine(hq.imp fun _ _ h=>h.same s3).app (.cons ⟨ms++ts,by rw[uX9,ur],?_⟩ .nil);exact((hmk.keep (.of ((s1.trans s2).trans s3)))).app (g2.keep (.of (s2.trans s3)))
 ·rintro τ ys H2 ⟨s2,_,qs,rfl,hq⟩ r hr
  rw[ub,<- pl,uo (uj _)]at hq;have s3:=zk (o:=.lst (qs.map V.ref)) hr;exact q _ r qs ((s1.trans s2).new hr) ((s1.trans s2).free hr) uX9 (hq.imp fun _ _ h=>h.same s3) hwl hwc
theorem scWys:FnScope ["_law_body_here","_law_owns_here","_law_stands","_law_more","_law_marks_here","_law_look","_law_found","_law_tag","_law_names","_law_mode","_law_token","_law_inner"] lS1 (zt Zn):=.ok
theorem zdX:(["_law_body_here","_law_owns_here","_law_stands","_law_more","_law_marks_here","_law_look","_law_found","_law_tag","_law_names","_law_mode","_law_token","_law_inner","_law_name_here"]:lS).Nodup:=by decide +kernel
theorem zaY(F:Fun K "_law_ways" "_law_ways" Zn f fd):FnOk P w K mg base CX0 (2+2*0) f fd lS1 (spWys 0):=by
 refine F.by (k:=1) scWys (fun vs H Q E h=>?_) (fun cdv A outer s H vs Q E hr h=>?_)
 ·obtain⟨c,v,od,d,σ,m,ow,N,rfl,_⟩:=h
  rfl
 obtain⟨c,v,od,d,σ,m,ow,N,rfl,_,hd,_⟩:=h;exact absurd hd (Nat.not_le_of_gt c.dp_pos)
theorem SnD.get{σ:Sn}(h:SnD H d σ n)(x:Str):∃o,DGet H d (.str x) o/\o.getD (.str x)=.str (σ x):=by
 obtain⟨kvs,h1,_,h3⟩:=h;exact⟨_,.inl ⟨kvs,.inr x,.inl h1,rfl,rfl⟩,h3 x⟩
theorem SnD.isd{σ:Sn}(h:SnD H d σ n):IsD H d:=by
 obtain⟨kvs,h1,_⟩:=h;exact .inl ⟨kvs,.inl h1⟩
theorem SnD.put{σ:Sn}(l:kvs.length<=n)(v:∀x,(valV kvs (.inr x)).getD (.str x)=.str (σ x)):SnD (upd H d (.dK (putK kvs (.inr x) (.str y)))) d (σ.put x y) (n+1):=by
 refine⟨_,uX9,?_,fun z=>?_⟩
 ·unfold putK
  split
  ·rw[ub];lia
  ·rw[uf];exact Nat.succ_le_succ l
 ·rw[xI]
  unfold Sn.put;by_cases e:z=x
  ·rw[iP (by rw[e]),iP e];rfl
  ·rw[iN (fun q=>e (Sum.inr.inj q)),iN e]
   exact v z
theorem zdo{d:De}(h:d.uses.length<=100):(ups ow d).length<=100/\(yT ow d).length<=100:=by
 cases d with
 |num i=>exact⟨uK _,uK _⟩
 |op w a b=>exact⟨uK _,by show 2<=100;decide⟩
 |app w0 g xs =>
  unfold ups yT;by_cases e:w0="ask"
  ·subst e
   rw[yy]at h;dsimp only
   rw[iP rfl,iN (by decide)];exact⟨h,uK _⟩
  ·rw[yi e]at h
   dsimp only
   rw[iN e];by_cases e2:w0="call"
   ·rw[iP e2,iP e2]
    have z:(xs.zip (ow g)).length<=xs.length:=by rw[Ub];exact Nat.min_le_left _ _
    unfold upN ltN;rw[ub,ub];exact⟨uH (uH (uB _ _) z) h,uH (uH (uB _ _) z) h⟩
   ·rw[iN e2,iN e2]
    exact⟨h,uK _⟩
def Ha.ls:Ha->List (Str×lS×Bool×Hc)
 |.nil=>[]
 |.cons t xs m b r=>(t,xs,m,b)::r.ls
def aW(ow:Str->List Bool)(x:Str)(σ:Sn)(a:Str×lS×Bool×Hc):List (List (Str×Int)):=(wys ow a.2.2.2 σ).map ([(σ x,0)]++a.2.1.map (fun y=>(y,(1:Int)))++(if a.2.2.1 then[(σ x,-1)]else[]) ++ ·)
theorem Wj{ow:Str->List Bool}{x:Str}{σ:Sn}:∀as:Ha,wysA ow x as σ=(as.ls.map (aW ow x σ)).flatten
 |.nil=>by rw[wysA];rfl
 |.cons t xs m b r=>by rw[wysA,Wj r];rfl
def lsn(l:List (Str×lS×Bool×Hc)):Nat:=(l.map fun a=>a.2.2.2.wn).sum
theorem Ha.lsn:∀as:Ha,GN.lsn as.ls=as.wn
 |.nil=>by rw[Ha.wn];rfl
 |.cons t xs m b r=>by rw[Ha.wn,<- Ha.lsn r];rfl
theorem Qi{l:List (Str×lS×Bool×Hc)}{a:Str×lS×Bool×Hc}(h:l[i]?=sO a):lsn (l.take (i+1))=lsn (l.take i)+a.2.2.2.wn:=by
 unfold lsn;rw[uD,h,ur,List.sum_append]
 rfl
theorem zdp(l:List (Str×lS×Bool×Hc))(i:Nat):lsn (l.take i)<=lsn l:=by
 have:lsn (l.take i++l.drop i)=lsn (l.take i)+lsn (l.drop i):=by unfold lsn;rw[ur,List.sum_append]
 rw[List.take_append_drop]at this;lia
theorem IsHa.ge{H:Hp}{N:lS}{ow:Str->List Bool}:∀{as:Ha}{vs:List V},IsHa H as vs->as.Ok N ow->∀{i:Nat}{v:V},vs[i]?=sO v->∃(a:Str×lS×Bool×Hc)(p q:aO)(u:V),as.ls[i]?=sO a/\v=.ref p/\H p=sO (.tup [.str a.1,.ref q,.str (yE a.2.2.1),.str "",u])/\H q=sO (.tup (a.2.1.map V.str))/\IsHc H a.2.2.2 u/\a.2.1.length<=100/\a.2.2.2.Ok N ow/\a.2.2.2.dp<=as.dp
 |.nil,vs,h,_,i,v,e=>by rw[IsHa]at h;rw[h]at e;simp at e
 |.cons t xs m b r,vs,h,ho,i,v,e=>by
  obtain⟨p,q,u,vs',rfl,h1,h2,h3,h4⟩:=h;obtain⟨⟨o1,o2⟩,o3⟩:=show(xs.length<=100/\b.Ok N ow)/\r.Ok N ow from ho
  rw[Ha.dp];cases i with
  |zero=>cases e;exact⟨(t,xs,m,b),p,q,u,rfl,rfl,h1,h2,h3,o1,o2,Nat.le_max_left _ _⟩
  |succ i =>
   obtain⟨a,p',q',u',g1,g2,g3,g4,g5,g6,g7,g8⟩:=IsHa.ge h4 o3 (i:=i) (by simpa using e);exact⟨a,p',q',u',g1,g2,g3,g4,g5,g6,g7,uH g8 (Nat.le_max_right _ _)⟩
theorem IsHa.ll{H:Hp}:∀{as:Ha}{vs:List V},IsHa H as vs->as.ls.length=vs.length
 |.nil,vs,h=>by rw[IsHa]at h;rw[h];rfl
 |.cons t xs m b r,vs,⟨p,q,u,vs',e,_,_,_,h⟩=>by rw[e,Ha.ls,um,um,IsHa.ll h]
theorem zdq(F:Fun K "_law_ways" "_law_ways" Zn f fd)(GM:Ca P w K mg base CX0 1 "_law_marks" lS15 spMarks)(GO:Ca P w K mg base CX0 (2+2*n+1) "_law_on" lS3 (spOn n))(GU:Ca P w K mg base CX0 1 "_law_ups" lS2 spLUps)(GL:Ca P w K mg base CX0 1 "_law_lends" lS2 spLLends)(m_dict:mg "dict"=nO):FnOk P w K mg base CX0 (2+2*(n+1)) f fd lS1 (spWys (n+1)):=by
 refine F.by (k:=2+2*n+1) scWys (fun vs H Q E h=>?_) (fun cdv A outer s H vs Q E hr h=>?_)
 ·obtain⟨c,v,od,d,σ,m,ow,N,rfl,_⟩:=h
  rfl
 obtain⟨c,v,od,d,σ,m,ow,N,rfl,hW,hdp,hwn,q⟩:=h;have hrO:Room (2+2*n+1) _:=hr;have hr1:Room 1 _:=hrO.mono (by lia);refine⟨_,
  (zh (zH (tN zM (zp K (jv 0)) zz)
   (zn (zv (zC (jA1 (cA GM hr1 (jA3 (zC (jA1 (zp K (jv 0)))) (y0 zo) (jv 2))))))) zB)
  (zh (zH (tN zM (zp K (jv 0)) zz)
   (zn (zv (cA GO hrO (jA4 (cA GM hr1 (jA3 (zC (jA1 (zp K (jv 0)))) (y0 zo) (jv 2))) (zp K (jv 0)) (jv 1) (jv 2))))) zB)
  (zh (zH (tN zM (zp K (jv 0)) zz)
   (zh (sE 3 scWys.nd (zS wV rfl m_dict PyProof.Rows.boot_dict (jA1 (jv 2))))
   (zh (xw hr1 (jv 3) (zp K (jv 0)) (wM hr1 (jv 2) (zp K (jv 0)) (zp K (jv 0))))
   (zh (sE 4 scWys.nd (zx yw (cA GM hr1 (jA3 (zC (jA1 (zp K (jv 0)))) zo (jv 2))) (cA GM hr1 (jA3 (zC (jA1 (zp K (jv 0)))) zo (jv 2)))))
   (zn (zv (cA GO hrO (jA4 (jv 4) (zp K (jv 0)) (jv 1) (jv 3)))))))) zB)
  (zh (zH (tN zM (zp K (jv 0)) zz)
   (zh (sE 4 scWys.nd (zx yw (cA GM hr1 (jA3 (cA GU hr1 (jA2 (zp K (jv 0)) (jv 1))) (y0 zo) (jv 2))) (cA GM hr1 (jA3 (cA GL hr1 (jA2 (zp K (jv 0)) (jv 1))) zo (jv 2)))))
   (zn (zv (cA GO hrO (jA4 (zx yw (jv 4) (zC (jA1 (zA (jA2 (zp K (jv 0)) zo))))) (zp K (jv 0)) (jv 1) (jv 2)))))) zB)
  (zh (sE 5 scWys.nd (cA GM hr1 (jA3 (zC (jA1 (zp K (jv 0)))) zo (jv 2))))
  (zh (zH (tN zM (zp K (jv 0)) zz)
   (zn (zv (zx yw (cA GO hrO (jA4 (jv 5) (zp K (jv 0)) (jv 1) (jv 2))) (cA GO hrO (jA4 (jv 5) (zp K (jv 0)) (jv 1) (jv 2)))))) zB)
  (zh (sE 6 scWys.nd (zC zL))
  (zh (ya PassesOwn.never rfl (yF K (zp K (jv 0))) (zK K rfl (zu (gN 7 scWys.nd) (zu (gN 8 scWys.nd) (zu (gN 9 scWys.nd) (zu (gN 10 scWys.nd) (zu (gN 11 scWys.nd) zJ))))))
   (zh (sE 4 scWys.nd (zx yw (jv 5) (yg ["_law_name_here"] rfl (yF K (jv 8)) (fun _ _ _ _ _=>(gN 12 zdX)) (fun _ _ _ _ _=>zW) (fun _ _ _ _ _=>(zA (jA2 (jv 12) zo))))))
   (zh (zH (tN zM (jv 9) zz)
    (zn (sE 4 scWys.nd (zx yw (jv 4) (cA GM hr1 (jA3 (zC (jA1 (zp K (jv 0)))) (y0 zo) (jv 2)))))) zB)
   (zn (sE 6 scWys.nd (zx yw (jv 6) (cA GO hrO (jA4 (jv 4) (jv 11) (jv 1) (jv 2)))))))))
  (zn (zv (jv 6))))))))))),?_⟩
 have sl:=zN;obtain⟨hI,hok,hO,hD,hln⟩:=id hW;have mk1:∀{H':Hp}{l:aO}{x:Str}{b:Int}{R:VK},SnD H' d σ m->H' l=sO (.lst [.str x])->(∀(H2:Hp)(r:aO)(ps:List aO),Same H' H2->H' r=nO->H2 r=sO (.lst (ps.map V.ref))->Tps H2 [(σ x,b)] ps->R (.ref r) H2)->spMarks [.ref l,.int b,.ref d] H' R E0:=fun{H' l x b R} h1 h2 h3=>⟨l,d,[x],b,σ,m,rfl,h2,by show 1<=1000000;decide,h1,h3⟩;cases c with
 |give x =>
  obtain⟨p,rfl,hp⟩:=hI;refine wB rfl hp (zg rfl (ixT hp aI1 ⟨sN1,fun l1 h1=>?_⟩));have s1:=zk (o:=.lst [.str x]) h1;refine(zg rfl (zg rfl (mk1 (hD.same s1) uX9 fun H2 r ps s2 f2 h2 hT=>⟨sN1,fun l3 h3=>?_⟩)));have e:wys ow (.give x) σ=[[(σ x,-1)]]:=by rw[wys]
  rw[e,Hc.dp,Hc.wn]at q;have s3:=zk (o:=.lst [.ref r]) h3;exact q _ l3 [r] ((s1.trans s2).trans s3) ((s1.trans s2).free h3) uX9 (.cons ⟨ps,s3 _ _ h2,hT.keep (.of s3)⟩ .nil) (fun w hw=>by rw[uk.mp hw];show 1<=1000;decide) rfl
 |drop x b =>
  obtain⟨p,u,rfl,hp,hb⟩:=hI;rw[Hc.dp]at hdp hln;rw[Hc.wn]at hwn;refine yD rfl hp (wB rfl hp (zg rfl (ixT hp aI1 ⟨sN1,fun l1 h1=>?_⟩)));have s1:=zk (o:=.lst [.str x]) h1;refine(zg rfl (zg rfl (mk1 (hD.same s1) uX9 fun H2 r ps s2 f2 h2 hT=>?_)));have s12:=s1.trans s2;refine zg rfl (ixT (s12 _ _ hp) aI2 (zq rfl rfl ⟨r,b,u,od,d,σ,m,ow,N,[(σ x,-1)],ps,rfl,h2,hT,by show 1<=1000;decide,⟨hb.keep (.of s12),hok,hO.keep fun b u h _ _ _=>s12 b u h,hD.same s12,by lia⟩,by lia,hwn,fun H3 r3 qs s3 f3 h3 ha hwl hwc=>?_⟩));have e:wys ow (.drop x b) σ=(wys ow b σ).map ([(σ x,-1)] ++ ·):=by rw[wys]
  rw[e,Hc.dp,Hc.wn]at q;exact q _ r3 qs (s12.trans s3) (s12.free f3) h3 ha (fun w hw=>by obtain⟨w',h',rfl⟩:=uq.mp hw;have:=hwl w' h';rw[uf];show 1+_<=_;lia) (by rw[ub];exact hwc)
 |hold n0 x b =>
  obtain⟨p,u,rfl,hp,hb⟩:=hI;rw[Hc.dp]at hdp hln;rw[Hc.wn]at hwn;obtain⟨kvs,d1,d2,d3⟩:=id hD;refine yD rfl hp (yD rfl hp (wB rfl hp ?_));refine zg rfl ⟨d,kvs,rfl,d1,fun d4 h4=>?_⟩;have s1:=zk (o:=.dK kvs) h4;have e4:=uX9 (H:=H) (a:=d4) (o:=.dK kvs);dsimp only[tE,L2.start]
  generalize upd H d4 (.dK kvs)=H1 at *;obtain⟨o,g1,g2⟩:=(hD.same s1).get x;refine zg rfl ⟨d,rfl,(hD.same s1).isd,zg rfl (ixT (s1 _ _ hp) aI2 (zg rfl (ixT (s1 _ _ hp) aI2 ⟨o,g1,?_⟩)))⟩;rw[g2];refine zq rfl rfl (ixT (s1 _ _ hp) aI1 ⟨d4,_,rfl,.inl ⟨kvs,.inr n0,e4,rfl,by lia,rfl⟩,?_⟩);have s2:Same H (upd H1 d4 (.dK (putK kvs (.inr n0) (.str (σ x))))):=fun b u e=>by
   rw[zj (zi e h4)];exact s1 _ _ e
  have hD4:=SnD.put (H:=H1) (d:=d4) (σ:=σ) (x:=n0) (y:=σ x) d2 d3;dsimp only
  generalize upd H1 d4 (.dK (putK kvs (.inr n0) (.str (σ x))))=H2 at *;refine zg rfl (ixT (s2 _ _ hp) aI2 ⟨sN1,fun l1 h1=>?_⟩);have t1:=zk (o:=.lst [.str x]) h1;refine(zg rfl (mk1 ((hD.same s2).same t1) uX9 fun H3 r ps t2 f2 h2 hT=>?_));have t12:=t1.trans t2;refine zg rfl (ixT ((s2.trans t12) _ _ hp) aI2 ⟨sN1,fun l3 h3=>?_⟩);have t3:=zk (o:=.lst [.str x]) h3;refine(zg rfl (mk1 (((hD.same s2).same t12).same t3) uX9 fun H4 r' ps' t4 f4 h5 hT'=>?_));have t34:=t3.trans t4;have pl:=hT.len;have pl':=hT'.len;refine⟨r,r',zw rfl rfl ⟨t34 _ _ h2,h5,by rw[ub,ub];show ps.length+ps'.length<=_;rw[<- pl,<- pl'];show 1+1<=_;lia,fun l6 h6=>?_⟩⟩;have t6:=zk (o:=.lst (ps.map V.ref++ps'.map V.ref)) h6;have t26:=t12.trans (t34.trans t6);have e6:=uX9 (H:=H4) (a:=l6) (o:=.lst (ps.map V.ref++ps'.map V.ref));have hTT:=(hT.keep (.of (t34.trans t6))).app (hT'.keep (.of t6));dsimp only[tE]
  generalize upd H4 l6 (.lst (ps.map V.ref++ps'.map V.ref))=H6 at *;rw[<- ur]at e6;have s06:=s2.trans t26;refine zq rfl rfl (ixT (s06 _ _ hp) aI3 (zq rfl rfl ⟨l6,b,u,od,d4,σ.put n0 (σ x),m+1,ow,N,[(σ x,0)]++[(σ x,1)],ps++ps',rfl,e6,hTT,by show 2<=1000;decide,⟨hb.keep (.of s06),hok,hO.keep fun b u h _ _ _=>s06 b u h,hD4.same t26,by lia⟩,by lia,hwn,fun H7 r3 qs s7 f7 h7 ha hwl hwc=>?_⟩));have e:wys ow (.hold n0 x b) σ=(wys ow b (σ.put n0 (σ x))).map ([(σ x,0),(σ x,1)] ++ ·):=by rw[wys]
  rw[e,Hc.dp,Hc.wn]at q;exact q _ r3 qs (s06.trans s7) (s06.free f7) h7 ha (fun w hw=>by obtain⟨w',h',rfl⟩:=uq.mp hw;have:=hwl w' h';rw[uf];show 2+_<=_;lia) (by rw[ub];exact hwc)
 |lt x d0 b =>
  obtain⟨p,q0,u,rfl,hp,hd0,hb⟩:=hI;rw[Hc.dp]at hdp hln;rw[Hc.wn]at hwn;obtain⟨⟨k1,k2,k3⟩,k4⟩:=show(WdOk d0/\CaD N ow d0/\d0.uses.length<=100)/\b.Ok N ow from hok
  obtain⟨ul,ll⟩:=zdo (ow:=ow) k3;have OK:∀{H'},Same H H'->OwA H' od ow N:=fun s'=>hO.keep fun b u h _ _ _=>s' b u h;refine yD rfl hp (yD rfl hp (yD rfl hp (wB rfl hp ?_)));refine zg rfl (ixT hp aI2 (zg rfl ⟨q0,od,d0,ow,N,rfl,hd0,k1,hO,k2,k3,fun H1 l1 s1 f1 h1=>?_⟩));refine(zg rfl (zg rfl ⟨l1,d,ups ow d0,-1,σ,m,rfl,h1,by lia,hD.same s1,fun H2 r ps s2 f2 h2 hT=>?_⟩));have s12:=s1.trans s2;refine zg rfl (ixT (s12 _ _ hp) aI2 (zg rfl ⟨q0,od,d0,ow,N,rfl,IsHd.keep (.of s12) hd0,k1,OK s12,k2,k3,fun H3 l3 s3 f3 h3=>?_⟩));have s13:=s12.trans s3;refine(zg rfl ⟨l3,d,yT ow d0,0,σ,m,rfl,h3,by lia,hD.same s13,fun H4 r' ps' s4 f4 h4 hT'=>?_⟩);have pl:=hT.len;have pl':=hT'.len;rw[ub]at pl pl';have s34:=s3.trans s4;refine⟨r,r',zw rfl rfl ⟨s34 _ _ h2,h4,by rw[ub,ub];lia,fun l6 h6=>?_⟩⟩;have t6:=zk (o:=.lst (ps.map V.ref++ps'.map V.ref)) h6;have e6:=uX9 (H:=H4) (a:=l6) (o:=.lst (ps.map V.ref++ps'.map V.ref));have hTT:=(hT.keep (.of (s34.trans t6))).app (hT'.keep (.of t6));have s06:=s12.trans (s34.trans t6);dsimp only[tE,L2.start]
  generalize upd H4 l6 (.lst (ps.map V.ref++ps'.map V.ref))=H6 at *;rw[<- ur]at e6;refine zq rfl rfl (ixT (s06 _ _ hp) aI1 ⟨sN2,fun t7 h7=>⟨sN1,fun l8 h8=>?_⟩⟩);have u7:=zk (o:=.tup [.str x,.int 1]) h7;have u8:=u7.new (o:=.lst [.ref t7]) h8;refine⟨l6,l8,zw rfl rfl ⟨u8 _ _ e6,uX9,by rw[ub,uf];show _+1<=_;lia,fun l9 h9=>?_⟩⟩;have u9:=u8.new (o:=.lst ((ps++ps').map V.ref++[.ref t7])) h9;have e9:=uX9 (H:=upd (upd H6 t7 (.tup [.str x,.int 1])) l8 (.lst [.ref t7])) (a:=l9) (o:=.lst ((ps++ps').map V.ref++[.ref t7]));have et:=old (o:=.lst ((ps++ps').map V.ref++[.ref t7])) h9 (old (o:=.lst [.ref t7]) h8 (uX9 (H:=H6) (a:=t7) (o:=.tup [.str x,.int 1])));have hT9:=(hTT.keep (.of u9)).app (.cons et .nil);have s09:=s06.trans u9;generalize upd (upd (upd H6 t7 (.tup [.str x,.int 1])) l8 (.lst [.ref t7])) l9 (.lst ((ps++ps').map V.ref++[.ref t7]))=H9 at *;rw[show(ps++ps').map V.ref++[.ref t7]=(ps++ps'++[t7]).map V.ref by rw[ur (l₁:=ps++ps')];rfl]at e9;refine zg rfl (ixT (s09 _ _ hp) aI3 (zq rfl rfl ⟨l9,b,u,od,d,σ,m,ow,N,_,_,rfl,e9,hT9,by rw[uf,uf,ub,ub];show _+1<=_;lia,⟨hb.keep (.of s09),k4,OK s09,hD.same s09,by lia⟩,by lia,hwn,fun H7 r3 qs s7 f7 h7' ha hwl hwc=>?_⟩));have e:wys ow (.lt x d0 b) σ=(wys ow b σ).map (((ups ow d0).map (fun y=>(σ y,(-1:Int)))++(yT ow d0).map (fun y=>(σ y,(0:Int)))++[(x,1)]) ++ ·):=by rw[wys]
  rw[e,Hc.dp,Hc.wn]at q;exact q _ r3 qs (s09.trans s7) (s09.free f7) h7' ha (fun w hw=>by obtain⟨w',h',rfl⟩:=uq.mp hw;have:=hwl w' h';rw[uf,uf,uf,ub,ub];show _+1+_<=_;lia) (by rw[ub];exact hwc)
 |iff x a b =>
  obtain⟨p,u1,u2,rfl,hp,h1a,h1b⟩:=hI;rw[Hc.dp]at hdp hln;rw[Hc.wn]at hwn;obtain⟨k1,k2⟩:=show a.Ok N ow/\b.Ok N ow from hok
  have OK:∀{H'},Same H H'->OwA H' od ow N:=fun s'=>hO.keep fun b u h _ _ _=>s' b u h;refine yD rfl hp (yD rfl hp (yD rfl hp (yD rfl hp ?_)));refine zg rfl (ixT hp aI1 ⟨sN1,fun l1 h1=>?_⟩);have s1:=zk (o:=.lst [.str x]) h1;refine(zg rfl (mk1 (hD.same s1) uX9 fun H2 r ps s2 f2 h2 hT=>?_));have s12:=s1.trans s2;dsimp only[tE,L2.start]
  refine wB rfl (s12 _ _ hp) ?_;refine zq rfl rfl (ixT (s12 _ _ hp) aI2 (zq rfl rfl ⟨r,a,u1,od,d,σ,m,ow,N,[(σ x,0)],ps,rfl,h2,hT,by show 1<=1000;decide,⟨h1a.keep (.of s12),k1,OK s12,hD.same s12,by lia⟩,by lia,by lia,fun H3 r3 qs s3 f3 h3 ha hwl hwc=>?_⟩));have s13:=s12.trans s3;refine zq rfl rfl (ixT (s13 _ _ hp) aI3 (zq rfl rfl ⟨r,b,u2,od,d,σ,m,ow,N,[(σ x,0)],ps,rfl,s3 _ _ h2,hT.keep (.of s3),by show 1<=1000;decide,⟨h1b.keep (.of s13),k2,OK s13,hD.same s13,by lia⟩,by lia,by lia,fun H4 r4 qs' s4 f4 h4 ha' hwl' hwc'=>?_⟩));have ql:=ha.len;have ql':=ha'.len;rw[ub]at ql ql';refine⟨r3,r4,zw rfl rfl ⟨s4 _ _ h3,h4,by rw[ub,ub];lia,fun l6 h6=>?_⟩⟩;have t6:=zk (o:=.lst (qs.map V.ref++qs'.map V.ref)) h6;have e:wys ow (.iff x a b) σ=(wys ow a σ).map ([(σ x,0)] ++ ·)++(wys ow b σ).map ([(σ x,0)] ++ ·):=by rw[wys]
  rw[e,Hc.dp,Hc.wn]at q;refine q _ l6 (qs++qs') ((s13.trans s4).trans t6) ((s13.trans s4).free h6) (by rw[uX9,ur]) ((ha.imp fun _ _ h=>h.same (s4.trans t6)).app (ha'.imp fun _ _ h=>h.same t6)) (fun w hw=>?_) (by rw[uf,ub,ub,hwc,hwc']);rcases ux.mp hw with hw|hw
  ·obtain⟨w',h',rfl⟩:=uq.mp hw;have:=hwl w' h';rw[uf];show 1+_<=_;lia
  ·obtain⟨w',h',rfl⟩:=uq.mp hw;have:=hwl' w' h';rw[uf];show 1+_<=_;lia
 |case x as =>
  obtain⟨p,q0,vs,rfl,hp,hq,hA⟩:=hI;rw[Hc.dp]at hdp hln;rw[Hc.wn]at hwn;have hokA:as.Ok N ow:=hok;have OK:∀{H'},Same H H'->OwA H' od ow N:=fun s'=>hO.keep fun b u h _ _ _=>s' b u h;refine yD rfl hp (yD rfl hp (yD rfl hp (yD rfl hp ?_)));refine zg rfl (ixT hp aI1 ⟨sN1,fun l1 h1=>?_⟩);have s1:=zk (o:=.lst [.str x]) h1;refine(zg rfl (mk1 (hD.same s1) uX9 fun H2 r ps s2 f2 h2 hT=>?_));have s12:=s1.trans s2;have pl:=hT.len;dsimp only[tE,L2.start]
  refine yD rfl (s12 _ _ hp) ⟨sN0,fun l3 h3=>?_⟩;have s3:=zk (o:=.lst []) h3;have az:=as.lsn;dsimp only[tE]
  refine zg rfl (ixT (s3 _ _ (s12 _ _ hp)) aI2 ⟨q0,rfl,⟨_,SqT.of (s3 _ _ (s12 _ _ hq))⟩,xq (xs:=vs) (fun i τ H'=>Same H2 H'/\∃(r6:aO)(qs:List aO)(y4 y7 y8 y9 y10 y11:Option V),τ=[sR p,sR od,sR d,nO,y4,sR r,sR r6,y7,y8,y9,y10,y11]/\H2 r6=nO/\H' r6=sO (.lst (qs.map V.ref))/\All2 (WyR H') (((as.ls.take i).map (aW ow x σ)).flatten) qs/\qs.length=lsn (as.ls.take i)/\∀w∈((as.ls.take i).map (aW ow x σ)).flatten,w.length<=1000*(as.dp+2)) ⟨s3,l3,[],nO,nO,nO,nO,nO,nO,rfl,h3,uX9,.nil,rfl,fun w hw=>by cases hw⟩ (fun i τ H' _ h=>SqT.of (h.1 _ _ (s12 _ _ hq))) ?_ ?_⟩)
  ·rintro i v τ H4 hv ⟨s4,r6,qs,y4,y7,y8,y9,y10,y11,rfl,f6,h6,hq6,hl6,hw6⟩
   obtain⟨a,pa,qa,ua,g1,rfl,g3,g4,g5,g6,g7,g8⟩:=hA.ge hokA hv;have s04:=s12.trans s4;have lt:=Qi g1;have le:=zdp as.ls (i+1);refine⟨_,_,rfl,SqT.of (s04 _ _ g3),rfl,_,_,rfl,_,_,rfl,_,_,rfl,_,_,rfl,_,_,rfl,rfl,?_⟩;refine zq rfl rfl ⟨qa,rfl,⟨_,SqT.of (s04 _ _ g4)⟩,vO (xs:=a.2.1.map V.str) (fun j τ ys H'=>Same H4 H'/\(∃z,τ=[sR p,sR od,sR d,nO,y4,sR r,sR r6,sO (.str a.1),sR qa,sO (.str (yE a.2.2.1)),sO (.str ""),sO ua,z])/\∃ts:List aO,ys=ts.map V.ref/\Tps H' ((a.2.1.take j).map fun y=>(y,(1:Int))) ts) ⟨Same.refl _,⟨nO,rfl⟩,[],rfl,.nil⟩ (fun j τ ys H' _ h=>SqT.of (h.1 _ _ (s04 _ _ g4))) ?_ ?_⟩
   ·rintro j v τ ys H5 hv ⟨s5,⟨z,rfl⟩,ts,rfl,ht⟩
    obtain⟨y,hy,rfl⟩:=L2.gM hv;have jl:=(ud.mp hy).1;have tl:=ht.len;rw[ub,ut]at tl;refine zg rfl ⟨sN2,fun t hn=>⟨by rw[ub];lia,s5.new hn,⟨_,rfl⟩,ts++[t],by rw[ur];rfl,?_⟩⟩;rw[uD,hy,ur];exact(ht.keep (.of (zk hn _))).app (.cons uX9 .nil)
   rintro τ ys H5 ⟨s5,_,ts,rfl,ht⟩ l5 h5;rw[ub,uo (uj _)]at ht;have tl:=ht.len;rw[ub]at tl;have t5:=zk (o:=.lst (ts.map V.ref)) h5;have s45:=s5.trans t5;refine⟨r,l5,zw rfl rfl ⟨(s4.trans s45) _ _ h2,uX9,by rw[ub,ub];show ps.length+_<=_;rw[<- pl];show 1+_<=_;lia,fun l6 h6'=>?_⟩⟩;have t6:=zk (o:=.lst (ps.map V.ref++ts.map V.ref)) h6';have e6:=uX9 (H:=upd H5 l5 (.lst (ts.map V.ref))) (a:=l6) (o:=.lst (ps.map V.ref++ts.map V.ref));have hT6:=(hT.keep (.of ((s4.trans s45).trans t6))).app (ht.keep (.of (t5.trans t6)));have s46:=s45.trans t6;unfold xZ;dsimp only[tE]
   generalize upd (upd H5 l5 (.lst (ts.map V.ref))) l6 (.lst (ps.map V.ref++ts.map V.ref))=H6 at *;rw[<- ur]at e6;have s06:=s04.trans s46;refine(show ∀(u:TS)(D:Ends),(∀(H':Hp)(l4:aO)(us:List aO),Same H6 H'->H' l4=sO (.lst (us.map V.ref))->Tps H' ([(σ x,0)]++a.2.1.map (fun y=>(y,(1:Int)))++(if a.2.2.1 then[(σ x,-1)]else[])) us->u D [sR p,sR od,sR d,nO,sR l4,sR r,sR r6,sO (.str a.1),sR qa,sO (.str (yE a.2.2.1)),sO (.str ""),sO ua] H')->(tSeq (tIfS _ _ xA) u:TS) D [sR p,sR od,sR d,nO,sR l6,sR r,sR r6,sO (.str a.1),sR qa,sO (.str (yE a.2.2.1)),sO (.str ""),sO ua] H6 from ?key) _ _ ?rest
   case key =>
    intro u D tail;refine zg rfl ⟨rfl,zg rfl ?_⟩;cases em:a.2.2.1 with
    |false =>
     rw[em]at tail;refine iteF (nxtC (tail _ l6 (ps++ts) (Same.refl _) e6 ?_));rw[iN (by decide),uU];exact hT6
    |true =>
     rw[em]at tail;refine iteT (zq rfl rfl (ixT (s06 _ _ hp) aI1 ⟨sN1,fun l7 h7=>?_⟩));have t7:=zk (o:=.lst [.str x]) h7;refine(zg rfl (zg rfl (mk1 ((hD.same s06).same t7) uX9 fun H8 r8 ps8 s8 f8 h8 hT8=>?_)));have p8:=hT8.len;have t78:=t7.trans s8;refine⟨l6,r8,zw rfl rfl ⟨t78 _ _ e6,h8,by rw[ub,ub,uf,<- pl,<- p8];show 1+_+1<=_;lia,fun l9 h9=>?_⟩⟩;have t9:=zk (o:=.lst ((ps++ts).map V.ref++ps8.map V.ref)) h9;refine tail _ l9 (ps++ts++ps8) (t78.trans t9) (by rw[uX9,ur (l₁:=ps++ts)]) ?_;rw[iP rfl];exact(hT6.keep (.of (t78.trans t9))).app (hT8.keep (.of t9))
   case rest =>
    intro H7 l4 us s7 e4 hT4;have s07:=s06.trans s7;have il:((if a.2.2.1 then[(σ x,(-1:Int))]else[]:List (Str×Int))).length<=1:=by split<;>simp
    refine zg rfl (zq rfl rfl (zq rfl rfl ⟨l4,a.2.2.2,ua,od,d,σ,m,ow,N,_,us,rfl,e4,hT4,?_,⟨g5.keep (.of s07),g7,OK s07,hD.same s07,by lia⟩,by lia,by lia,fun H9 r9 qs9 s9 f9 h9 ha9 hwl9 hwc9=>?_⟩))
    ·rw[uf,uf,ub]
     show 1+_+_<=_;lia
    have ql:=ha9.len;rw[ub]at ql;have s49:=(s46.trans s7).trans s9;refine⟨r6,r9,zw rfl rfl ⟨s49 _ _ h6,h9,by rw[ub,ub];lia,fun l10 h10=>?_⟩⟩;have t10:=zk (o:=.lst (qs.map V.ref++qs9.map V.ref)) h10;have ef:(((as.ls.take (i+1)).map (aW ow x σ)).flatten)=((as.ls.take i).map (aW ow x σ)).flatten++aW ow x σ a:=by
     rw[uD,g1,ur,List.flatten_append];show _++(aW ow x σ a++[])=_;rw[uU]
    refine⟨(s4.trans s49).trans t10,l10,qs++qs9,_,_,_,_,_,_,rfl,(s4.trans s49).free h10,by rw[uX9,ur],?_,by rw[uf,lt,hl6,<- ql,hwc9],fun w hw=>?_⟩
    ·rw[ef]
     exact(hq6.imp fun _ _ h=>h.same (s49.trans t10)).app (ha9.imp fun _ _ h=>h.same t10)
    ·rw[ef]at hw
     rcases ux.mp hw with hw|hw
     ·exact hw6 w hw
     ·obtain⟨w',h',rfl⟩:=uq.mp hw
      have:=hwl9 w' h'
      rw[uf,uf,uf,ub];show 1+_+_+_<=_;lia
  ·rintro τ H4 ⟨s4,r6,qs,y4,y7,y8,y9,y10,y11,rfl,f6,h6,hq6,hl6,hw6⟩
   rw[<- hA.ll,uo (uj _)]at hq6 hl6 hw6;have e:wys ow (.case x as) σ=(as.ls.map (aW ow x σ)).flatten:=by rw[wys,Wj]
   rw[e,Hc.dp,Hc.wn]at q;exact zg rfl (q _ r6 qs (s12.trans s4) (s12.free f6) h6 hq6 hw6 (by rw[hq6.len,hl6,az]))
inductive CnD(H:Hp)(d:aO)(g:Str->Int)(n:Nat):Prop
 |mk (kvs:List (Key×V)):H d=sO (.dK kvs)->kvs.length<=n->(∀kv∈kvs,∃x i,kv=(.inr x,V.int i))->(∀x,(valV kvs (.inr x)).getD (.int 0)=.int (g x))->CnD H d g n
theorem CnD.put{g:Str->Int}{i:Int}(l:kvs.length<=n)(se:∀kv∈kvs,∃x i,kv=(.inr x,V.int i))(v:∀x,(valV kvs (.inr x)).getD (.int 0)=.int (g x)):CnD (upd H d (.dK (putK kvs (.inr x) (.int i)))) d (fun z=>if z=x then i else g z) (n+1):=by
 refine⟨_,uX9,?_,fun kv hk=>?_,fun z=>?_⟩
 ·unfold putK
  split
  ·rw[ub];lia
  ·rw[uf];exact Nat.succ_le_succ l
 ·unfold putK at hk
  split at hk
  ·obtain⟨z,hz,e⟩:=uq.mp hk
   obtain⟨a,b,r⟩:=se z hz;split at e
   ·rename_i q
    exact⟨x,i,by rw[<- e,q]⟩
   ·exact⟨a,b,e ▸ r⟩
  ·rcases ux.mp hk with hk|hk
   ·exact se kv hk
   ·exact⟨x,i,uk.mp hk⟩
 ·rw[xI]
  by_cases e:z=x
  ·rw[iP (by rw[e]),iP e];rfl
  ·rw[iN (fun q=>e (Sum.inr.inj q)),iN e]
   exact v z
theorem zaZ{kv:Key×V}(h:kv∈kvs):∃v,valV kvs kv.1=sO v:=by
 have e:=xb kv.1 kvs;rw[List.any_eq_true.mpr ⟨kv,h,by simp⟩]at e;exact U2.mp e.symm
inductive spPays(vs:List V)(H:Hp)(Q:VK)(e_3:XK):Prop
 |mk (w:aO) (a:aO) (e:aO) (way:List (Str×Int)) (mine:lS):(∃lent:lS,vs=[.ref w,.ref a,.ref e]/\WyR H way w/\H a=sO (.lst (mine.map V.str))/\H e=sO (.lst (lent.map V.str))/\(way.length<=1000000/\mine.length<=1000/\lent.length<=1000)/\Pays lent way (fun z=>if z∈lent then 0 else if z∈mine then 1 else 0) (fun _=>0)/\∀H',Same H H'->Q (.bl tV) H')->spPays vs H Q e_3
theorem scPays:FnScope ["_law_way","_law_mine","_law_lent","_law_counts","_law_name_here","_law_by"] lS21 (zt XH):=.ok
theorem za0(F:Fun K "_law_pays" "_law_pays" XH f fd)(m_max:mg "max"=nO):FnOk P w K mg base CX0 1 f fd lS21 spPays:=by
 refine F.by scPays (fun vs H Q E h=>?_) (fun cdv A outer s H vs Q E hr h=>?_)
 ·obtain⟨w,a,e,way,mine,lent,rfl,_⟩:=h
  rfl
 obtain⟨w,a,e,way,mine,lent,rfl,hw,ha,he,⟨l1,l2,l3⟩,hp,q⟩:=h;refine⟨_,
  (zh (VC (i:=3) scPays.nd rfl (by first|exact Or.inl rfl|exact Or.inr rfl) xJ)
  (zh (ya PassesOwn.never rfl (zP K (jv 1)) (gN 4 scPays.nd)
   (zn (xw hr (jv 3) (jv 4) zo)))
  (zh (ya PassesOwn.never rfl (zP K (jv 2)) (gN 4 scPays.nd)
   (zn (xw hr (jv 3) (jv 4) zo)))
  (zh (ya PassesOwn.never rfl (zP K (jv 0)) (zK K rfl (zu (gN 4 scPays.nd) (zu (gN 5 scPays.nd) zJ)))
   (zh (xw hr (jv 3) (jv 4) (zx yh (wM hr (jv 3) (jv 4) zo) (jv 5)))
   (zn (zH (jW.pt (vj (tN vk (yK hr (jv 3) (jv 4)) zo) (x9 (jW.pt (xD (tN zM (jv 5) zo) (xD (tN zM (yK hr (jv 3) (jv 4)) zo) (xt (vv K (jv 4) (jv 2)))))))))
    (zn (zv vL)) zB))))
  (zn (zv (xr zM (zaP rfl rfl m_max (Z7 [4] [] rfl (zaR (jv 3)) (fun _ _ _ _ _=>(gN 4 scPays.nd)) (fun _ _ _ _ _=>zW) (fun _ _ _ _ _=>(yK hr (jv 3) (jv 4)))) zo) zo (wX _)))))))),?_⟩
 have sl:=zN;intro d hd;have s1:=zk (o:=.dK []) hd;have hd1:=uX9 (H:=H) (a:=d) (o:=.dK []);dsimp only[tE,L2.start]
 generalize upd H d (.dK [])=H1 at *;have nd:∀{b:aO}{u:HO},H b=sO u->b≠d:=fun z=>zi z hd;have ps:∀{H':Hp}{o:HO},Same H H'->Same H (upd H' d o):=fun s b u z=>by rw[zj (nd z)];exact s _ _ z
 refine zg rfl ⟨a,rfl,⟨_,SqL.of (s1 _ _ ha)⟩,yX (xs:=mine.map V.str) (fun i σ H'=>Same H H'/\CnD H' d (fun z=>if z∈mine.take i then 1 else 0) i/\∃y4,σ=[sR w,sR a,sR e,sR d,y4,nO]) ⟨s1,⟨[],hd1,uj _,(fun kv hk=>by cases hk),fun x=>by rw[V1];simp⟩,nO,rfl⟩ (fun i σ H' _ h=>SqL.of (h.1 _ _ ha)) ?_ ?_⟩
 ·rintro i v σ H2 hv ⟨s2,⟨kvs,g1,g2,g3,g4⟩,y4,rfl⟩
  obtain⟨x,hx,rfl⟩:=L2.gM hv;have il:=(ud.mp hx).1;refine⟨_,rfl,_,rfl,d,_,rfl,.inl ⟨kvs,.inr x,g1,rfl,by lia,rfl⟩,ps s2,?_,_,rfl⟩;have z:=CnD.put (H:=H2) (d:=d) (x:=x) (i:=1) g2 g3 g4;rw[show(fun z=>if z∈mine.take (i+1)then(1:Int)else 0)=fun z=>if z=x then 1 else if z∈mine.take i then 1 else 0 from ?_]
  ·exact z
  ·funext y
   rw[uD,hx];by_cases c:y=x
   ·rw[iP c,iP (by rw[c];simp)]
   ·rw[iN c]
    simp[c]
 rintro σ H2 ⟨s2,c2,y4,rfl⟩;rw[ub,UM]at c2;refine zg rfl ⟨e,rfl,⟨_,SqL.of (s2 _ _ he)⟩,yX (xs:=lent.map V.str) (fun i σ H'=>Same H H'/\CnD H' d (fun z=>if z∈lent.take i then 0 else if z∈mine then 1 else 0) (mine.length+i)/\∃y4,σ=[sR w,sR a,sR e,sR d,y4,nO]) ⟨s2,by simpa using c2,y4,rfl⟩ (fun i σ H' _ h=>SqL.of (h.1 _ _ he)) ?_ ?_⟩
 ·rintro i v σ H3 hv ⟨s3,⟨kvs,g1,g2,g3,g4⟩,y4,rfl⟩
  obtain⟨x,hx,rfl⟩:=L2.gM hv;have il:=(ud.mp hx).1;refine⟨_,rfl,_,rfl,d,_,rfl,.inl ⟨kvs,.inr x,g1,rfl,by lia,rfl⟩,ps s3,?_,_,rfl⟩;have z:=CnD.put (H:=H3) (d:=d) (x:=x) (i:=0) g2 g3 g4;rw[show(fun z=>if z∈lent.take (i+1)then(0:Int)else if z∈mine then 1 else 0)=fun z=>if z=x then 0 else if z∈lent.take i then 0 else if z∈mine then 1 else 0 from ?_]
  ·exact z
  ·funext y
   rw[uD,hx];by_cases c:y=x
   ·rw[iP c,iP (by rw[c];simp)]
   ·rw[iN c]
    simp[c]
 rintro σ H3 ⟨s3,c3,y5,rfl⟩;rw[ub,UM]at c3;obtain⟨ts,hw1,hw2⟩:=hw;have wl:=hw2.len;refine zg rfl ⟨w,rfl,⟨_,SqL.of (s3 _ _ hw1)⟩,yX (xs:=ts.map V.ref) (fun i σ H'=>Same H H'/\(∃g,CnD H' d g (mine.length+lent.length+i)/\Pays lent (way.drop i) g (fun _=>0))/\∃y4 y6,σ=[sR w,sR a,sR e,sR d,y4,y6]) ⟨s3,⟨_,c3,hp⟩,_,_,rfl⟩ (fun i σ H' _ h=>SqL.of (h.1 _ _ hw1)) ?_ ?_⟩
 ·rintro i v σ H4 hv ⟨s4,⟨g,⟨kvs,g1,g2,g3,g4⟩,hp4⟩,y4,y6,rfl⟩
  obtain⟨t,ht,rfl⟩:=L2.gM hv;have il:=(ud.mp ht).1;obtain⟨x,b,hx,ht2⟩:=hw2.get ht;have hd4:way.drop i=(x,b)::way.drop (i+1):=by rw[List.drop_eq_getElem?_toList_append,hx];rfl
  rw[hd4,Pays]at hp4;obtain⟨p1,p2,p3⟩:=hp4;refine⟨_,_,rfl,SqT.of (s4 _ _ ht2),rfl,_,_,rfl,_,_,rfl,rfl,?_⟩;refine zg rfl ⟨d,rfl,.inl ⟨kvs,.inl g1⟩,zg rfl ⟨_,.inl ⟨kvs,.inr x,.inl g1,rfl,rfl⟩,zg rfl ?_⟩⟩;rw[g4 x];refine⟨g x,b,rfl,rfl,zq rfl rfl ⟨d,_,rfl,.inl ⟨kvs,.inr x,g1,rfl,by lia,rfl⟩,?_⟩⟩;have z:=CnD.put (H:=H4) (d:=d) (x:=x) (i:=g x+b) g2 g3 g4;have v5:valV (putK kvs (.inr x) (.int (g x+b))) (.inr x)=sO (.int (g x+b)):=by rw[xI,iP rfl]
  have h5:=uX9 (H:=H4) (a:=d) (o:=.dK (putK kvs (.inr x) (.int (g x+b))));have s5:=ps (o:=.dK (putK kvs (.inr x) (.int (g x+b)))) s4;generalize upd H4 d (.dK (putK kvs (.inr x) (.int (g x+b))))=H5 at *;have fin:∃g',CnD H5 d g' (mine.length+lent.length+(i+1))/\Pays lent (way.drop (i+1)) g' (fun _=>0):=⟨_,z,p3⟩;refine zq rfl rfl ⟨d,_,rfl,.inl ⟨_,.inr x,.inl h5,rfl,v5.symm⟩,_,_,rfl,rfl,_,rfl,?_⟩;rw[eO (show ¬ g x+b < 0 by lia)];refine iteF (zg rfl ⟨rfl,_,rfl,?_⟩);by_cases eb:b=0
  ·rw[decide_eq_true (congrArg V.int eb)]
   refine iteT (zq rfl rfl ⟨d,_,rfl,.inl ⟨_,.inr x,.inl h5,rfl,v5.symm⟩,rfl,_,rfl,?_⟩);by_cases eg:g x+b=0
   ·rw[decide_eq_true (congrArg V.int eg)]
    refine iteT (zq rfl rfl ⟨e,lent.map V.str,rfl,.inl (SqL.of (s5 _ _ he)),rfl,by rw[List.all_map];exact UF.mpr fun _ _=>rfl,_,rfl,?_⟩);rw[inVs,decide_eq_true (p2 eb (by lia))];exact iteF ⟨s5,fin,_,_,rfl⟩
   ·rw[eO fun z=>eg (V.int.inj z)]
    exact iteF (iteF ⟨s5,fin,_,_,rfl⟩)
  ·rw[eO fun z=>eb (V.int.inj z)]
   exact iteF (iteF ⟨s5,fin,_,_,rfl⟩)
 rintro σ H4 ⟨s4,⟨g,⟨kvs,g1,g2,g3,g4⟩,hp4⟩,y4,y6,rfl⟩;rw[ub,<- wl,List.drop_length,Pays]at hp4;subst hp4;refine zg rfl ⟨d,kvs,rfl,g1,fun ob=>zaS (kvs:=kvs) (fun j τ zs H'=>H'=upd H4 d (.frz ob (.dK kvs))/\(∃z,τ=[sR w,sR a,sR e,sR d,z,y6])/\zs=uQ j (.int 0)) ⟨rfl,⟨_,rfl⟩,rfl⟩ (fun j τ zs H' _ h=>by rw[h.1];exact uX9) ?_ ?_⟩
 ·rintro j kv τ zs H5 hkv ⟨rfl,⟨z,rfl⟩,rfl⟩
  have jl:=(ud.mp hkv).1;obtain⟨x,i,rfl⟩:=g3 kv (uw hkv);obtain⟨v,hv⟩:=zaZ (uw hkv);have e0:=g4 x;dsimp only at hv
  rw[hv]at e0;have e0:v=.int 0:=e0;subst e0;refine zq rfl rfl ⟨d,_,rfl,.inl ⟨kvs,.inr x,.inr ⟨ob,uX9⟩,rfl,hv.symm⟩,by rw[Uq];rw[ub]at g2;lia,rfl,⟨_,rfl⟩,?_⟩;rw[List.replicate_succ']
 rintro τ zs H5 ⟨rfl,_,rfl⟩ lr hlr;refine⟨lr,_,rfl,rfl,uX9,rfl,?_⟩;exact q _ ((ps s4).new hlr)
end
end GN
namespace L2
open PySem PySem.Spec PyProof.Rows
theorem XI{K:uc}{mb:Str->Option aA}{k:Nat}{s₁:Shared}{ns:List Int}
  (KX:K.In s₁.heap) (hT:∀T∈Ts,s₁.heap.get? T=sO { cls:=.none,data:=.fields #[] }) (hTK:∀T∈Ts,K.lookup T=nO) (hTc:∀T∈Ts,isCodeTable s₁.heap T) (hns:s₁.heap.Ns mainGlobals mg) (hb:s₁.heap.Ns builtinsNs mb) (hbb:∀x:Str,x≠"__name__"->mb x=bootBuiltins x) (hlim:s₁.heap.NoLimit) (hBM:BMn mg s₁.heap) (hg:s₁.gens=#[])
  (ha:s₁.heap.get? a=sO { cls:=.type "list",data:=.seq vs.toArray }) (hi:IntsAre vs ns) (hl:ns.length<=sizeLine) (hr:Room k callerA)
  (F:∀base:Heap,K.In base->base.Ns mainGlobals mg->BMn mg base->FnOk P w K mg base CX k fa fd [x] sp) (hbind:∀(s:Shared)(u:aA),BindsTo s fd ⟨[u],[]⟩ [(x,u)])
  (hsp:∀H:Hp,(∀T∈Ts,H T=sO (.tbl #[]))->SqL K H a (ns.map V.int)->sp [.ref a] H (fun v _=>v=.bl tV) fun _ _ _=>False)
  (hCX:∀H e s',CX [] H s₁ (fun _ _ _=>False) e s'->False) :
  codeAny (model P w) callerA (.call (.ref fa) ⟨[.ref a],[]⟩) (fun r s'=>r=.ok (.ret (.bool tV))/\OldK s₁.heap s'.heap/\s'.os=s₁.os/\AllBare s'.gens) s₁:=by
 have rv:=jC hi;have lenV:=hi.length;have nTa:a∉Ts:=fun e=>by rw[hT a e]at ha;cases ha
 have core:∀H:Hp,(∀b,H b=nO\/(∃o xs,H b=sO (.frz o (.lst xs)))\/(b∈Ts/\H b=sO (.tbl #[])))->(∀T∈Ts,H T=sO (.tbl #[]))->SqL K H a (ns.map V.int)->HOk P w H s₁.heap->(∀b,H b≠nO->b=a\/b∈Ts)->(H a≠nO->K.lookup a=nO) ->
   codeAny (model P w) callerA (.call (.ref fa) ⟨[.ref a],[]⟩) (fun r s'=>r=.ok (.ret (.bool tV))/\OldK s₁.heap s'.heap/\s'.os=s₁.os/\AllBare s'.gens) s₁:=by
  intro H hO hHT hS hok hA hK;have base_of:∀{b:aO}{o:Obj},s₁.heap.get? b=sO o->H b=nO->(hidT s₁.heap H).get? b=sO o:=fun e n=>Va e n;have noA:∀{b:aO}{o:Obj}{es:Array DictEntry}{ep:Nat},s₁.heap.get? b=sO o->o.data=.dict es ep->H b=nO:=fun{b o es ep} e d=>by
   cases q:H b with
   |none=>rfl
   |some u =>
    rcases hA b (by rw[q];simp)with e'|e'
    ·subst e'
     rw[ha]at e;cases e;have d':Data.seq vs.toArray _=Data.dict es ep:=d;cases d'
    ·rw[hT b e']at e;cases e
     have d':Data.fields #[]=Data.dict es ep:=d;cases d'
  have nsK:∀{b:aO}{m:Str->Option aA},s₁.heap.Ns b m->(hidT s₁.heap H).Ns b m:=fun{b m}⟨o,es,ep,e,d,r⟩=>⟨o,es,ep,base_of e (noA e d),d,r⟩;have hBb:BMn mg (hidT s₁.heap H):=by
   obtain⟨bm,ob,b1,b2,b3,b4,b5,b6⟩:=hBM;refine⟨bm,ob,b1,b2,base_of b3 ?_,b4,b5,b6⟩;cases q:H bm with
   |none=>rfl
   |some u =>
    rcases hA bm (by rw[q];simp)with e'|e'
    ·subst e'
     rw[ha]at b3;cases b3;cases b6
    ·rw[hT bm e']at b3;cases b3;cases b6
  have hKb:K.In (hidT s₁.heap H):=fun b o e=>base_of (KX b o e) (by
   cases q:H b with
   |none=>rfl
   |some u =>
    rcases hA b (by rw[q];simp)with e'|e'
    ·subst e'
     rw[hK (by rw[q];simp)]at e;cases e
    ·rw[hTK b e']at e;cases e)
  have hM:Mod K mg (hidT s₁.heap H):=⟨hKb,nsK hns,⟨mb,nsK hb,hbb⟩,let ⟨mc,h1,h2⟩:=hlim;⟨mc,nsK h1,h2⟩⟩;have e0:Env0 P w K mg (hidT s₁.heap H) callerA [] s₁ H:=⟨rfl,hM,fun b o e=>Qn e,Nat.le_of_eq (Wm _ _),trivial,fun b hb=>absurd (show b∈([]:List aO)from hb) (by simp),hok,.of_eq hg⟩;refine codeAny_mono ((F _ hKb (nsK hns) hBb).run callerA [] s₁ H ⟨[.ref a],[]⟩ [.ref a] [.ref a] _ _ hr e0 (hbind s₁ (.ref a)) (.cons rfl .nil) (hsp H hHT hS)) fun r s' h=>?_;cases r with
  |error e=>exact(hCX H e s' h).elim
  |ok fl =>
   cases fl with
   |next=>exact False.elim h
   |brk=>exact False.elim h
   |cont=>exact False.elim h
   |ret u =>
    obtain⟨v,H',os,bare,un,hok',r',q⟩:=h;have q':v=.bl tV:=q;subst q';obtain rfl:u=Value.bool tV:=r';refine⟨rfl,⟨fun b o e=>?_,fun b o e=>un.there b o e (by simp)⟩,os,bare⟩;cases q:H b with
    |none=>exact .inl (un.keep b o e q (by intro z;exact absurd (show b∈([]:List aO)from z) (by simp)) (by simp))
    |some u =>
     rcases hO b with z|⟨ob,xs,z⟩|⟨zm,z⟩
     ·rw[q]at z;cases z
     ·have z2:=un.frzs b ob _ z
      obtain⟨e1,_⟩:=hok b _ z;obtain⟨e2,_⟩:=hok' b _ z2;rw[e]at e1;cases e1;exact .inl e2
     ·obtain⟨more,z2⟩:=un.tbls b _ z
      have e2:s'.heap.get? b=sO { cls:=.none,data:=.fields (#[]++more) }:=hok' b _ z2;rw[hT b zm]at e;cases e;exact .inr (.inl ⟨hTc b zm,rfl,#[],more,rfl,e2⟩)
 cases hk:K.lookup a with
 |some o =>
  have e:=KX a o hk;rw[ha]at e;cases e;refine core (fun b=>if b∈Ts then sO (.tbl #[])else nO) (fun b=>?_) (fun T hT=>iP hT) (.inr ⟨_,vs.toArray,_,hk,rfl,rfl,rfl,by rw[uA,lenV];exact hl,by simpa using rv⟩) (fun b u z=>?_) (fun b z=>?_) fun z=>absurd (iN nTa) z
  ·by_cases hb:b∈Ts
   ·exact .inr (.inr ⟨hb,iP hb⟩)
   ·exact .inl (iN hb)
  ·by_cases hb:b∈Ts
   ·have z':=(iP hb).symm.trans z
    cases z';exact hT b hb
   ·have z':=(iN hb).symm.trans z
    cases z'
  ·by_cases hb:b∈Ts
   ·exact .inr hb
   ·exact absurd (iN hb) z
 |none =>
  refine core (fun b=>if b∈Ts then sO (.tbl #[])else if b=a then sO (.frz { cls:=.type "list",data:=.seq vs.toArray } (.lst (ns.map V.int)))else nO) (fun b=>?_) (fun T hT=>iP hT) (.inl (.inr ⟨{ cls:=.type "list",data:=.seq vs.toArray },(iN nTa).trans (iP rfl)⟩)) (fun b u z=>?_) (fun b z=>?_) fun _=>hk
  ·by_cases hb:b∈Ts
   ·exact .inr (.inr ⟨hb,iP hb⟩)
   ·by_cases hb2:b=a
    ·exact .inr (.inl ⟨_,_,(iN hb).trans (iP hb2)⟩)
    ·exact .inl ((iN hb).trans (iN hb2))
  ·by_cases hb:b∈Ts
   ·have z':=(iP hb).symm.trans z
    cases z';exact hT b hb
   ·by_cases hb2:b=a
    ·have z':sO (HO.frz { cls:=.type "list",data:=.seq vs.toArray } (.lst (ns.map V.int)))=sO u:=((iN hb).trans (iP hb2)).symm.trans z
     cases z';subst hb2;exact⟨ha,by rw[ub];exact hl,vs,_,rv,ha⟩
    ·have z':nO=sO u:=((iN hb).trans (iN hb2)).symm.trans z
     cases z'
  ·by_cases hb:b∈Ts
   ·exact .inr hb
   ·by_cases hb2:b=a
    ·exact .inl hb2
    ·exact absurd ((iN hb).trans (iN hb2)) z
def wW(K:uc)(Ts:List aO):Sp:=fun vs H Q _=>∃(a:aO)(ns:List Int),vs=[.ref a]/\SqL K H a (ns.map V.int)/\ns.length<=63/\(∀T∈Ts,H T=sO (.tbl #[]))/\∀H',Q (.bl tV) H'
theorem Qj{l:PySem.W.OpenLaw}{K:uc}{k:Nat}(d:DfIn K "law" st)(X:K.In h)(G:h.Ns mainGlobals mg)(hfa:mg "law"=sO (.ref fa))
  (hb:∀(kV doc pm:aA)(an:Option aO)(cdv ct:aA)(s:Shared)(u:aA),BindsTo s (Ul "law" "law" (yf st) (zO st) (zt st) .none kV doc pm an cdv ct) ⟨[u],[]⟩ [("_law_script",u)])
  (ok:∀(base:Heap)(fd:FuncData),BMn mg base->Fun K "law" "law" st fa fd->FnOk l.prog w K mg base CX0 k fa fd ["_law_script"] (wW K Ts)) :
  ∃fd:FuncData,(∀(s:Shared)(u:aA),BindsTo s fd ⟨[u],[]⟩ [("_law_script",u)])/\∀base:Heap,K.In base->base.Ns mainGlobals mg->BMn mg base->FnOk l.prog w K mg base CX0 k fa fd ["_law_script"] (wW K Ts):=by
 obtain⟨fl,al,oc,od,kV,doc,pm,an,cdv,ct,osl,lk,cc,kk⟩:=d;have e:fl=fa:=by
  have:=U7 X G al
  rw[hfa]at this;injection this with this
  injection this with this
  exact this.symm
 subst e;exact⟨_,fun s v=>hb _ _ _ _ _ _ s v,fun base _ _ B=>ok base _ B (Vw (st:=st) lk cc kk)⟩
theorem walkTs{l:PySem.W.OpenLaw}{q:Program}{loose:lS}{d:DefRec}{K:Params->uc}{e:∀p,as=(K p).map (·.1)}{k:Nat}(hn:l.most=sO 63)(hr:Room k callerA)(hdf:d.params.defaults=[])(hnm:d.name="law")
  (hc:∀p,∀T∈Ts,∃c,Ua (K p) c T=tV) (hTK:∀p,∀T∈Ts,(K p).lookup T=nO)
  (F:∀(w:World)(mg:Str->Option aA)(fa:aO)(h:Heap),(K w.params).In h->h.Ns mainGlobals mg->mg "law"=sO (.ref fa)->∃fd:FuncData,(∀(s:Shared)(u:aA),BindsTo s fd ⟨[u],[]⟩ [("_law_script",u)])/\∀base:Heap,(K w.params).In base->base.Ns mainGlobals mg->BMn mg base->FnOk l.prog w (K w.params) mg base CX0 k fa fd ["_law_script"] (wW (K w.params) Ts)) :
  PySem.W.WalkO q loose XP (PySem.W.kmHook K as e Ts).says l.row.toRowW d [] (fun f vs=>PySem.call f vs):=by
 refine Att.attach_call hn hdf fun w s₀ s₁ mg mb fa o pm cd doc a vs ns G Y ho hd hcd hmg hobj hints hlen hg=>?_;have KX:=PySem.W.km_in_of Y;have hT:∀T∈Ts,_:=fun T hm=>PySem.W.km_tabs_of Y T hm;obtain⟨fd,hb,hF⟩:=F w mg fa _ KX G.T.g (by rw[hnm]at hmg;exact hmg);have hTc:∀T∈Ts,isCodeTable s₁.heap T:=fun T hm=>by
  obtain⟨c,hc⟩:=hc w.params T hm;obtain⟨o1,vs1,_,_,_,_,_,_,_,c1,c2,c3,c4,_⟩:=PySem.W.codeHd_of_K KX hc;exact⟨c,o1,vs1,c1,c2,c3,c4⟩
 exact XI KX hT (hTK w.params) hTc G.T.g G.T.b G.T.builtins G.T.nolimit G.T.bmain hg hobj hints (uH hlen (by decide)) hr hF hb (fun H hO hS=>⟨a,ns,rfl,hS,hlen,hO,fun _=>rfl⟩) fun _ _ _ z=>z
end L2
namespace GN
open PySem L2 K11
theorem YV(c:Hc):∀ds:lS,(wD ds c).wn=c.wn
 |[]=>rfl
 |x::ds=>by
  show(Hc.drop x (wD ds c)).wn=_;rw[Hc.wn,YV c ds]
theorem Qk(c:Hc):∀ps:List (Str×Str),(wH ps c).wn=c.wn
 |[]=>rfl
 |x::ps=>by
  show(Hc.hold x.1 x.2 (wH ps c)).wn=_;rw[Hc.wn,Qk c ps]
mutual
theorem YW(ns:lS)(ow:Str->List Bool):∀(b:Bd)(l:lS)(m:Nat),(hB ns ow b l m).1.wn<=b.sz
 |.give x,l,m=>by
  rw[hB];dsimp only
  rw[YV,Qk,Hc.wn,Bd.sz];exact uj _
 |.lt x d b,l,m=>by
  rw[hB];dsimp only
  rw[YV,Qk,Hc.wn,Bd.sz];exact Nat.le_succ_of_le (YW ns ow b _ _)
 |.iff x a b,l,m=>by
  rw[hB];dsimp only
  rw[YV,Hc.wn,Bd.sz];exact Nat.le_succ_of_le (Nat.add_le_add (YW ns ow a _ _) (YW ns ow b _ _))
 |.case x as,l,m=>by
  rw[hB];dsimp only
  rw[YV,Hc.wn,Bd.sz];exact Nat.le_succ_of_le (zbJ ns ow x _ as _)
theorem zbJ(ns:lS)(ow:Str->List Bool)(x:Str)(R:lS):∀(as:Arms)(m:Nat),(hA ns ow x R as m).1.wn<=as.sz
 |.nil,m=>by rw[hA,Ha.wn];exact uK _
 |.cons t xs b r,m=>by
  have h1:=YW ns ow b (stA (tkB ns x R b) x R xs) m;have h2:=zbJ ns ow x R r (hB ns ow b (stA (tkB ns x R b) x R xs) m).2;rw[hA,Ha.wn,Arms.sz];lia
end
theorem jn:∀{xs:lS}{es:List Bool},xs.Nodup->∀{y:Str},y∈upN xs es->y∉ltN xs es
 |[],es,_,y,h,_=>by unfold upN at h;simp at h
 |x::xs,[],_,y,h,_=>by unfold upN at h;simp at h
 |x::xs,e::es,nd,y,h,g=>by
  rw[uP]at nd;rw[xf]at h;rw[xM]at g;cases e
  ·rw[iN (by decide)]at h
   rcases uy.mp g with rfl|g
   ·exact nd.1 (wU h)
   ·exact jn nd.2 h g
  ·rw[iP rfl]at h
   rcases uy.mp h with rfl|h
   ·exact nd.1 (vC g)
   ·exact jn nd.2 h g
theorem YX:∀{l:lS},l.Nodup->∀z,cnt (fun y=>y) l z=if z∈l then 1 else 0
 |[],_,z=>rfl
 |x::l,nd,z=>by
  rw[uP]at nd;rw[show x::l=[x]++l from rfl,xY];dsimp only
  rw[vD,YX nd.2];by_cases e:z=x
  ·subst e
   rw[iP rfl,iN nd.1,iP (uz _ (.head _))]
   rfl
  ·rw[iN e]
   by_cases m:z∈l
   ·rw[iP m,iP (uv _ m)];rfl
   ·rw[iN m,iN (fun q=>(ux.mp q).elim (fun r=>e (uk.mp r)) m)];rfl
theorem Ql{o:Wo}(wok:WOk o)(hn:dfs.map (·.z)=(uM 3).map (fun k=>nm o.z o.b (2-k)))(hF:∀d∈dfs,FOk 6 d/\FNm o d)(hl:∀d∈dfs,(ow d.z).length=d.ns.length){d:Df}(hd:d∈dfs)(hD:d.b.Dd):
  let c:=(hB (nsOf d) ow d.b (upN d.ns (ow d.z)) 0).1
  c.Ok (dfs.map (·.z)) ow/\(upN d.ns (ow d.z)).length<=3/\(ltN d.ns (ow d.z)).length<=3/\c.dp<=105/\c.wn<=1000000/\∀w∈wys ow c (fun y=>y),Pays (ltN d.ns (ow d.z)) w (fun z=>if z∈ltN d.ns (ow d.z)then 0 else if z∈upN d.ns (ow d.z)then 1 else 0) (fun _=>0):=by
 obtain⟨c1,c2,c3,c4⟩:=zdn wok hn hF hl hd hD;obtain⟨⟨f1,f2,f3⟩,h⟩:=hF d hd;have nd:=zbE h f1;have inn:∀{y},y∈d.ns++d.b.binds->y∈nsOf d:=fun{y} hy=>by
  unfold nsOf;rw[xc];exact .inr hy
 refine⟨c1,c2,?_,c3,?_,fun w hw=>?_⟩
 ·unfold ltN
  rw[ub];refine uH (uB _ _) ?_;rw[Ub];lia
 ·refine uH (YW _ _ _ _ _) (uH f2 (by decide))
 ·have hdot:∀z k,nnm z k∉nsOf d:=fun z k hm=>by
   obtain⟨j,_,e⟩:=J6 h f1 hm
   have:=J5 z k
   rw[e]at this
   have:=zbD wok.zc 46 this
   lia
  have p:=xi hdot (fun y hy=>inn (uz _ (vC hy))) (hB (nsOf d) ow d.b (upN d.ns (ow d.z)) 0).1 (upN d.ns (ow d.z)) (fun y=>y) 0 c4 (YU d.b _ 0 fun x hx=>inn (uv _ hx)) (fun y hy=>.inl (inn (uz _ (wU hy)))) (fun _ _=>rfl) w hw;rw[show cnt (fun y=>y) (upN d.ns (ow d.z))=fun z=>if z∈ltN d.ns (ow d.z)then 0 else if z∈upN d.ns (ow d.z)then 1 else 0 from ?_]at p
  ·exact p
  ·funext z
   rw[YX (ZQ nd)];by_cases e:z∈upN d.ns (ow d.z)
   ·rw[iP e,iN (jn nd e)]
   ·rw[iN e]
    split<;>rfl
theorem TT.Ok.kp{t:TT}{st B:aO}{K:uc}(h:t.Ok H)(S:Sta K H st B)(k:Kp st H H'):t.Ok H':=by
 obtain⟨a,ns,dg,i,hst,_⟩:=S;have n:∀{b:aO}{u:HO},H b=sO u->(∀xs,u≠.lst xs)->H' b=sO u:=fun{b u} e n=>k.k b u (fun z=>by rw[z,hst]at e;exact n _ (uX.inj e).symm) e;exact h.keep fun a _=>a.keep (fun ps e=>n e (by intro _ z;cases z)) fun c q e=>n e (by intro _ z;unfold CodO at z;cases z)
theorem IsFs.dd{l:List Df}{ps:List aO}(h:IsFs H l ps):∀d∈l,d.b.Dd:=by
 induction h with
 |nil=>intro d hd;cases hd
 |cons a _ ih =>
  intro d hd;rcases uy.mp hd with rfl|hd
  ·obtain⟨_,_,_,_,h⟩:=a.ex
   exact h.dd
  ·exact ih d hd
theorem OwI.own{od:aO}(h:OwI H od dfs):∃ow,OwA H od ow (dfs.map (·.z))/\∀d∈dfs,(ow d.z).length=d.ns.length:=by
 obtain⟨kv,ow,h1,_,h2⟩:=h;refine⟨ow,⟨kv,h1,fun f hf=>?_⟩,fun d hd=>?_⟩
 ·obtain⟨d,hd,rfl⟩:=uq.mp hf
  obtain⟨a,e1,e2,_⟩:=h2 d hd;exact⟨a,e1,e2⟩
 ·obtain⟨_,_,_,e⟩:=h2 d hd
  exact e
inductive spRight(t:TT)(vs:List V)(H:Hp)(Q:VK)(e_3:XK):Prop
 |mk (pp:aO) (pd:aO) (od:aO) (v0:V) (ps:List aO) (dfs:List Df) (ow:Str->List Bool):(∃o:Wo,vs=[.ref pp,.ref od]/\H pp=sO (.tup [v0,.ref pd])/\H pd=sO (.tup (ps.map V.ref))/\IsFs H dfs ps/\dfs.length<=1000/\(WOk o/\dfs.map (·.z)=(uM 3).map (fun k=>nm o.z o.b (2-k))/\(∀d∈dfs,FOk 6 d/\FNm o d)/\∀d∈dfs,(ow d.z).length=d.ns.length)/\OwA H od ow (dfs.map (·.z))/\t.Ok H/\∀H',KM t.M H H'->t.Ok H'->Q (.bl tV) H')->spRight t vs H Q e_3
section
variable{K:uc}
theorem scRight:FnScope ["_law_program_here","_law_owns_here","_law_name_here","_law_params","_law_truths","_law_body_here","_law_first","_law_others","_law_way"] lS20 (zt Zo):=.ok
theorem vE:(["_law_program_here","_law_owns_here","_law_name_here","_law_params","_law_truths","_law_body_here","_law_first","_law_others","_law_way","_law_param","_law_own"]:lS).Nodup:=by decide +kernel
theorem Qm{t:TT}(F:Fun K "_law_right" "_law_right" Zo f fd)(GH:Ca P w K mg base CX0 9 "held" lS29 (spHeld t))(GW:Ca P w K mg base CX0 (2+2*105) "_law_ways" lS1 (spWys 105))(GP:Ca P w K mg base CX0 1 "_law_pays" lS21 spPays)(m_zip:mg "zip"=nO)(m_dict:mg "dict"=nO):FnOk P w K mg base CX0 213 f fd lS20 (spRight t):=by
 refine F.by scRight (fun vs H Q E h=>?_) (fun cdv A outer s H vs Q E hr h=>?_)
 ·obtain⟨pp,pd,od,v0,ps,dfs,ow,o,rfl,_⟩:=h
  rfl
 obtain⟨pp,pd,od,v0,ps,dfs,ow,o,rfl,hp,hpd,hFs,hdl,⟨wok,hnm,hok,hol⟩,hO,hT,q⟩:=h;have hr1:Room 1 _:=hr.mono (by decide);have hr9:Room 9 _:=hr.mono (by decide);have hrW:Room (2+2*105) _:=hr.mono (by decide);refine⟨_,
  (zh (ya PassesOwn.never rfl (yF K (zp K (cA GH hr9 (jA2 (jv 0) (zS wV rfl m_dict PyProof.Rows.boot_dict (jA1 (jv 1))))))) (zK K rfl (zu (gN 2 scRight.nd) (zu (gN 3 scRight.nd) (zu (gN 4 scRight.nd) (zu (gN 5 scRight.nd) zJ)))))
   (zh (yu ["_law_param","_law_own"] (i:=6) scRight.nd rfl (Or.inl rfl) rfl (yG K rfl m_zip (jA2 (jv 3) (yK hr1 (jv 1) (jv 2)))) (fun _ _ _ _ _=>(zK K (n:=2) rfl (zu (gN 9 vE) (zu (gN 10 vE) zJ)))) (fun _ _ _ _ _=>(yt (yv (jv 10)))) (fun _ _ _ _ _=>(jv 9)))
   (zh (yu ["_law_param","_law_own"] (i:=7) scRight.nd rfl (Or.inl rfl) rfl (yG K rfl m_zip (jA2 (jv 3) (yK hr1 (jv 1) (jv 2)))) (fun _ _ _ _ _=>(zK K (n:=2) rfl (zu (gN 9 vE) (zu (gN 10 vE) zJ)))) (fun _ _ _ _ _=>(yt (xE (yv (jv 10))))) (fun _ _ _ _ _=>(jv 9)))
   (zn (ya PassesOwn.never rfl (zP K (cA GW hrW (jA3 (jv 5) (jv 1) xJ))) (gN 8 scRight.nd)
    (zn (zH (xE (yv (cA GP hr1 (jA3 (jv 8) (jv 6) (jv 7))))) (zn (zv vL)) zB)))))))
  (zn (zv vL))),?_⟩
 have sl:=zN;obtain⟨kv,hod,hov⟩:=id hO;refine zq rfl rfl ⟨od,kv,rfl,hod,fun l5 h5=>?_⟩;have s5:=zk (o:=.dK kv) h5;have hO5:OwA (upd H l5 (.dK kv)) l5 ow (dfs.map (·.z)):=⟨kv,uX9,fun f hf=>let ⟨b,e1,e2⟩:=hov f hf;⟨b,e1,s5 _ _ e2⟩⟩;have T5:=hT.same s5;have hDd:=hFs.dd;have dfl:=hFs.len;generalize upd H l5 (.dK kv)=H5 at *;refine⟨pp,pd,l5,v0,ps,dfs,ow,dfs.map (·.z),rfl,s5 _ _ hp,s5 _ _ hpd,hFs.keep (.of s5),by lia,hO5,fun d hd=>ZO wok hnm hok hol hd,T5,fun H6 r q6 rs k6 T6 hr6 hq6 hA6=>?_⟩;have k06:KM t.M H H6:=(KM.of s5).trans k6;have hO6:OwA H6 od ow (dfs.map (·.z)):=hO.keep fun b u e n1 _ _=>k6 _ _ (T5.no (s5 _ _ e) n1) (s5 _ _ e);refine ixT hr6 aI1 ⟨q6,rfl,⟨_,SqT.of hq6⟩,xq (xs:=rs.map V.ref) (fun i σ H'=>(∃y1 y2 y3 y4 y5 y6 y7,σ=[sR pp,sR od,y1,y2,y3,y4,y5,y6,y7])/\Same H6 H') ⟨⟨_,_,_,_,_,_,_,rfl⟩,Same.refl _⟩ (fun i σ H' _ h=>SqT.of (h.2 _ _ hq6)) ?_ ?_⟩
 ·rintro i v σ H7 hv ⟨⟨y1,y2,y3,y4,y5,y6,y7,rfl⟩,s7⟩
  obtain⟨ra,hra,rfl⟩:=L2.gM hv;obtain⟨d,hd,hHF⟩:=All2.get hA6 hra;have hdm:=uw hd;obtain⟨c1,c2,c2',c3,c4,c5⟩:=Ql wok hnm hok hol hdm (hDd d hdm);obtain⟨q1,q2,vb,g1,g2,g3,g4⟩:=hHF.keep (.of s7);have hlen:=hol d hdm;have n3:=(hok d hdm).1.1;have zl:(d.ns.zip (ow d.z)).length=d.ns.length:=by rw[Ub,hlen,Nat.min_self]
  have hO7:OwA H7 od ow (dfs.map (·.z)):=hO6.keep fun b u e _ _ _=>s7 _ _ e;obtain⟨kv7,hod7,hov7⟩:=id hO7;obtain⟨ao,ga,hao⟩:=hov7 d.z (UO hdm);have dg:DGet H7 od (kV (.inr d.z)) (sO (.ref ao)):=ga ▸ DGet.k hod7;refine cutF fun k_ hk_=>?_;refine⟨_,_,rfl,SqT.of g1,rfl,_,_,rfl,_,_,rfl,_,_,rfl,_,_,rfl,rfl,?_⟩;refine hk_ _ _ ?_;refine zbl fun E_ hE_=>?_;refine(zq rfl rfl (zg rfl ⟨od,.ref ao,rfl,dg,q1,ao,fO,fO,_,_,rfl,SqK.t g2,SqK.t hao,xK (xs:=d.ns.map V.str) (ys:=(ow d.z).map V.bl) (by rw[ub,ub];exact hlen.symm) (fun j τ zs H'=>Same H7 H'/\(∃u v,τ=[sR pp,sR od,sO (.str d.z),sR q1,sR q2,sO vb,y5,y6,y7,u,v])/\zs=(((d.ns.zip (ow d.z)).take j).filter (·.2)).map fun p=>V.str p.1) ⟨Same.refl _,⟨nO,nO,rfl⟩,rfl⟩ (fun j τ zs H' _ h=>⟨SqK.t (h.1 _ _ g2),SqK.t (h.1 _ _ hao)⟩) ?_ ?_⟩))
  ·rintro j v1 v2 T τ zs H3 hv1 hv2 hT ⟨s3,⟨u,v,rfl⟩,rfl⟩
   rw[uh]at hv1 hv2;obtain⟨y,hy,rfl⟩:=ug.mp hv1;obtain⟨e,he,rfl⟩:=ug.mp hv2;rw[wP (Uc (z:=(y,e)).mpr ⟨hy,he⟩)];refine⟨T,(zg rfl ⟨SqT.of uX9,rfl,_,_,rfl,_,_,rfl,rfl,(zq rfl rfl ?_)⟩)⟩;have hfl:((((d.ns.zip (ow d.z)).take j).filter (·.2)).map fun p=>V.str p.1).length < sizeLine:=by
    rw[ub];refine Ue (uB _ _) ?_;rw[ut];lia
   cases e
   ·exact iteF ⟨s3.new hT,⟨_,_,rfl⟩,(uU _).symm⟩
   ·exact iteT (zg rfl ⟨hfl,s3.new hT,⟨_,_,rfl⟩,rfl⟩)
  rintro τ zs H8 ⟨s8,_,rfl⟩ l9 h9;rw[ub,uo (by lia)];have e9:(((d.ns.zip (ow d.z)).filter (·.2)).map fun p=>V.str p.1)=(upN d.ns (ow d.z)).map V.str:=by
   unfold upN;rw[UD]
   rfl
  rw[e9];have s9:=s8.new (o:=.lst ((upN d.ns (ow d.z)).map V.str)) h9;have hl9:=uX9 (H:=H8) (a:=l9) (o:=.lst ((upN d.ns (ow d.z)).map V.str));show(tSeq _ _:TS) _ _ (upd H8 l9 (.lst ((upN d.ns (ow d.z)).map V.str)));generalize upd H8 l9 (.lst ((upN d.ns (ow d.z)).map V.str))=H9 at *;have dg9:DGet H9 od (kV (.inr d.z)) (sO (.ref ao)):=ga ▸ DGet.k (s9 _ _ hod7);refine(zq rfl rfl (zg rfl ⟨od,.ref ao,rfl,dg9,q1,ao,fO,fO,_,_,rfl,SqK.t (s9 _ _ g2),SqK.t (s9 _ _ hao),xK (xs:=d.ns.map V.str) (ys:=(ow d.z).map V.bl) (by rw[ub,ub];exact hlen.symm) (fun j τ zs H'=>Same H9 H'/\(∃u v,τ=[sR pp,sR od,sO (.str d.z),sR q1,sR q2,sO vb,sR l9,y6,y7,u,v])/\zs=(((d.ns.zip (ow d.z)).take j).filter fun p=>!p.2).map fun p=>V.str p.1) ⟨Same.refl _,⟨nO,nO,rfl⟩,rfl⟩ (fun j τ zs H' _ h=>⟨SqK.t (h.1 _ _ (s9 _ _ g2)),SqK.t (h.1 _ _ (s9 _ _ hao))⟩) ?_ ?_⟩))
  ·rintro j v1 v2 T τ zs H3 hv1 hv2 hT ⟨s3,⟨u,v,rfl⟩,rfl⟩
   rw[uh]at hv1 hv2;obtain⟨y,hy,rfl⟩:=ug.mp hv1;obtain⟨e,he,rfl⟩:=ug.mp hv2;rw[w6 (Uc (z:=(y,e)).mpr ⟨hy,he⟩)];refine⟨T,(zg rfl ⟨SqT.of uX9,rfl,_,_,rfl,_,_,rfl,rfl,(zq rfl rfl ?_)⟩)⟩;have hfl:((((d.ns.zip (ow d.z)).take j).filter fun p=>!p.2).map fun p=>V.str p.1).length < sizeLine:=by
    rw[ub];refine Ue (uB _ _) ?_;rw[ut];lia
   cases e
   ·exact iteT (zg rfl ⟨hfl,s3.new hT,⟨_,_,rfl⟩,rfl⟩)
   ·exact iteF ⟨s3.new hT,⟨_,_,rfl⟩,(uU _).symm⟩
  rintro τ zs H10 ⟨s10,_,rfl⟩ l11 h11;rw[ub,uo (by lia)];have e11:(((d.ns.zip (ow d.z)).filter fun p=>!p.2).map fun p=>V.str p.1)=(ltN d.ns (ow d.z)).map V.str:=by
   unfold ltN;rw[UD]
   rfl
  rw[e11];have s11:=s10.new (o:=.lst ((ltN d.ns (ow d.z)).map V.str)) h11;have hl11:=uX9 (H:=H10) (a:=l11) (o:=.lst ((ltN d.ns (ow d.z)).map V.str));generalize upd H10 l11 (.lst ((ltN d.ns (ow d.z)).map V.str))=H11 at *;have s711:=s9.trans s11;subst hE_;refine zq rfl rfl (fun l12 h12=>?_);have s12:=s711.new (o:=.dK []) h12;have hl12:=uX9 (H:=H11) (a:=l12) (o:=.dK []);have hl9':=(zk (o:=.dK []) h12) _ _ (s11 _ _ hl9);have hl11':=(zk (o:=.dK []) h12) _ _ hl11;generalize upd H11 l12 (.dK [])=H12 at *;refine⟨_,vb,od,l12,_,0,ow,_,rfl,⟨g4.keep (.of s12),c1,hO7.keep fun b u e _ _ _=>s12 _ _ e,⟨[],hl12,uj _,fun x=>rfl⟩,by lia⟩,c3,c4,fun H13 r13 ws s13 f13 h13 ha hwl hwc=>?_⟩;refine⟨r13,rfl,⟨_,SqL.of h13⟩,yX (xs:=ws.map V.ref) (fun i σ H'=>(∃y,σ=[sR pp,sR od,sO (.str d.z),sR q1,sR q2,sO vb,sR l9,sR l11,y])/\Same H13 H') ⟨⟨_,rfl⟩,Same.refl _⟩ (fun i σ H' _ h=>SqL.of (h.2 _ _ h13)) ?_ ?_⟩
  ·rintro j v σ H14 hv ⟨⟨y,rfl⟩,s14⟩
   obtain⟨wa,hwa,rfl⟩:=L2.gM hv;obtain⟨wy,hwy,hW⟩:=ha.get hwa;have wm:=uw hwy;have wl:=hwl wy wm;have s1214:=s13.trans s14;exact zq rfl rfl (zg rfl ⟨wa,l9,l11,wy,_,_,rfl,hW.same s14,s1214 _ _ hl9',s1214 _ _ hl11',⟨by lia,by lia,by lia⟩,c5 wy wm,fun H15 s15=>zg rfl (iteF ⟨⟨_,rfl⟩,s14.trans s15⟩)⟩)
  ·rintro σ H14 ⟨⟨y,rfl⟩,s14⟩
   exact⟨⟨_,_,_,_,_,_,_,rfl⟩,s7.trans ((s12.trans s13).trans s14)⟩
 ·rintro σ H7 ⟨⟨y1,y2,y3,y4,y5,y6,y7,rfl⟩,s7⟩
  exact q _ (k06.trans (.of s7)) (T6.same s7)
theorem scLaw:FnScope ["_law_script","_law_state","_law_world_here","_law_program_here","_law_owns_here","_law_some","_law_one"] ["_law_script"] (zt sLaw):=.ok
theorem zdr{t:TT}(F:Fun K "law" "law" sLaw f fd)(GW:Ca P w K mg base CX0 3 "_law_world" ["_law_state"] (spWorld K))(GP:Ca P w K mg base CX0 (8+2*6) "_law_program" lS10 (spProgram K 6))(GO:Ca P w K mg base CX0 (1+6+1) "_law_owns" lS23 (spOwns K 6))(GR:Ca P w K mg base CX0 213 "_law_right" lS20 (spRight t)):FnOk P w K mg base CX0 214 f fd ["_law_script"] (wW K [t.t7,t.t6,t.t5,t.t4,t.t2,t.t1,t.t3]):=by
 refine F.by scLaw (fun vs H Q E h=>?_) (fun cdv A outer s H vs Q E hr h=>?_)
 ·obtain⟨a,ns,rfl,_⟩:=h
  rfl
 obtain⟨a,ns,rfl,hS,h63,hTs,q⟩:=h;have hr3:Room 3 _:=hr.mono (by decide);have hr8:Room (1+6+1) _:=hr.mono (by decide);have hr20:Room (8+2*6) _:=hr.mono (by decide);have hrR:Room 213 _:=hr.mono (by decide);refine⟨_,
  (zh (sE 1 scLaw.nd (zC (jA3 (jv 0) zo zo)))
  (zh (sE 2 scLaw.nd (cA GW hr3 (jA1 (jv 1))))
  (zh (sE 3 scLaw.nd (cA GP hr20 (jA3 (jv 1) (jv 2) zo)))
  (zh (sE 4 scLaw.nd (cA GO hr8 (jA2 (jv 1) (jv 3))))
  (zh (sE 5 scLaw.nd (zC (jA3 (jv 4) (cA GO hr8 (jA2 (jv 1) (jv 3))) (jv 4))))
  (zh (ya PassesOwn.never rfl (zP K (jv 5)) (gN 6 scLaw.nd)
   (zn (zH (xE (yv (cA GR hrR (jA2 (jv 3) (jv 6))))) (zn (zv vL)) zB)))
  (zn (zv vL)))))))),?_⟩
 have sl:=zN;have LM:LIM=4611686018427387904:=rfl;have cb:CB 6=109200:=rfl;have sz:SZ 6=14560:=rfl;refine(zg rfl ⟨sN3,fun st h1=>?_⟩);have S1:Sta K (upd H st (.lst [.ref a,.int ((0:Nat):Int),.int 0])) st 0:=by
  refine⟨a,ns,0,0,uX9,fun e=>?_,(zk h1 _).seq hS,uj _⟩;rcases hS with(h|⟨o,h⟩)|h
  ·exact absurd e (zi h h1)
  ·exact absurd e (zi h h1)
  ·exact fun _=>.inr h
 have em:∀{T ls},T∈[t.t7,t.t6,t.t5,t.t4,t.t2,t.t1,t.t3]->TbG T ls (upd H st (.lst [.ref a,.int ((0:Nat):Int),.int 0])):=fun{T ls} m=>.empty (old h1 (hTs T m));have T1:t.Ok (upd H st (.lst [.ref a,.int ((0:Nat):Int),.int 0])):=⟨⟨em (by simp),em (by simp)⟩,em (by simp),em (by simp),em (by simp),em (by simp),em (by simp)⟩;show(tSeq _ _:TS) _ _ (upd H st (.lst [.ref a,.int ((0:Nat):Int),.int 0]));generalize upd H st (.lst [.ref a,.int ((0:Nat):Int),.int 0])=H1 at *;refine(zg rfl ⟨st,0,rfl,S1,by lia,fun H2 w0 o k2 S2 hW=>?_⟩);refine(zq rfl rfl ⟨st,w0,_,4,o,rfl,S2,by lia,hW,by decide,by decide,fun H3 p pk pd p1 p2 t1 t2 ds dfs k3 S3 hp hpk hp1 hp2 _ _ hpd hFs hdl hok hnm=>?_⟩);have wok:=hW.ok;have T3:=(T1.kp S1 k2).kp S2 k3;have hN:(dfs.map (·.z)).Nodup:=by rw[hnm];exact YJ
 have hb:∀d∈dfs,d.ns.length<=3/\d.b.sz<=1000000/\d.b.dp<=6:=fun d hd=>by
  obtain⟨⟨f1,f2,f3⟩,_⟩:=hok d hd;exact⟨f1,by lia,f3⟩
 refine(zq rfl rfl ⟨st,p,pd,.ref pk,ds,dfs,(zg rfl ⟨S3,by lia,hp,hpd,hFs,hdl,hb,hN,fun H4 od k4 S4 hOw=>?_⟩)⟩);have T4:=T3.kp S3 k4;have tp34:=k4.tups S3;obtain⟨ow,hO4,hol⟩:=hOw.own;have hp4:=tp34 _ _ hp;have hpd4:=tp34 _ _ hpd;have hF4:=hFs.keep tp34;refine zg rfl (zq rfl rfl ⟨st,p,pd,.ref pk,ds,dfs,(zg rfl ⟨S4,by lia,hp4,hpd4,hF4,hdl,hb,hN,fun H5 od2 k5 S5 hOw2=>?_⟩)⟩);have T5:=T4.kp S4 k5;have tp45:=k5.tups S4;obtain⟨ow2,hO52,hol2⟩:=hOw2.own;have hO5:OwA H5 od ow (dfs.map (·.z)):=by
  obtain⟨a',ns',dg,i',hst,_⟩:=S4;exact hO4.keep fun b u e _ _ n3=>k5.k b u (fun z=>by rw[z,hst]at e;exact n3 _ (uX.inj e).symm) e
 have hp5:=tp45 _ _ hp4;have hpd5:=tp45 _ _ hpd4;have hF5:=hF4.keep tp45;have dfl:=hF5.len;clear k2 k3 k4 k5 S1 S2 S3 S4 T1 T3 T4 hW hp1 hp2 hpk hOw hOw2 hTs hS hFs hF4 hpd hp hpd4 hp4 tp34 tp45;refine zg rfl ⟨sN3,fun l6 h6=>?_⟩;have s6:=zk (o:=.lst [.ref od,.ref od2,.ref od]) h6;have hl6:=uX9 (H:=H5) (a:=l6) (o:=.lst [.ref od,.ref od2,.ref od]);have T6:=T5.same s6;dsimp only[tE]
 generalize upd H5 l6 (.lst [.ref od,.ref od2,.ref od])=H6 at *;refine zg rfl ⟨l6,rfl,⟨_,SqL.of hl6⟩,yX (xs:=[.ref od,.ref od2,.ref od]) (fun i σ H'=>(∃y,σ=[sR a,sR st,sR w0,sR p,sR od,sR l6,y])/\KM t.M H6 H'/\t.Ok H') ⟨⟨_,rfl⟩,KM.refl,T6⟩ (fun i σ H' _ h=>SqL.of (h.2.1 _ _ (T6.no hl6 (by intro _ z;cases z)) hl6)) ?_ ?_⟩
 ·rintro i v σ H7 hv ⟨⟨y,rfl⟩,k7,T7⟩
  have kk:∀{b u},H5 b=sO u->(∀ps,u≠.tbl ps)->H7 b=sO u:=fun{b u} e n=>k7 _ _ (T6.no (s6 _ _ e) n) (s6 _ _ e);have tp57:Tups H5 H7:=fun b u e=>kk e (by intro _ z;cases z);obtain⟨od',ow',rfl,hO',hol'⟩:∃(od':aO)(ow':Str->List Bool),v=.ref od'/\OwA H5 od' ow' (dfs.map (·.z))/\∀d∈dfs,(ow' d.z).length=d.ns.length:=by
   match i,hv with
   |0,hv=>cases hv;exact⟨od,ow,rfl,hO5,hol⟩
   |1,hv=>cases hv;exact⟨od2,ow2,rfl,hO52,hol2⟩
   |2,hv=>cases hv;exact⟨od,ow,rfl,hO5,hol⟩
   |i+3,hv=>simp at hv
  exact zq rfl rfl ⟨p,pd,od',.ref pk,ds,dfs,ow',o,rfl,tp57 _ _ hp5,tp57 _ _ hpd5,hF5.keep tp57,by lia,⟨wok,hnm,hok,hol'⟩,hO'.keep fun b u e n1 _ _=>kk e n1,T7,fun H8 k8 T8=>zg rfl (iteF ⟨⟨_,rfl⟩,k7.trans k8,T8⟩)⟩
 ·rintro σ H7 ⟨⟨y,rfl⟩,k7,T7⟩
  exact q _
end
structure TopK(K:uc)(cB cP cL:aO):Prop where
 q8:OwnIn K "Begun" cB
 qg:uZ K (.ref cB) "within"=sO nO
 qh:uZ K (.ref cB) "finish"=sO nO
 qf:uZ K (.ref cB) "results"=sO nO
 q7:OwnIn K "Putter" cP
 qk:uZ K (.ref cP) "owns"=sO nO
 ql:uZ K (.ref cP) "bits"=sO nO
 qm:uZ K (.ref cP) "many"=sO nO
 q9:OwnIn K "Place" cL
 qr:uZ K (.ref cL) "body"=sO nO
 qs:uZ K (.ref cL) "note"=sO nO
 qn:uZ K (.ref cL) "names"=sO nO
 qaa:DcIn K "noted" wZ 81
 qt:DcIn K "begun_note" yQ 86
 qV:DcIn K "held_def" wE 129
 qo:DcIn K "begun_place" xQ 197
 qp:DcIn K "begun_piece" xo 202
 qJ:DcIn K "begun_let" vx 207
 qu:DcIn K "begun_case" wF 219
 hc1:Ua K 81 77=tV
 hc2:Ua K 86 84=tV
 hc3:Ua K 129 127=tV
 hc4:Ua K 197 195=tV
 hc5:Ua K 202 200=tV
 hc6:Ua K 207 205=tV
 hc7:Ua K 219 217=tV
 q2:DfIn K "ways_on" V8
 qab:DfIn K "bound" Xm
 qd:MeIn K cB "__init__" "Begun.__init__" Xn
 qW:DfIn K "only_one" V9
 qv:DfIn K "worked_out" Zk
 q3:DfIn K "bits_of" Ja
 qX:DfIn K "together" sTog
 qY:DfIn K "names_of" vS
 qw:DfIn K "names_used" we
 q4:DfIn K "note_of" Zl
 qa:MeIn K cP "new_name" "Putter.new_name" vU
 qb:MeIn K cP "is_ahead" "Putter.is_ahead" vV
 qi:MeIn K cP "spent" "Putter.spent" Xt
 qx:DfIn K "with_drops" Xu
 qy:DfIn K "with_holds" Xv
 qz:DfIn K "with_names" Jb
 q5:DfIn K "used_up" Zp
 qK:DfIn K "held_deed" w4
 qe:MeIn K cL "__init__" "Place.__init__" Zq
 qc:MeIn K cP "__init__" "Putter.__init__" Zr
 qL:DfIn K "held_arms" w5
 qae:DfIn K "held" Jg
 qM:DfIn K "_law_draw" Jc
 qN:DfIn K "_law_name" sNm
 qA:DfIn K "_law_sorts" Xo
 qB:DfIn K "_law_world" Xp
 qC:DfIn K "_law_kinds" Xq
 qO:DfIn K "_law_pick" Jd
 qD:DfIn K "_law_picks" Xr
 qq:DfIn K "_law_handed" Zm
 qP:DfIn K "_law_deed" Je
 qE:DfIn K "_law_rooms" Xs
 qQ:DfIn K "_law_case" Jf
 qR:DfIn K "_law_body" X3
 qZ:DfIn K "_law_def" sDef
 qj:DfIn K "_law_program" vT
 qF:DfIn K "_law_named" vy
 qS:DfIn K "_law_owns" Xw
 q0:DfIn K "_law_ups" Jh
 qG:DfIn K "_law_lends" Zs
 qH:DfIn K "_law_marks" ZU
 q6:DfIn K "_law_on" sLOn
 qT:DfIn K "_law_ways" Zn
 qU:DfIn K "_law_pays" XH
 qI:DfIn K "_law_right" Zo
 qah:DfIn K "law" sLaw
 qai:UK K mainGlobals "len"=sO nO
 qac:UK K mainGlobals "range"=sO nO
 qaf:UK K mainGlobals "list"=sO nO
 qad:UK K mainGlobals "tuple"=sO nO
 qaj:UK K mainGlobals "zip"=sO nO
 qak:UK K mainGlobals "max"=sO nO
 q1:UK K mainGlobals "reversed"=sO nO
 qag:UK K mainGlobals "dict"=sO nO
theorem top_ok{l:PySem.W.OpenLaw}{K:uc}(T:TopK K cB cP cL)(X:K.In h)(G:h.Ns mainGlobals mg)(hfa:mg "law"=sO (.ref fa)):
  ∃fd:FuncData,(∀(s:Shared)(u:aA),BindsTo s fd ⟨[u],[]⟩ [("_law_script",u)])/\∀base:Heap,K.In base->base.Ns mainGlobals mg->BMn mg base->FnOk l.prog w K mg base CX0 214 fa fd ["_law_script"] (wW K [217,205,200,195,84,77,127]):=by
 refine Qj T.qah X G hfa (fun _ _ _ _ _ _ s v=>.of_eq rfl) fun base fd hBM FL=>?_;have qai:mg "len"=nO:=UL X G T.qai;have qac:mg "range"=nO:=UL X G T.qac;have qaf:mg "list"=nO:=UL X G T.qaf;have qad:mg "tuple"=nO:=UL X G T.qad;have qaj:mg "zip"=nO:=UL X G T.qaj;have qak:mg "max"=nO:=UL X G T.qak;have q1:mg "reversed"=nO:=UL X G T.q1;have qag:mg "dict"=nO:=UL X G T.qag;have n_Begun:mg "Begun"=sO (.ref cB):=U7 X G T.q8.n;have n_Putter:mg "Putter"=sO (.ref cP):=U7 X G T.q7.n;have n_Place:mg "Place"=sO (.ref cL):=U7 X G T.q9.n;have BN:Bn K cB:=⟨T.q8.cls,T.qg,T.qh,T.qf⟩;have PN:Pn K cP:=⟨T.q7.cls,T.qk,T.ql,T.qm⟩;have LN0:Ln K cL:=⟨T.q9.cls,T.qr,T.qs,T.qn⟩;have G1:=DfIn.ca (P:=l.prog) (w:=w) (base:=base) X G T.q2 (ps:=["body"]) (fun _ _ _ _ _ _=>us1 fun _=>rfl) fun f fd F=>zao F;have G2:=DfIn.ca X G T.qab (ps:=["one"]) (fun _ _ _ _ _ _=>us1 fun _=>rfl) fun f fd F=>JQ F G1 qai q1 qaf;have GB:=T.qd.ma (P:=l.prog) (w:=w) (mg:=mg) (base:=base) (x:="Begun") (ps:=lS22) (fun _ _ _ _ _ _=>us3 fun _ _ _=>rfl) T.q8.mks T.q8.kp n_Begun fun f fd F=>Ju F BN;have GO:=DfIn.ca (P:=l.prog) (w:=w) (base:=base) X G T.qW (ps:=["results"]) (fun _ _ _ _ _ _=>us1 fun _=>rfl) fun f fd F=>zas F;obtain⟨fo,fdo,GO1,GO2,GO3,GO4⟩:=GO.ex;have GW4:=DfIn.ca (P:=l.prog) (w:=w) (base:=base) X G T.qv (ps:=lS27) (fun _ _ _ _ _ _=>us2 fun _ _=>rfl) fun f fd F=>jP (k:=4) F BN GB GO1 GO2 GO3 GO4 qai (by decide);have GW6:=DfIn.ca (P:=l.prog) (w:=w) (base:=base) X G T.qv (ps:=lS27) (fun _ _ _ _ _ _=>us2 fun _ _=>rfl) fun f fd F=>jP (k:=6) F BN GB GO1 GO2 GO3 GO4 qai (by decide);have GBi:=DfIn.ca (P:=l.prog) (w:=w) (base:=base) X G T.q3 (ps:=["names"]) (fun _ _ _ _ _ _=>us1 fun _=>rfl) fun f fd F=>zav F;have GT:=DfIn.ca (P:=l.prog) (w:=w) (base:=base) X G T.qX (ps:=["names","bits"]) (fun _ _ _ _ _ _=>us2 fun _ _=>rfl) fun f fd F=>zcW F;have GNo:=DfIn.ca (P:=l.prog) (w:=w) (base:=base) X G T.qY (ps:=["deed"]) (fun _ _ _ _ _ _=>us1 fun _=>rfl) fun f fd F=>XB F;have GU:=DfIn.ca X G T.qw (ps:=["body"]) (fun _ _ _ _ _ _=>us1 fun _=>rfl) fun f fd F=>zaw F GNo;have GNt:=DfIn.ca X G T.q4 (ps:=lS16) (fun _ _ _ _ _ _=>us4 fun _ _ _ _=>rfl) fun f fd F=>WQ F GT GU qaj;have GBn:=DcIn.ca (P:=l.prog) (w:=w) (base:=base) X G T.qt (ps:=lS18) (fun _ _ _ _ _=>us2 fun _ _=>rfl) fun f fd F=>XC F hBM T.hc2 G1;have GNd:=DcIn.ca (P:=l.prog) (w:=w) (base:=base) X G T.qaa (ps:=lS18) (fun _ _ _ _ _=>us2 fun _ _=>rfl) fun f fd F=>JF F hBM T.hc1 (by decide) GBn GNt GW4;have MN:=T.qa.me (P:=l.prog) (w:=w) (mg:=mg) (base:=base) (ps:=["self","name"]) (fun _ _ _ _ _ _=>us2 fun _ _=>rfl) fun f fd F=>zc2 F PN;have MA:=T.qb.me (P:=l.prog) (w:=w) (mg:=mg) (base:=base) (ps:=lS19) (fun _ _ _ _ _ _=>us3 fun _ _ _=>rfl) fun f fd F=>zc3 F PN;have MS:=T.qi.me (P:=l.prog) (w:=w) (mg:=mg) (base:=base) (ps:=lS25) (fun _ _ _ _ _ _=>us3 fun _ _ _=>rfl) fun f fd F=>JK F PN MN;have GDr:=DfIn.ca (P:=l.prog) (w:=w) (base:=base) X G T.qx (ps:=["names","body"]) (fun _ _ _ _ _ _=>us2 fun _ _=>rfl) fun f fd F=>JL F q1;have GHo:=DfIn.ca (P:=l.prog) (w:=w) (base:=base) X G T.qy (ps:=["pairs","body"]) (fun _ _ _ _ _ _=>us2 fun _ _=>rfl) fun f fd F=>JM F q1;have GWn:=DfIn.ca (P:=l.prog) (w:=w) (base:=base) X G T.qz (ps:=["deed","names"]) (fun _ _ _ _ _ _=>us2 fun _ _=>rfl) fun f fd F=>zaI F qad;have GUu:=DfIn.ca X G T.q5 (ps:=["deed","owns"]) (fun _ _ _ _ _ _=>us2 fun _ _=>rfl) fun f fd F=>WV F GNo qad;have GHd:=DfIn.ca X G T.qK (ps:=lS28) (fun _ _ _ _ _ _=>us3 fun _ _ _=>rfl) fun f fd F=>YA F GNo GWn qaj;have GPl:=T.qe.ma (P:=l.prog) (w:=w) (mg:=mg) (base:=base) (x:="Place") (ps:=lS6) (fun _ _ _ _ _ _=>us4 fun _ _ _ _=>rfl) T.q9.mks T.q9.kp n_Place fun f fd F=>WX F LN0;have GPu:=T.qc.ma (P:=l.prog) (w:=w) (mg:=mg) (base:=base) (x:="Putter") (ps:=lS26) (fun _ _ _ _ _ _=>us3 fun _ _ _=>rfl) T.q7.mks T.q7.kp n_Putter fun f fd F=>WY F PN GBi G2;have GAr:=DfIn.ca (P:=l.prog) (w:=w) (base:=base) X G T.qL (ps:=lS24) (fun _ _ _ _ _ _=>us3 fun _ _ _=>rfl) fun f fd F=>YB F qad qaj;have GBp:∀Y:HX,XOk Y->Y.cP=cP->Y.cL=cL->Y.T4=195->Y.T5=200->Y.T6=205->Y.T7=217->Ca l.prog w K mg base CX0 5 "begun_place" lS4 (spBegPl l.prog w K mg base Y):=by
  rintro⟨y1,y2,pu,dx,od,bd,x4,x5,x6,x7,y3,y4,y5⟩ x0 e1 e2 e4 e5 e6 e7;dsimp only at e1 e2 e4 e5 e6 e7
  subst e1 e2 e4 e5 e6 e7;have GLt:=DcIn.ca (P:=l.prog) (w:=w) (base:=base) X G T.qJ (ps:=lS4) (fun _ _ _ _ _=>us2 fun _ _=>rfl) fun f fd F=>WZ F hBM T.hc6 x0 PN LN0 GUu GNo MA MS GHd GPl GHo qaj;have GCs:=DcIn.ca (P:=l.prog) (w:=w) (base:=base) X G T.qu (ps:=lS4) (fun _ _ _ _ _=>us2 fun _ _=>rfl) fun f fd F=>XF F hBM T.hc7 x0 PN LN0 MA GPl GAr qaj qaf;have GPi:=DcIn.ca (P:=l.prog) (w:=w) (base:=base) X G T.qp (ps:=lS4) (fun _ _ _ _ _=>us2 fun _ _=>rfl) fun f fd F=>YD F hBM T.hc5 x0 PN LN0 GLt GCs MS GPl GHo qaj qad;exact DcIn.ca (P:=l.prog) (w:=w) (base:=base) X G T.qo (ps:=lS4) (fun _ _ _ _ _=>us2 fun _ _=>rfl) fun f fd F=>YE F hBM T.hc4 x0 PN LN0 MA GPi GPl GDr
 have GHf:=DcIn.ca (P:=l.prog) (w:=w) (base:=base) X G T.qV (ps:=["one","owns"]) (fun _ _ _ _ _=>us2 fun _ _=>rfl) fun f fd F=>XG (t:=⟨77,84,127,195,200,205,217⟩) F hBM T.hc3 (by decide) PN LN0 GPu GPl GNd GW6 GBp qaj qad;have GHe:=DfIn.ca (P:=l.prog) (w:=w) (base:=base) X G T.qae (ps:=lS29) (fun _ _ _ _ _ _=>us2 fun _ _=>rfl) fun f fd F=>zaN F GHf qad;have LD:=DfIn.ca (P:=l.prog) (w:=w) (base:=base) X G T.qM (ps:=lS5) (fun _ _ _ _ _ _=>us2 fun _ _=>rfl) fun f fd F=>zad F qai;have LN:=DfIn.ca (P:=l.prog) (w:=w) (base:=base) X G T.qN (ps:=lS13) (fun _ _ _ _ _ _=>us2 fun _ _=>rfl) fun f fd F=>zdN F;have LS:=DfIn.ca X G T.qA (ps:=lS12) (fun _ _ _ _ _ _=>us3 fun _ _ _=>rfl) fun f fd F=>Jj F LD qac;have LW:=DfIn.ca X G T.qB (ps:=["_law_state"]) (fun _ _ _ _ _ _=>us1 fun _=>rfl) fun f fd F=>Jl F LD LN LS qac;have LK:=DfIn.ca (P:=l.prog) (w:=w) (base:=base) X G T.qC (ps:=["_law_world_here"]) (fun _ _ _ _ _ _=>us1 fun _=>rfl) fun f fd F=>Jq F qai qad;have LP:=DfIn.ca X G T.qO (ps:=lS7) (fun _ _ _ _ _ _=>us3 fun _ _ _=>rfl) fun f fd F=>zag F LD qai;have LQ:=DfIn.ca X G T.qD (ps:=lS8) (fun _ _ _ _ _ _=>us3 fun _ _ _=>rfl) fun f fd F=>Jm F LP qad;have LH:=DfIn.ca X G T.qq (ps:=lS17) (fun _ _ _ _ _ _=>us3 fun _ _ _=>rfl) fun f fd F=>WI F LD LQ qai qac qak;have LE:=DfIn.ca X G T.qP (ps:=lS9) (fun _ _ _ _ _ _=>us4 fun _ _ _ _=>rfl) fun f fd F=>zaj F LD LP LQ LH;have LR:=DfIn.ca X G T.qE (ps:=lS14) (fun _ _ _ _ _ _=>us3 fun _ _ _=>rfl) fun f fd F=>Jo F LD qac;have LB:∀n:Nat,Ca l.prog w K mg base CX0 (6+2*n) "_law_body" lS0 (spBody K n):=by
  intro n
  induction n with
  |zero=>exact DfIn.ca (P:=l.prog) (w:=w) (base:=base) X G T.qR (ps:=lS0) (fun _ _ _ _ _ _=>us6 fun _ _ _ _ _ _=>rfl) fun f fd F=>Jp F
  |succ n ih =>
   have LC:=DfIn.ca (P:=l.prog) (w:=w) (base:=base) X G T.qQ (ps:=lS0) (fun _ _ _ _ _ _=>us6 fun _ _ _ _ _ _=>rfl) fun f fd F=>zam (n:=n) F LD LN LP LR ih qai qac qaj qaf qad;exact DfIn.ca (P:=l.prog) (w:=w) (base:=base) X G T.qR (ps:=lS0) (fun _ _ _ _ _ _=>us6 fun _ _ _ _ _ _=>rfl) fun f fd F=>zan F LD LN LP LR LE LC ih
 have LF:=DfIn.ca X G T.qZ (ps:=lS11) (fun _ _ _ _ _ _=>us4 fun _ _ _ _=>rfl) fun f fd F=>zcR F LN (LB 6) qai qac qaj qaf qad;have LG:=DfIn.ca X G T.qj (ps:=lS10) (fun _ _ _ _ _ _=>us3 fun _ _ _=>rfl) fun f fd F=>Xz F LK LF qac qad;have LNa:∀n:Nat,Ca l.prog w K mg base CX0 (1+n) "_law_named" ["_law_body_here"] (spNamed n):=by
  intro n
  induction n with
  |zero=>exact DfIn.ca (P:=l.prog) (w:=w) (base:=base) X G T.qF (ps:=["_law_body_here"]) (fun _ _ _ _ _ _=>us1 fun _=>rfl) fun f fd F=>W4 F
  |succ n ih=>exact DfIn.ca (P:=l.prog) (w:=w) (base:=base) X G T.qF (ps:=["_law_body_here"]) (fun _ _ _ _ _ _=>us1 fun _=>rfl) fun f fd F=>JZ F ih
 have LOw:=DfIn.ca X G T.qS (ps:=lS23) (fun _ _ _ _ _ _=>us2 fun _ _=>rfl) fun f fd F=>J1 F LD (LNa 6) qad;have LUp:=DfIn.ca (P:=l.prog) (w:=w) (base:=base) X G T.q0 (ps:=lS2) (fun _ _ _ _ _ _=>us2 fun _ _=>rfl) fun f fd F=>zaO F qaf qaj;have LLe:=DfIn.ca (P:=l.prog) (w:=w) (base:=base) X G T.qG (ps:=lS2) (fun _ _ _ _ _ _=>us2 fun _ _=>rfl) fun f fd F=>W9 F qaj;have LMk:=DfIn.ca (P:=l.prog) (w:=w) (base:=base) X G T.qH (ps:=lS15) (fun _ _ _ _ _ _=>us3 fun _ _ _=>rfl) fun f fd F=>Qh F;have LWy:∀n:Nat,Ca l.prog w K mg base CX0 (2+2*n) "_law_ways" lS1 (spWys n):=by
  intro n
  induction n with
  |zero=>exact DfIn.ca (P:=l.prog) (w:=w) (base:=base) X G T.qT (ps:=lS1) (fun _ _ _ _ _ _=>us3 fun _ _ _=>rfl) fun f fd F=>zaY F
  |succ n ih =>
   have LOn:=DfIn.ca (P:=l.prog) (w:=w) (base:=base) X G T.q6 (ps:=lS3) (fun _ _ _ _ _ _=>us4 fun _ _ _ _=>rfl) fun f fd F=>zdW (n:=n) F ih;exact DfIn.ca (P:=l.prog) (w:=w) (base:=base) X G T.qT (ps:=lS1) (fun _ _ _ _ _ _=>us3 fun _ _ _=>rfl) fun f fd F=>zdq F LMk LOn LUp LLe qag
 have LPa:=DfIn.ca (P:=l.prog) (w:=w) (base:=base) X G T.qU (ps:=lS21) (fun _ _ _ _ _ _=>us3 fun _ _ _=>rfl) fun f fd F=>za0 F qak;have LRi:=DfIn.ca X G T.qI (ps:=lS20) (fun _ _ _ _ _ _=>us2 fun _ _=>rfl) fun f fd F=>Qm F GHe (LWy 105) LPa qaj qag;exact zdr (t:=⟨77,84,127,195,200,205,217⟩) FL LW LG LOw LRi
end GN
namespace PySem.W.Fast
def tw10429955392962246321:=()
def tw2025617336192748613:=()
def tw6253399477364686028:=()
def tw4720075120104979801:=()
def tw11185097267194546708:=()
def tw1600380399707920052:=()
def tw16424848169514016675:=()
def tw11601445853445571546:=()
def tw17214146117792999909:=()
def tw4784616303101301845:=()
def tw10417062692496538764:=()
def tw3921906457742739008:=()
def tw13270709399808261211:=()
def tw14595132530270256852:=()
def tw6471802754381610051:=()
def tw15374195840951327885:=()
def tw1712784913570528712:=()
def tw10259599295411468961:=()
def tw408669473424709105:=()
def tw17776696197057443616:=()
def tw9255810556417137389:=()
def tw16247114803157702210:=()
def tw8734362677154887727:=()
def tw9717941036865482174:=()
def tw10860153721925247119:=()
def tw15681645539879614343:=()
def tw6481165566258156245:=()
def tw9831152760788300918:=()
def tw10758018426378669058:=()
def tw8048984743021643951:=()
def tw2009836517069725923:=()
def tw12751378135893960299:=()
def tw4089259659142935503:=()
def tw13729231309988413253:=()
def tw7113231673939333605:=()
def tw1298249979310363678:=()
def tw15625736682464090775:=()
def tw660185260452460790:=()
def tw12313185162507835523:=()
def tw9157735390000084476:=()
def tw874972921073754027:=()
def tw17095935847843696496:=()
def tw16366286968941438023:=()
def tw14017497515535653580:=()
def tw9654376219679799011:=()
def tw9373445491371955852:=()
def tw14103447695275122332:=()
def tw4587250042937950318:=()
def tw2054756372638861815:=()
def tw7198854932488068907:=()
def tw3301046398364588482:=()
def tw4039712013760258231:=()
def tw5580462522352643504:=()
def tw8975382313359527249:=()
def tw11535716670603741716:=()
def tw15132727940304922162:=()
def tw26954171896796243:=()
def tw4667473849795966045:=()
def tw17363965599229190480:=()
def tw11104335203644710266:=()
def tw3001187417385679144:=()
def tw16639720368826110321:=()
def tw1817719332906140565:=()
def tw13022832720075292427:=()
def tw2864166093019879684:=()
def tw2234682027352583847:=()
def tw5125181045876768624:=()
def tw8989991253326171393:=()
def tw352133968889056324:=()
def tw14999504540366103237:=()
def tw2812233512606540610:=()
def tw8751862929093845885:=()
def tw420233756493443657:=()
def tw5993767288330993966:=()
def tw15226640046447180236:=()
def tw8319182442095067022:=()
def tw17812821080674828604:=()
def tw4180723260062463709:=()
def tw17413154568028803941:=()
def tw14413047619016140250:=()
def tw8262626975818781080:=()
def tw18278603037669974179:=()
def tw11923933200996478216:=()
def tw3674454984320053561:=()
def tw1832241892121437129:=()
def tw9545461912676173601:=()
def tw17553183082443976237:=()
def tw12528600464157050711:=()
def tw13164601068987646001:=()
def tw14194430917169152796:=()
def tw3736622551444307346:=()
def tw14186774475819328002:=()
def tw11416314221434382978:=()
def tw3129998382378019892:=()
def tw17184514059487316166:=()
def tw16823889749836155467:=()
def tw12060138368400908068:=()
def tw10174930720570742408:=()
def tw16464984671215748247:=()
def tw7822249688263456972:=()
def tw15620550518678097138:=()
def tw16027241863238671421:=()
def tw11705642541989949395:=()
def tw5770079655311937895:=()
def tw9158570349826872693:=()
def tw10072480138210702155:=()
def tw4120868513244636359:=()
def tw8081509514096258855:=()
def tw11080296657986721858:=()
def tw4044214945810334569:=()
def tw10915935688437142133:=()
def tw7089766508274214493:=()
def tw4024076660314143378:=()
def tw9799995512842028350:=()
def tw12070882115998543432:=()
def tw10546432380990331617:=()
def tw13515761265332672158:=()
def tw3950896602426347275:=()
def tw12361821971328584813:=()
def tw3200961352482770147:=()
def tw11359023585756087407:=()
def tw15239645582657272193:=()
def tw10977793261336293774:=()
def tw4850510033002040658:=()
def tw1681519247426754663:=()
def tw10982102982025712713:=()
def tw13111324378856576240:=()
def tw13383404646371712578:=()
def tw18156030548788132014:=()
def tw4775124455178714226:=()
def tw4233348402670467523:=()
def tw12139998633243726717:=()
def tw4361344262123062933:=()
def tw13732365749419929499:=()
def tw5520178080158600220:=()
def tw12871194522592451377:=()
def tw14765606310980711066:=()
def tw12402083748077150010:=()
def tw4686497852068963452:=()
def tw647243826388187778:=()
def tw8249826528190306974:=()
def tw17282809446746214099:=()
def tw2537012390660626229:=()
def tw4390632797052214770:=()
def tw8128299472982050045:=()
def tw147165557438155389:=()
def tw7361090848341504510:=()
def tw904658562346717486:=()
def tw4074444592776774520:=()
def tw5098329304705792671:=()
def tw10004666530412382303:=()
def tw2875022673236046166:=()
def tw460979051522750901:=()
def tw15724978772167107989:=()
def tw3301586211322438738:=()
def tw10398894111906677384:=()
def tw12900000178291558169:=()
def tw6723746745122591460:=()
def tw17788063938646611681:=()
def tw5395431896509412963:=()
def tw4259743345780102410:=()
def tw8135369957505657279:=()
def tw14962142592638393041:=()
def tw12572611785012188282:=()
def tw7429570259020277512:=()
def tw10450762539833589914:=()
def tw8985866289554891582:=()
def tw12777173666481017337:=()
def tw4780332296717324219:=()
def tw8814098120409722838:=()
def tw12012374049359604420:=()
def tw11335255059070938306:=()
def tw2698934226972624828:=()
def tw14102232401502423869:=()
def tw17343290363985732871:=()
def tw3576928505640331481:=()
def tw17135534299970375452:=()
def tw14004463435404735780:=()
def tw14651553413966977952:=()
def tw2683876870557555685:=()
def tw13850449862727240157:=()
def tw10249767413912782036:=()
def tw12278250335062750170:=()
def tw390450521698854794:=()
def tw16753555535230136309:=()
def tw1008392911106867883:=()
def tw3503514079788333237:=()
def tw10559781142246594306:=()
def tw12351513611557724012:=()
def tw12279568005308102710:=()
def tw2240682953784899709:=()
def tw15936726271230496775:=()
def tw17398812661898816989:=()
def tw14607603762972929312:=()
def tw433279960486170757:=()
def tw2088600589821834734:=()
def tw12836805616902415523:=()
def tw17515782219680931176:=()
def tw8581481732488270797:=()
def tw14161062464902780650:=()
def tw15255034299532198225:=()
def tw16257987570699143250:=()
def tw7171327210415971278:=()
def tw14734393260669720412:=()
def tw12670694771146727537:=()
def tw14558566063424437673:=()
def tw7856943867811235816:=()
def tw13506084328601399896:=()
def tw10816666652458639655:=()
def tw9680103250062338494:=()
def tw9378991000303352072:=()
def tw12858648315661917573:=()
def tw14754357296422914608:=()
def tw10918029083039911013:=()
def tw13043116963263032129:=()
def tw11848676931193046754:=()
def tw10541701760117760539:=()
def tw4945750978921488202:=()
def tw1020544814260584212:=()
def tw5618965290460346854:=()
def tw17733328752795975321:=()
def tw6859167009040467315:=()
def tw15780335852948686613:=()
def tw17223223560411491373:=()
def tw14059914369266078945:=()
def tw10362236955162345960:=()
def tw4075684499664908243:=()
def tw3291904587825442660:=()
def tw12636358587561114454:=()
def tw4842385641667074258:=()
def tw4286955044132288014:=()
def tw17667159818318682393:=()
def tw1267450294047392029:=()
def tw13103980969183800497:=()
def tw8802974535211005435:=()
def tw11719715500538511645:=()
def tw1234098820512004193:=()
def tw6848913023390286335:=()
def tw15923370129129832201:=()
def tw14089263746972326207:=()
def tw15303039075257523332:=()
def tw10714937588518374879:=()
def tw6731232766402594678:=()
end PySem.W.Fast
open PySem PySem.W PyProof.Rows
set_option maxRecDepth 100000 in
set_option maxHeartbeats 0 in
theorem PySem.Challenge.cw_reusewise_k49_whole_every_way_pays_holds : PySem.Challenge.rw_reusewise_k49_whole_every_way_pays.Holds := by
 w_on;o_law;k_head;(case hw=>w_witness2)
 k_fill
 refine L2.walkTs (l:=PySem.Challenge.rw_reusewise_k49_whole_every_way_pays) (k:=214) (Ts:=[217,205,200,195,84,77,127]) rfl ⟨rfl,by decide,by decide⟩ rfl rfl (fun p T hT=>by
  simp only[uy,Uz,or_false]at hT
  rcases hT with rfl|rfl|rfl|rfl|rfl|rfl|rfl
  ·exact⟨219,rfl⟩
  ·exact⟨207,rfl⟩
  ·exact⟨202,rfl⟩
  ·exact⟨197,rfl⟩
  ·exact⟨86,rfl⟩
  ·exact⟨81,rfl⟩
  ·exact⟨129,rfl⟩
  ) (fun p T hT=>by
  simp only[uy,Uz,or_false]at hT
  rcases hT with rfl|rfl|rfl|rfl|rfl|rfl|rfl
  ·exact rfl
  ·exact rfl
  ·exact rfl
  ·exact rfl
  ·exact rfl
  ·exact rfl
  ·exact rfl
  ) ?F
 case F =>
  intro w mg fa h KX G hm
  refine' GN.top_ok (GN.TopK.mk ?q8 ?qg ?qh ?qf ?q7 ?qk ?ql ?qm ?q9 ?qr ?qs ?qn ?qaa ?qt ?qV ?qo ?qp ?qJ ?qu ?hc1 ?hc2 ?hc3 ?hc4 ?hc5 ?hc6 ?hc7 ?q2 ?qab ?qd ?qW ?qv ?q3 ?qX ?qY ?qw ?q4 ?qa ?qb ?qi ?qx ?qy ?qz ?q5 ?qK ?qe ?qc ?qL ?qae ?qM ?qN ?qA ?qB ?qC ?qO ?qD ?qq ?qP ?qE ?qQ ?qR ?qZ ?qj ?qF ?qS ?q0 ?qG ?qH ?q6 ?qT ?qU ?qI ?qah ?qai ?qac ?qaf ?qad ?qaj ?qak ?q1 ?qag) KX G hm
  (case q8|q7|q9=>(refine' L2.OwnIn.mk ?n ?pg ?hd ?po ?sa ?mks ?kp;(case n=>k_is);(case pg=>k_is);(case hd=>k_is);(case po=>k_is);(case sa=>k_is);(case mks=>k_is);(case kp=>k_is)))
  (case qg|qh|qf|qk|ql|qm|qr|qs|qn|qai|qac|qaf|qad|qaj|qak|q1|qag=>k_is)
  (case qaa|qt|qV|qo|qp|qJ|qu=>(refine' L2.DcIn.mk ?a ?l ?c ?k;(case a=>k_is);(case l=>k_is);(case c=>k_is);(case k=>k_is)))
  (case hc1|hc2|hc3|hc4|hc5|hc6|hc7=>(exact rfl))
  (case q2|qab|qW|qv|q3|qX|qY|qw|q4|qx|qy|qz|q5|qK|qL|qae|qM|qN|qA|qB|qC|qO|qD|qq|qP|qE|qQ|qR|qZ|qj|qF|qS|q0|qG|qH|q6|qT|qU|qI|qah=>(refine' L2.DfIn.mk ?a ?l ?c ?k;(case a=>k_is);(case l=>k_is);(case c=>k_is);(case k=>k_is)))
  (case qd|qa|qb|qi|qe|qc=>(refine' L2.MeIn.mk ?a ?l ?c ?k ?n;(case a=>k_is);(case l=>k_is);(case c=>k_is);(case k=>k_is);(case n=>k_is)))
#print axioms PySem.Challenge.cw_reusewise_k49_whole_every_way_pays_holds
